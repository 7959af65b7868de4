/- A blue behind a pointer, and the contracts of its calls that only read. Conditions: those of each theorem. -/
import Derived.Test.YtedpikpknlaggaaAdds
import Derived.Test.YtedpikpknlaggaaBins
import Derived.Deep.OwnRows
import Derived.Deep.QuietTactic
import Derived.BigQuiet
import Derived.Deep.RegionWith
import Derived.RegionTactic
import Derived.ChangeAlike
import Derived.Deep.DeepCutAuto
import Derived.Lib.MinMax
namespace Go.Proofs.Ytedpikpknlaggaa
open Go.RowKit

theorem ret_bool {a b : Bool} (h : a = b) : Ending.returned (.bool a) = .returned (.bool b) := by rw [h]
theorem Blk.drew {w : World} {g : Nat} {t : TypeId} {cs : List Value} (h : Blk w g t cs) : Blk w.drew g t cs := h
theorem Blk.drewN {w : World} {g : Nat} {t : TypeId} {cs : List Value} (h : Blk w g t cs) (n : Nat) : Blk (w.drewN n) g t cs := h
def nobody : Nat → Prop := fun _ => False
def only (g : Nat) : Nat → Prop := fun k => k = g
theorem Blk.below {w w' : World} {g : Nat} {t : TypeId} {cs : List Value} (h : Blk w g t cs) (hb : Below w.heap.size w w') : Blk w' g t cs := h.far (Far.of_below hb nobody) (fun e => e)
theorem Ints.below {w w' : World} {A : Option Addr} {n : Nat} {zs : List Int} (h : Ints w A n zs) (hb : Below w.heap.size w w') : Ints w' A n zs :=
  ⟨h.1, fun h0 => by
    obtain ⟨ad, rfl, hc⟩ := h.2 h0
    exact ⟨ad, rfl, fun k hk => (hb.cell (World.block_lt_of_cell? w _ (hc k hk))).trans (hc k hk)⟩⟩
theorem Ints.far {S : Nat → Prop} {w w' : World} {A : Option Addr} {n : Nat} {zs : List Int} (h : Ints w A n zs) (hf : Far S w w') (hn : 0 < n → ∀ ad, A = some ad → ¬ S ad.block) : Ints w' A n zs :=
  ⟨h.1, fun h0 => by
    obtain ⟨ad, rfl, hc⟩ := h.2 h0
    exact ⟨ad, rfl, fun k hk => (World.cell?_of_block (hf.block _ (World.block_lt_of_cell? w _ (hc k hk)) (by rw [Addr.block_add]; exact hn h0 ad rfl))).trans (hc k hk)⟩⟩
theorem Ints.drewN {w : World} {A : Option Addr} {n : Nat} {zs : List Int} (h : Ints w A n zs) (N : Nat) : Ints (w.drewN N) A n zs := h

/-- A blue's blocks that turn. -/
def own (n g : Nat) (q : Nat → Nat) : Nat → Prop := fun k => k = g ∨ ∃ l, l < n ∧ k = q l
/-- A blue at block g, its levels in block s, level l in block q l. -/
def BAt (w : World) (g s : Nat) (q : Nat → Nat) (V : Blu) : Prop :=
  (∃ c, Blk w g 53 [.slice (some ⟨s, 0, none⟩) V.n c, .int .i64 (V.t : Nat), .int .i64 (V.h : Nat), .int .i64 (V.u : Nat), .int .i64 (V.d : Nat)]) ∧
  (∃ cs, Blk w s 54 cs ∧ ∀ l, l < V.n → cs[l]? = some (.slice (some ⟨q l, 0, none⟩) V.m V.m)) ∧
  (∀ l, l < V.n → Blk w (q l) 60 (cel false (V.B l) V.m)) ∧ (∀ l l', l < V.n → l' < V.n → q l = q l' → l = l') ∧ V.Ok
section
variable {w w' : World} {g s : Nat} {q : Nat → Nat} {V : Blu}
theorem BAt.ok (h : BAt w g s q V) : V.Ok := h.2.2.2.2
theorem BAt.far {T : Nat → Prop} (h : BAt w g s q V) (hf : Far T w w') (hg : ¬ T g) (hs : ¬ T s) (hq : ∀ l, l < V.n → ¬ T (q l)) : BAt w' g s q V := by
  obtain ⟨⟨c, h1⟩, ⟨cs, h2, h3⟩, h4, h5, h6⟩ := h
  exact ⟨⟨c, h1.far hf hg⟩, ⟨cs, h2.far hf hs, h3⟩, fun l hl => (h4 l hl).far hf (hq l hl), h5, h6⟩
theorem BAt.below (h : BAt w g s q V) (hb : Below w.heap.size w w') : BAt w' g s q V := h.far (Far.of_below hb nobody) (fun e => e) (fun e => e) (fun _ _ e => e)
theorem BAt.drew (h : BAt w g s q V) : BAt w.drew g s q V := h
theorem BAt.drewN (h : BAt w g s q V) (N : Nat) : BAt (w.drewN N) g s q V := h
theorem BAt.lt (h : BAt w g s q V) : g < w.heap.size ∧ s < w.heap.size ∧ ∀ l, l < V.n → q l < w.heap.size := by
  obtain ⟨⟨c, h1⟩, ⟨cs, h2, h3⟩, h4, h5, h6⟩ := h
  exact ⟨h1.lt, h2.lt, fun l hl => (h4 l hl).lt⟩
theorem BAt.head (h : BAt w g s q V) : ∃ c, w.cell? ⟨g, 0, none⟩ = some (.slice (some ⟨s, 0, none⟩) V.n c) := by
  obtain ⟨⟨c, h1⟩, _⟩ := h
  exact ⟨c, h1.cell 0⟩
theorem BAt.nums (h : BAt w g s q V) : w.cell? ⟨g, 1, none⟩ = some (.int .i64 (V.t : Nat)) ∧ w.cell? ⟨g, 2, none⟩ = some (.int .i64 (V.h : Nat)) ∧ w.cell? ⟨g, 3, none⟩ = some (.int .i64 (V.u : Nat)) ∧ w.cell? ⟨g, 4, none⟩ = some (.int .i64 (V.d : Nat)) := by
  obtain ⟨⟨c, h1⟩, _⟩ := h
  exact ⟨h1.cell 1, h1.cell 2, h1.cell 3, h1.cell 4⟩
theorem BAt.frozen (h : BAt w g s q V) (i : Nat) : w.frozen? ⟨g, i, none⟩ = false := by
  obtain ⟨⟨c, h1⟩, _⟩ := h
  exact h1.frozen i
theorem BAt.lev (h : BAt w g s q V) {l : Nat} (hl : l < V.n) : w.cell? ⟨s, l, none⟩ = some (.slice (some ⟨q l, 0, none⟩) V.m V.m) := by
  obtain ⟨_, ⟨cs, h2, h3⟩, _⟩ := h
  exact (h2.cell l).trans (h3 l hl)
theorem BAt.bin (h : BAt w g s q V) {l k : Nat} (hl : l < V.n) (hk : k < V.m) : w.cell? ⟨q l, k * 3, none⟩ = some (.int .i64 ((V.B l k).b : Nat)) ∧ w.cell? ⟨q l, k * 3 + 1, none⟩ = some (.int .i64 ((V.B l k).p : Nat)) ∧ w.cell? ⟨q l, k * 3 + 2, none⟩ = some (.int .i64 ((V.B l k).c : Nat)) := by
  have hb := h.2.2.1 l hl
  exact ⟨(hb.cell _).trans (cel_b hk), (hb.cell _).trans (cel_1 hk), (hb.cell _).trans (cel_2 hk)⟩
theorem BAt.soft (h : BAt w g s q V) {l : Nat} (hl : l < V.n) (i : Nat) : w.frozen? ⟨q l, i, none⟩ = false := (h.2.2.1 l hl).frozen i
theorem BAt.apart (h : BAt w g s q V) {l : Nat} (hl : l < V.n) : g ≠ q l ∧ s ≠ q l := by
  obtain ⟨⟨c, h1⟩, ⟨cs, h2, h3⟩, h4, h5, h6⟩ := h
  exact ⟨h1.apart (h4 l hl) (by decide), h2.apart (h4 l hl) (by decide)⟩
theorem BAt.top (h : BAt w g s q V) : g ≠ s := by
  obtain ⟨⟨c, h1⟩, ⟨cs, h2, h3⟩, h4, h5, h6⟩ := h
  exact h1.apart h2 (by decide)
/-- One level's bins turned. -/
theorem BAt.turn (h : BAt w g s q V) {B : Bins} {l : Nat} (hl : l < V.n) (hf : Far (only (q l)) w w') (hb : Blk w' (q l) 60 (cel false (B l) V.m)) (ho : ∀ i, i ≠ l → B i = V.B i) (hB : BOk B) : BAt w' g s q (V.put B) := by
  have ⟨a1, a2⟩ := h.apart hl
  obtain ⟨⟨c, h1⟩, ⟨cs, h2, h3⟩, h4, h5, h6⟩ := h
  refine ⟨⟨c, h1.far hf a1⟩, ⟨cs, h2.far hf a2, h3⟩, fun i hi => ?_, h5, h6.put hB⟩
  by_cases e : i = l
  · subst e; exact hb
  · have := (h4 i hi).far hf (fun e' => e (h5 _ _ hi hl e'))
    show Blk w' (q i) 60 (cel false (B i) V.m)
    rw [ho i e]
    exact this
end
theorem put_put (V : Blu) (B C : Bins) : (V.put B).put C = V.put C := rfl
theorem put_self (V : Blu) : V.put V.B = V := rfl

set_option maxHeartbeats 400000 in
theorem isBytes_ (x : Int) (w : World) : Calls Try.prog 26 #[.int .i64 x] w fun e w' => e = .returned (.bool (isz x)) ∧ w = w' := by
  rcases h0 : decide (0 ≤ x) with _ | _
  · go_enter Try.func26, Try.ntmps26
    go_wp2
    go_ret
    exact ⟨ret_bool (by simp [isz, h0]), rfl⟩
  · rcases h1 : decide (x ≤ 1073741824) with _ | _
    all_goals
      go_enter Try.func26, Try.ntmps26
      go_wp2
      go_ret
      exact ⟨ret_bool (by simp [isz, h0, h1]), rfl⟩
set_option maxHeartbeats 400000 in
theorem isStep_ (x : Int) (w : World) : Calls Try.prog 40 #[.int .i64 x] w fun e w' => e = .returned (.bool (ist x)) ∧ w = w' := by
  rcases h0 : decide (0 ≤ x) with _ | _
  · go_enter Try.func40, Try.ntmps40
    go_wp2
    go_ret
    exact ⟨ret_bool (by simp [ist, h0]), rfl⟩
  · rcases h1 : decide (x ≤ 65536) with _ | _
    all_goals
      go_enter Try.func40, Try.ntmps40
      go_wp2
      go_ret
      exact ⟨ret_bool (by simp [ist, h0, h1]), rfl⟩
set_option maxHeartbeats 400000 in
theorem mayBe_ (t u d : Int) (w : World) : Calls Try.prog 25 #[.int .i64 t, .int .i64 u, .int .i64 d] w fun e w' => e = .returned (.bool (may t u d)) ∧ w = w' := by
  rcases h0 : isz t with _ | _
  · go_enter Try.func25, Try.ntmps25
    go_wp2_with (go_at_call 26; (with_reducible refine (isBytes_ _ _).mono ?_); rintro e w' ⟨rfl, rfl⟩; rw [h0])
    go_ret
    exact ⟨ret_bool (by simp [may, h0]), rfl⟩
  · rcases h1 : ist u with _ | _
    · go_enter Try.func25, Try.ntmps25
      go_wp2_with (first | (go_at_call 26; (with_reducible refine (isBytes_ _ _).mono ?_); rintro e w' ⟨rfl, rfl⟩; rw [h0]) | (go_at_call 40; (with_reducible refine (isStep_ u _).mono ?_); rintro e w' ⟨rfl, rfl⟩; rw [h1]))
      go_ret
      exact ⟨ret_bool (by simp [may, h0, h1]), rfl⟩
    · rcases h2 : ist d with _ | _
      all_goals
        go_enter Try.func25, Try.ntmps25
        go_wp2_with (first | (go_at_call 26; (with_reducible refine (isBytes_ _ _).mono ?_); rintro e w' ⟨rfl, rfl⟩; rw [h0]) | (go_at_call 40; (with_reducible refine (isStep_ u _).mono ?_); rintro e w' ⟨rfl, rfl⟩; rw [h1]) | (go_at_call 40; (with_reducible refine (isStep_ d _).mono ?_); rintro e w' ⟨rfl, rfl⟩; rw [h2]))
        go_ret
        exact ⟨ret_bool (by simp [may, h0, h1, h2]), rfl⟩
set_option maxHeartbeats 400000 in
theorem asTime_ (x : Int) (w : World) : Calls Try.prog 36 #[.int .i64 x] w fun e w' => e = .returned (.int .i64 (asT x : Nat)) ∧ w = w' := by
  have he := asT_eq x
  generalize asT x = T at *
  go_enter Try.func36, Try.ntmps36
  go_wp2
  go_ret
  exact ⟨rfl, rfl⟩
set_option maxHeartbeats 400000 in
theorem sub_ (b n : Nat) (w : World) (hb : b ≤ 4611686018427387904) (hn : n ≤ 4611686018427387904) : Calls Try.prog 35 #[.int .i64 (b : Nat), .int .i64 (n : Nat)] w fun e w' => e = .returned (.int .i64 ((b - n : Nat) : Int)) ∧ w = w' := by
  have C1 := Lib.hid (fun W => by have := count_any (b : Int) W; rw [cnt_id (by omega) (by omega)] at this; exact this)
  have C2 := Lib.hid (fun W => by have := count_any (n : Int) W; rw [cnt_id (by omega) (by omega)] at this; exact this)
  have C3 := Lib.hid (fun W => by have := count_any ((b : Int) - (n : Int)) W; rw [show cnt ((b : Int) - (n : Int)) = ((b - n : Nat) : Int) by unfold cnt; (repeat' split) <;> omega] at this; exact this)
  go_enter Try.func35, Try.ntmps35
  go_wp2_with (go_at_call 43; first | ((with_reducible refine (C1.out _).mono ?_); rintro e w' ⟨rfl, rfl⟩) | ((with_reducible refine (C2.out _).mono ?_); rintro e w' ⟨rfl, rfl⟩) | ((with_reducible refine (C3.out _).mono ?_); rintro e w' ⟨rfl, rfl⟩))
  go_ret
  exact ⟨rfl, rfl⟩

def hasV (n m : Nat) (l x : Int) : Bool := decide (0 ≤ l) && decide (l < (n : Int)) && decide (0 ≤ x) && decide (x < (m : Int))
set_option maxHeartbeats 1000000 in
theorem has_ (g s : Nat) (q : Nat → Nat) (V : Blu) (l x : Int) (w : World) (h : BAt w g s q V) :
    Calls Try.prog 39 #[.pointer (some ⟨g, 0, none⟩), .int .i64 l, .int .i64 x] w fun e w' => e = .returned (.bool (hasV V.n V.m l x)) ∧ w = w' := by
  obtain ⟨c, hc⟩ := h.head
  have HL := Lib.hid (fun l hl => h.lev (l := l) hl)
  have hn := h.ok.n2
  have hm := h.ok.m2
  clear h
  generalize V.n = n at *
  generalize V.m = m at *
  rcases h0 : decide (0 ≤ l) with _ | _
  · have HE : Hid (false = hasV n m l x) := by show _ = _; rw [hasV, h0]; rfl
    go_enter Try.func39, Try.ntmps39
    go_wp2
    go_ret
    exact ⟨ret_bool HE.out, rfl⟩
  · rcases h1 : decide (l < (n : Int)) with _ | _
    · have HE : Hid (false = hasV n m l x) := by show _ = _; rw [hasV, h0, h1]; rfl
      go_enter Try.func39, Try.ntmps39
      go_wp2
      go_ret
      exact ⟨ret_bool HE.out, rfl⟩
    · rcases h2 : decide (0 ≤ x) with _ | _
      · have HE : Hid (false = hasV n m l x) := by show _ = _; rw [hasV, h0, h1, h2]; rfl
        go_enter Try.func39, Try.ntmps39
        go_wp2
        go_ret
        exact ⟨ret_bool HE.out, rfl⟩
      · have HE : Hid (decide (x < (m : Int)) = hasV n m l x) := by show _ = _; rw [hasV, h0, h1, h2]; rfl
        obtain ⟨k, rfl⟩ : ∃ k : Nat, l = k := ⟨l.toNat, by have := of_decide_eq_true h0; omega⟩
        have hk : k < n := by have := of_decide_eq_true h1; omega
        have hv := HL.out k hk
        rcases h3 : decide (x < (m : Int)) with _ | _
        all_goals
          rw [h3] at HE
          go_enter Try.func39, Try.ntmps39
          go_wp2
          go_ret
          exact ⟨ret_bool HE.out, rfl⟩

theorem flow_iff {n m : Nat} {xs : List Int} : flow n m xs = true ↔ xs.length = n ∧ ∀ j, j < n → hasV n m (j : Nat) (xs.getD j 0) = true := by
  constructor
  · intro h
    refine ⟨flow_len h, fun j hj => ?_⟩
    have := flow_at h hj
    simp only [hasV, Bool.and_eq_true, decide_eq_true_eq]
    omega
  · rintro ⟨h1, h2⟩
    simp only [flow, Bool.and_eq_true, decide_eq_true_eq, List.all_eq_true]
    refine ⟨h1, fun x hx => ?_⟩
    obtain ⟨j, hj, rfl⟩ := List.getElem_of_mem hx
    have := h2 j (by omega)
    simp only [hasV, Bool.and_eq_true, decide_eq_true_eq, List.getD_eq_getElem?_getD, List.getElem?_eq_getElem hj, Option.getD_some] at this
    omega
theorem flow_none {n m j : Nat} {xs : List Int} (hj : j < n) (h : hasV n m (j : Nat) (xs.getD j 0) = false) : flow n m xs = false := by
  rcases hf : flow n m xs with _ | _
  · rfl
  · rw [(flow_iff.1 hf).2 j hj] at h
    cases h
theorem flow_short {n m : Nat} {xs : List Int} (h : xs.length ≠ n) : flow n m xs = false := by simp [flow, h]
set_option maxHeartbeats 1000000 in
theorem isFlow_ (g s : Nat) (q : Nat → Nat) (V : Blu) (A : Option Addr) (nb cb : Nat) (xs : List Int) (w : World) (h : BAt w g s q V) (hi : Ints w A nb xs) (hnb : nb ≤ 1000000) :
    Calls Try.prog 41 #[.pointer (some ⟨g, 0, none⟩), .slice A nb cb] w fun e w' => e = .returned (.bool (flow V.n V.m xs)) ∧ w = w' := by
  have HQ := Lib.hid h
  have HI := Lib.hid hi
  obtain ⟨c, hc⟩ := h.head
  have hn := h.ok.n2
  have hn1 := h.ok.n1
  obtain ⟨n, hvn⟩ : ∃ n, V.n = n := ⟨_, rfl⟩
  rw [hvn] at hn hn1 hc ⊢
  have HV := Lib.hid hvn
  clear h hi hvn
  by_cases h0 : nb = 0
  · subst h0
    have HE : Hid (false = flow n V.m xs) := (flow_short (by have := HI.out.1; omega)).symm
    go_enter Try.func41, Try.ntmps41
    go_wp2
    go_ret
    exact ⟨ret_bool HE.out, rfl⟩
  · have hd0 : ((nb : Int) == 0) = false := by simp; omega
    have hd0' : (nb == 0) = false := by simp; omega
    by_cases h1 : nb = n
    · have hd1 : ((nb : Int) != (n : Int)) = false := by simp; omega
      have hd1' : (nb != n) = false := by simp; omega
      have HN := Lib.hid h1
      clear h1 h0
      go_enter Try.func41, Try.ntmps41
      go_wp2
      go_loop [5, 6, 26] (fun _ _ i => ∃ k : Nat, k ≤ nb ∧ i = .int .i64 k ∧ ∀ j, j < k → hasV n V.m (j : Nat) (xs.getD j 0) = true) (fun _ _ i => nb - (intOf i).toNat)
      case atStart => exact ⟨0, by omega, rfl, fun j hj => absurd hj (by omega)⟩
      case round =>
        obtain ⟨k, hk, rfl, hall⟩ := hrel
        have HA := Lib.hid hall
        clear hall
        by_cases hlt : k < nb
        · have hd : decide ((k : Int) < (nb : Int)) = true := by simp; omega
          obtain ⟨ad, rfl, hcx⟩ := HI.out.at_ hlt
          have HH := Lib.hid (has_ g s q V (k : Nat) (xs.getD k 0) w HQ.out)
          rw [HV.out] at HH
          rcases hh : hasV n V.m (k : Nat) (xs.getD k 0) with _ | _
          · have HE : Hid (false = flow n V.m xs) := (flow_none (by have := HN.out; omega) hh).symm
            rw [hh] at HH
            generalize xs.getD k 0 = x at *
            go_wp2_with (go_at_call 39; (with_reducible refine HH.out.mono ?_); rintro e w' ⟨rfl, rfl⟩)
            go_ret
            exact ⟨ret_bool HE.out, rfl⟩
          · have HE : Hid (∀ j, j < k + 1 → hasV n V.m (j : Nat) (xs.getD j 0) = true) := fun j hj => by
              rcases (by omega : j < k ∨ j = k) with h | rfl
              · exact HA.out j h
              · exact hh
            rw [hh] at HH
            generalize xs.getD k 0 = x at *
            go_wp2_with (go_at_call 39; (with_reducible refine HH.out.mono ?_); rintro e w' ⟨rfl, rfl⟩)
            go_round
            case rel => exact ⟨k + 1, by omega, by go_num, HE.out⟩
            case measure => simp [intOf]; omega
        · have HE : Hid (true = flow n V.m xs) := by
            refine (flow_iff.2 ⟨by have := HI.out.1; have := HN.out; omega, fun j hj => HA.out j (by have := HN.out; omega)⟩).symm
          have hd : decide ((k : Int) < (nb : Int)) = false := by simp; omega
          go_wp2
          go_ret
          exact ⟨ret_bool HE.out, rfl⟩
    · have hd1 : ((nb : Int) != (n : Int)) = true := by simp; omega
      have hd1' : (nb != n) = true := by simp; omega
      have HE : Hid (false = flow n V.m xs) := (flow_short (by have := HI.out.1; omega)).symm
      clear h1 h0
      go_enter Try.func41, Try.ntmps41
      go_wp2
      go_ret
      exact ⟨ret_bool HE.out, rfl⟩
end Go.Proofs.Ytedpikpknlaggaa
