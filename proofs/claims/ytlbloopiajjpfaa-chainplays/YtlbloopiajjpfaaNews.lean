/- The contracts of chain's New, of chains that aren't, and of awake. Conditions: those of each theorem. -/
import Derived.Test.YtlbloopiajjpfaaActs
namespace Go.Proofs.Ytlbloopiajjpfaa
open Go.RowKit

/-- make of elements of more than one cell. -/
theorem run_make_many {P : Program} (t e : TypeId) (z : Value) (cs : Array Value) (size bytes : Nat) (ht : P.underlying t = some (.slice e)) (hinfo : (P.info? e).map (fun i => (i.zero, i.size, i.bytes)) = some (some z, size, bytes)) (hz : z.cells = cs)
    (kl kc : IntKind) (n : Nat) (hbytes : bytes * n ≤ 281474976710656) (h63 : n ≤ 9223372036854775807) (w : World) :
    (Instr.makeSlice t (.int kl (n : Int)) (.int kc (n : Int))).run P w = .ok (.slice (some ⟨w.heap.size, 0, none⟩) n n) (w.alloc (.cells (madeCells cs (n * size)) e)) := by
  obtain ⟨i, hi, hzz⟩ := Option.map_eq_some_iff.1 hinfo
  simp only [Prod.mk.injEq] at hzz
  obtain ⟨hz0, hs, hb⟩ := hzz
  have hb' : (i.bytes : Int) * (n : Int) ≤ 281474976710656 := by
    have h : ((i.bytes * n : Nat) : Int) ≤ 281474976710656 := by rw [hb]; omega
    rwa [Int.natCast_mul] at h
  have hr := run_make (P := P) w t e i z ht hi hz0 kl kc n n (by omega) (Int.le_refl _) hb' (by omega)
  simp only [Int.toNat_natCast, hs, hz] at hr
  exact hr
/-- The cells of places that are in no line. -/
def bareSpots (k : Nat) : List Value := (madeCells #[.int .i64 0, .int .i64 0, .bool false] (k * 3)).toList
def bareLines (k : Nat) : List Value := (madeCells #[.int .i64 0, .int .i64 0] (k * 2)).toList
/-- New's lines, so far: k of them are laid. -/
def Laid (n m k : Nat) (qs : List Value) : Prop := qs.length = n * 2 ∧ (∀ j, j < k → qs[j * 2]? = some (Value.int .i64 ((m + j : Nat) : Int))) ∧ ∀ j, j < n → qs[j * 2 + 1]? = some (Value.int .i64 0)
/-- Where New's loop stands. -/
def NewRel (w : World) (g q s n m k : Nat) (w' : World) : Prop :=
  ∃ qs, HeadAt w' g q s n m ∧ Blk w' q 54 qs ∧ Blk w' s 57 (bareSpots (m + n)) ∧ Laid n m k qs ∧ Below w.heap.size w w'
/-- Three new blocks. -/
def NewAt (w : World) (g q f : Nat) : Prop := w.heap.size ≤ g ∧ w.heap.size ≤ q ∧ w.heap.size ≤ f ∧ g ≠ q ∧ g ≠ f ∧ q ≠ f
/-- What New answers. -/
def NewPost (n m : Nat) (w : World) (e : Ending) (w' : World) : Prop :=
  ∃ g q s, e = .returned (.tuple #[.pointer (some ⟨g, 0, none⟩), .int .i64 0]) ∧ ChAt w' g q s n m (List.replicate n []) ∧ NewAt w g q s ∧ Below w.heap.size w w'
theorem laid_none (n m : Nat) : Laid n m 0 (bareLines n) := by
  refine ⟨by simpa [bareLines] using size_madeCells #[.int .i64 0, .int .i64 0] (n * 2), fun j hj => absurd hj (by omega), fun j hj => ?_⟩
  have e2 : j * 2 + 1 < n * 2 := by omega
  have e3 : (j * 2 + 1) % 2 = 1 := by omega
  simp [bareLines, madeCells, e2, e3]
theorem laid_more {n m k : Nat} {qs : List Value} (h : Laid n m k qs) (hk : k < n) : Laid n m (k + 1) (qs.set (k * 2) (.int .i64 ((m + k : Nat) : Int))) := by
  obtain ⟨h1, h2, h3⟩ := h
  refine ⟨by simpa using h1, fun j hj => ?_, fun j hj => ?_⟩
  · by_cases e : k = j
    · subst e
      exact List.getElem?_set_self (by omega)
    · rw [List.getElem?_set_ne (by omega)]
      exact h2 j (by omega)
  · rw [List.getElem?_set_ne (by omega)]
    exact h3 j hj
theorem bare_at {k j : Nat} (h : j < k) : (bareSpots k)[j * 3]? = some (.int .i64 0) ∧ (bareSpots k)[j * 3 + 1]? = some (.int .i64 0) ∧ (bareSpots k)[j * 3 + 2]? = some (.bool false) := by
  have e1 : j * 3 < k * 3 := by omega
  have e2 : j * 3 + 1 < k * 3 := by omega
  have e3 : j * 3 + 2 < k * 3 := by omega
  have e4 : (j * 3 + 1) % 3 = 1 := by omega
  have e5 : (j * 3 + 2) % 3 = 2 := by omega
  refine ⟨?_, ?_, ?_⟩ <;> simp [bareSpots, madeCells, e1, e2, e3, e4, e5]
theorem lined_new {n m : Nat} {qs : List Value} (h0 : 1 ≤ n) (h1 : n ≤ 129) (h2 : 1 ≤ m) (h3 : m ≤ 4096) (h : Laid n m n qs) : Lined n m (List.replicate n []) qs (bareSpots (m + n)) := by
  have hrep : ∀ (l : Nat) (xs : List Nat), (List.replicate n ([] : List Nat))[l]? = some xs → l < n ∧ xs = [] := fun l xs hl => by
    rw [List.getElem?_replicate] at hl
    split at hl
    case isTrue hi =>
      injection hl with hl
      exact ⟨hi, hl.symm⟩
    case isFalse => cases hl
  refine ⟨h0, h1, h2, h3, by simp, h.1, by simpa [bareSpots] using size_madeCells #[.int .i64 0, .int .i64 0, .bool false] ((m + n) * 3), ?_, ?_, ?_, ?_, ?_⟩
  · intro l xs hl
    obtain ⟨hln, rfl⟩ := hrep l xs hl
    exact ⟨h.2.1 l hln, h.2.2 l hln⟩
  · intro l xs hl
    obtain ⟨hln, rfl⟩ := hrep l xs hl
    exact ⟨trivial, by simp⟩
  · intro j hj
    exact ⟨0, (bare_at hj).1⟩
  · intro l xs p hl hp
    obtain ⟨hln, rfl⟩ := hrep l xs hl
    simp at hp
  · intro p hp _
    exact (bare_at (by omega)).2
theorem HeadAt.drew {w : World} {g q s n m : Nat} (h : HeadAt w g q s n m) : HeadAt w.drew g q s n m := h
theorem new_one (w : World) (n m : Nat) : NewRel w (w.heap.size + 1 + 1) w.heap.size (w.heap.size + 1) n m 0 (((w.alloc (.cells (madeCells #[.int .i64 0, .int .i64 0] (n * 2)) 54)).alloc (.cells (madeCells #[.int .i64 0, .int .i64 0, .bool false] ((m + n) * 3)) 57)).alloc (.cells #[.slice (some ⟨w.heap.size, 0, none⟩) n n, .slice (some ⟨w.heap.size + 1, 0, none⟩) (m + n) (m + n)] 52)).drew := by
  refine ⟨bareLines n, ?_, ?_, ?_, laid_none n m, ((((Below.refl _ _).alloc (Nat.le_refl _) _).alloc (by simp) _).alloc (by simp; omega) _).drew⟩
  · have := (Blk.new ((w.alloc (.cells (madeCells #[.int .i64 0, .int .i64 0] (n * 2)) 54)).alloc (.cells (madeCells #[.int .i64 0, .int .i64 0, .bool false] ((m + n) * 3)) 57)) 52 [.slice (some ⟨w.heap.size, 0, none⟩) n n, .slice (some ⟨w.heap.size + 1, 0, none⟩) (m + n) (m + n)]).drew
    simpa [HeadAt] using this
  · have := (((Blk.new w 54 (bareLines n)).alloc (.cells (madeCells #[.int .i64 0, .int .i64 0, .bool false] ((m + n) * 3)) 57)).alloc (.cells #[.slice (some ⟨w.heap.size, 0, none⟩) n n, .slice (some ⟨w.heap.size + 1, 0, none⟩) (m + n) (m + n)] 52)).drew
    simpa [bareLines] using this
  · have := ((Blk.new (w.alloc (.cells (madeCells #[.int .i64 0, .int .i64 0] (n * 2)) 54)) 57 (bareSpots (m + n))).alloc (.cells #[.slice (some ⟨w.heap.size, 0, none⟩) n n, .slice (some ⟨w.heap.size + 1, 0, none⟩) (m + n) (m + n)] 52)).drew
    simpa [bareSpots] using this
theorem new_two (w : World) (n m : Nat) : NewRel w (w.heap.size + 1 + 1) (w.heap.size + 1) w.heap.size n m 0 (((w.alloc (.cells (madeCells #[.int .i64 0, .int .i64 0, .bool false] ((m + n) * 3)) 57)).alloc (.cells (madeCells #[.int .i64 0, .int .i64 0] (n * 2)) 54)).alloc (.cells #[.slice (some ⟨w.heap.size + 1, 0, none⟩) n n, .slice (some ⟨w.heap.size, 0, none⟩) (m + n) (m + n)] 52)).drew := by
  refine ⟨bareLines n, ?_, ?_, ?_, laid_none n m, ((((Below.refl _ _).alloc (Nat.le_refl _) _).alloc (by simp) _).alloc (by simp; omega) _).drew⟩
  · have := (Blk.new ((w.alloc (.cells (madeCells #[.int .i64 0, .int .i64 0, .bool false] ((m + n) * 3)) 57)).alloc (.cells (madeCells #[.int .i64 0, .int .i64 0] (n * 2)) 54)) 52 [.slice (some ⟨w.heap.size + 1, 0, none⟩) n n, .slice (some ⟨w.heap.size, 0, none⟩) (m + n) (m + n)]).drew
    simpa [HeadAt] using this
  · have := ((Blk.new (w.alloc (.cells (madeCells #[.int .i64 0, .int .i64 0, .bool false] ((m + n) * 3)) 57)) 54 (bareLines n)).alloc (.cells #[.slice (some ⟨w.heap.size + 1, 0, none⟩) n n, .slice (some ⟨w.heap.size, 0, none⟩) (m + n) (m + n)] 52)).drew
    simpa [bareLines] using this
  · have := (((Blk.new w 57 (bareSpots (m + n))).alloc (.cells (madeCells #[.int .i64 0, .int .i64 0] (n * 2)) 54)).alloc (.cells #[.slice (some ⟨w.heap.size + 1, 0, none⟩) n n, .slice (some ⟨w.heap.size, 0, none⟩) (m + n) (m + n)] 52)).drew
    simpa [bareSpots] using this
theorem new_step {w w' : World} {g q s n m k : Nat} (h : NewRel w g q s n m k w') (ha : NewAt w g q s) (hk : k < n) (N : Nat) : NewRel w g q s n m (k + 1) ((w'.drewN N).setCell ⟨q, k * 2, none⟩ (.int .i64 ((m + k : Nat) : Int))) := by
  obtain ⟨qs, b1, b2, b3, hl, hb⟩ := h
  obtain ⟨a1, a2, a3, n1, n2, n3⟩ := ha
  have hb' : Below w.heap.size w (w'.drewN N) := ⟨hb.os, hb.tape, hb.output, hb.size, hb.block⟩
  exact ⟨_, (b1.drewN N).other (p := ⟨q, _, none⟩) n1 _, (b2.drewN N).set_ _ _, (b3.drewN N).other (p := ⟨q, _, none⟩) (fun e => n3 e.symm) _, laid_more hl hk, hb'.setCell a2 _⟩
theorem new_end {w w' : World} {g q s n m : Nat} (h : NewRel w g q s n m n w') (ha : NewAt w g q s) (h0 : 1 ≤ n) (h1 : n ≤ 129) (h2 : 1 ≤ m) (h3 : m ≤ 4096) : NewPost n m w (.returned (.tuple #[.pointer (some ⟨g, 0, none⟩), .int .i64 0])) w' := by
  obtain ⟨qs, b1, b2, b3, hl, hb⟩ := h
  have ha' := ha
  obtain ⟨a1, a2, a3, n1, n2, n3⟩ := ha
  exact ⟨g, q, s, rfl, ⟨_, _, b1, b2, b3, n1, n2, n3, lined_new h0 h1 h2 h3 hl⟩, ha', hb⟩
set_option maxHeartbeats 1000000 in
theorem new_ (n m : Nat) (x y : Int) (w : World) (hx : x = n) (hy : y = m) (h0 : 1 ≤ n) (h1 : n ≤ 129) (h2 : 1 ≤ m) (h3 : m ≤ 4096) :
    Calls Try.prog 8 #[.int .i64 x, .int .i64 y] w (NewPost n m w) := by
  subst hx hy
  have hmk := fun W => run_make_many (P := Try.prog) 49 54 (.agg #[.int .i64 0, .int .i64 0]) #[.int .i64 0, .int .i64 0] 2 16 Try.underlying49 (by kernel_rfl) rfl .i64 .i64 n (by omega) (by omega) W
  have hmf := fun W => run_make_many (P := Try.prog) 50 57 (.agg #[.int .i64 0, .int .i64 0, .bool false]) #[.int .i64 0, .int .i64 0, .bool false] 3 24 Try.underlying50 (by kernel_rfl) rfl .i64 .i64 (m + n) (by omega) (by omega) W
  simp only [Int.natCast_add] at hmf
  have hd : decide ((n : Int) < 1) = false := by simp; omega
  have hd2 : decide ((129 : Int) < (n : Int)) = false := by simp; omega
  have hd3 : decide ((m : Int) < 1) = false := by simp; omega
  have hd4 : decide ((4096 : Int) < (m : Int)) = false := by simp; omega
  go_enter Try.func8, Try.ntmps8
  go_upto_region 3 with fail
  go_cut [6] (fun p wx => ∃ g q s, p = .pointer (some ⟨g, 0, none⟩) ∧ NewAt w g q s ∧ NewRel w g q s n m 0 wx)
  case first =>
    go_region
    · go_wp2_with fail
      go_meet
      case rel => exact ⟨_, _, _, rfl, ⟨by omega, by omega, by omega, by omega, by omega, by omega⟩, new_one w n m⟩
    · go_wp2_with fail
      go_meet
      case rel => exact ⟨_, _, _, rfl, ⟨by omega, by omega, by omega, by omega, by omega, by omega⟩, new_two w n m⟩
  case rest =>
    obtain ⟨g, q, s, rfl, ha, hr⟩ := hcut
    have HR0 := Lib.hid hr
    have HA := Lib.hid ha
    have hc0 : wc.cell? ⟨g, 0, none⟩ = some (.slice (some ⟨q, 0, none⟩) n n) := by obtain ⟨fs, b1, _⟩ := hr; exact b1.cell 0
    clear hr ha
    go_wp2_with fail
    clear hc0
    go_loopw [7, 35] (fun _ i w' => ∃ k : Nat, k ≤ n ∧ i = .int .i64 k ∧ NewRel w g q s n m k w') (fun _ i _ => n - (intOf i).toNat)
    case atStart => exact ⟨0, by omega, rfl, HR0.out⟩
    case round =>
      obtain ⟨k, hk, rfl, hr⟩ := hrel
      have HR := Lib.hid hr
      obtain ⟨qs, b1, b2, b3, hl, hb⟩ := hr
      have HH := Lib.hid b1
      by_cases hlt : k < n
      · have hd5 : decide ((k : Int) < (n : Int)) = true := by simp; omega
        have hc0 : wr.cell? ⟨g, 0, none⟩ = some (.slice (some ⟨q, 0, none⟩) n n) := b1.cell 0
        obtain ⟨o, ho⟩ : ∃ o, wr.cell? ⟨q, k * 2, none⟩ = some o := by rw [b2.cell]; exact ⟨_, List.getElem?_eq_getElem (by have := hl.1; omega)⟩
        have hfo := b2.frozen (k * 2)
        clear b1 b2 b3 hl hb
        go_wp2_with fail
        go_region_with (go_at_call 21; (with_reducible refine (head_ g q s n m k _ _ (HeadAt.drew HH.out) rfl (by omega) h1 h3).mono ?_); rintro e w' ⟨rfl, N, rfl⟩)
        all_goals
          go_wp2_with fail
          go_roundw
          case rel => exact ⟨k + 1, by omega, by go_num, new_step HR.out HA.out hlt _⟩
          case measure => simp [intOf]; omega
      · obtain rfl : k = n := by omega
        have hd3 : decide ((k : Int) < (k : Int)) = false := by simp
        clear b1 b2 b3 hl hb
        go_wp2
        go_ret2
        exact new_end HR.out HA.out h0 h1 h2 h3
set_option maxHeartbeats 400000 in
theorem newbad (x y : Int) (w : World) (h : x < 1 ∨ 129 < x ∨ y < 1 ∨ 4096 < y) : Calls Try.prog 8 #[.int .i64 x, .int .i64 y] w fun e w' => e = .returned (.tuple #[.pointer none, .int .i64 1]) ∧ w = w' := by
  by_cases h1 : x < 1
  · have hd : decide (x < 1) = true := by simpa using h1
    clear h
    go_enter Try.func8, Try.ntmps8
    go_wp2
    go_ret2
    exact ⟨rfl, rfl⟩
  · have hd : decide (x < 1) = false := by simpa using h1
    by_cases h2 : 129 < x
    · have hd2 : decide ((129 : Int) < x) = true := by simp; omega
      clear h
      go_enter Try.func8, Try.ntmps8
      go_wp2
      go_ret2
      exact ⟨rfl, rfl⟩
    · have hd2 : decide ((129 : Int) < x) = false := by simp; omega
      by_cases h3 : y < 1
      · have hd3 : decide (y < 1) = true := by simp; omega
        clear h
        go_enter Try.func8, Try.ntmps8
        go_wp2
        go_ret2
        exact ⟨rfl, rfl⟩
      · have hd3 : decide (y < 1) = false := by simp; omega
        have hd4 : decide ((4096 : Int) < y) = true := by simp; omega
        clear h
        go_enter Try.func8, Try.ntmps8
        go_wp2
        go_ret2
        exact ⟨rfl, rfl⟩
set_option maxHeartbeats 400000 in
theorem hasline_nil (x : Int) (w : World) : Calls Try.prog 22 #[.pointer none, .int .i64 x] w fun e w' => e = .returned (.bool false) ∧ w = w' := by
  go_enter Try.func22, Try.ntmps22
  go_wp2
  go_ret
  exact ⟨rfl, rfl⟩
set_option maxHeartbeats 400000 in
theorem len_nil (x : Int) (w : World) : Calls Try.prog 9 #[.pointer none, .int .i64 x] w fun e w' => e = .returned (.int .i64 0) ∧ w = w' := by
  go_enter Try.func9, Try.ntmps9
  go_wp2_with (go_at_call 22; (with_reducible refine (hasline_nil _ _).mono ?_); rintro e w' ⟨rfl, rfl⟩)
  go_ret
  exact ⟨rfl, rfl⟩
set_option maxHeartbeats 400000 in
theorem push_nil (x y : Int) (w : World) : Calls Try.prog 10 #[.pointer none, .int .i64 x, .int .i64 y] w fun e w' => e = .returned (.bool false) ∧ w = w' := by
  go_enter Try.func10, Try.ntmps10
  go_wp2_with (go_at_call 22; (with_reducible refine (hasline_nil _ _).mono ?_); rintro e w' ⟨rfl, rfl⟩)
  go_ret
  exact ⟨rfl, rfl⟩
set_option maxHeartbeats 400000 in
theorem at_nil (x k : Int) (w : World) : Calls Try.prog 19 #[.pointer none, .int .i64 x, .int .i64 k] w fun e w' => e = .returned (.tuple #[.int .i64 0, .bool false]) ∧ w = w' := by
  by_cases h0 : k < 0
  · have hd : decide (k < 0) = true := by simpa using h0
    go_enter Try.func19, Try.ntmps19
    go_wp2
    go_ret2
    exact ⟨rfl, rfl⟩
  · have hd : decide (k < 0) = false := by simpa using h0
    have hd2 : decide (0 ≤ k) = true := by simp; omega
    go_enter Try.func19, Try.ntmps19
    go_wp2_with (go_at_call 9; (with_reducible refine (len_nil _ _).mono ?_); rintro e w' ⟨rfl, rfl⟩)
    go_ret2
    exact ⟨rfl, rfl⟩
section
variable {w w' : World} {g q s n m : Nat} {L : List (List Nat)}
theorem ChAt.far {S : Nat → Prop} (h : ChAt w g q s n m L) (hf : Far S w w') (h1 : ¬ S g) (h2 : ¬ S q) (h3 : ¬ S s) : ChAt w' g q s n m L := by
  obtain ⟨cs, fs, b1, b2, b3, hr⟩ := h
  exact ⟨cs, fs, Blk.far b1 hf h1, b2.far hf h2, b3.far hf h3, hr⟩
/-- No block. -/
def nobody : Nat → Prop := fun _ => False
theorem ChAt.below (h : ChAt w g q s n m L) (hb : Below w.heap.size w w') : ChAt w' g q s n m L :=
  h.far (Far.of_below hb nobody) (fun e => e) (fun e => e) (fun e => e)
theorem ChAt.lt (h : ChAt w g q s n m L) : g < w.heap.size ∧ q < w.heap.size ∧ s < w.heap.size := by
  obtain ⟨cs, fs, b1, b2, b3, hr⟩ := h
  exact ⟨Blk.lt b1, b2.lt, b3.lt⟩
theorem below_three {B : Nat} {w0 : World} (h : Below B w0 w) (hf : Far (three g q s) w w') (hg : B ≤ g) (hq : B ≤ q) (hf' : B ≤ s) (hB : B ≤ w.heap.size) : Below B w0 w' :=
  h.trans (hf.below hB (fun k hk e => by rcases e with e | e | e <;> omega))
theorem below_drewN {B : Nat} {a w : World} (h : Below B a w) (n : Nat) : Below B a (w.drewN n) := h.trans ⟨rfl, rfl, rfl, Nat.le_refl _, fun _ _ => rfl⟩
end
set_option maxHeartbeats 1000000 in
theorem awake_any (w : World) : Calls Try.prog 7 #[] w fun e w' => e = .returned (.bool true) ∧ Below w.heap.size w w' := by
  go_enter Try.func7, Try.ntmps7
  go_wp2_with fail
  refine (new_ 1 9 1 9 _ rfl rfl (by decide) (by decide) (by decide) (by decide)).mono ?_
  rintro e w1 ⟨g, q, s, rfl, hr, ha, hb⟩
  have HR : Hid (ChAt w1 g q s 1 9 [[]]) := hr
  have HB := Lib.hid hb
  obtain ⟨a1, a2, a3, _⟩ := ha
  clear hr hb
  go_wp2_with fail
  refine (at_ g q s 1 9 0 0 [[]] _ HR.out).mono ?_
  rintro e w2 ⟨rfl, N, rfl⟩
  have HR2 := Lib.hid (HR.out.drewN N)
  have e1 : toNum (atOf [[]] 0 0) = 0 := by decide
  have e2 : (atOf [[]] 0 0).isSome = false := by decide
  rw [e1, e2]
  go_wp2_with fail
  refine (push_ g q s 1 9 0 5 [[]] _ HR2.out).mono ?_
  rintro e w3 ⟨rfl, hc3, hf3⟩
  have e3 : canPush 9 [[]] 0 5 = true := by decide
  have e4 : pushOf 9 [[]] 0 5 = [[5]] := by decide
  rw [e4] at hc3
  rw [e3]
  have HR3 := Lib.hid hc3
  have HB3 : Hid (Below w.heap.size w w3) := below_three (below_drewN HB.out N) hf3 a1 a2 a3 HB.out.size
  clear hc3 hf3
  have e5 : lenOf [[5]] 0 = 1 := by decide
  go_wp2_with fail
  refine (len_ g q s 1 9 0 [[5]] _ HR3.out).mono ?_
  rintro e w4 ⟨rfl, rfl⟩
  rw [e5]
  go_wp2_with fail
  go_ret
  exact ⟨rfl, HB3.out⟩
end Go.Proofs.Ytlbloopiajjpfaa
