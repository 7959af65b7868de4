/- The contracts of blue's Bin, Clear and Tune. Conditions: those of each theorem. -/
import Derived.Test.YtedpikpknlaggaaActs
namespace Go.Proofs.Ytedpikpknlaggaa
open Go.RowKit

theorem hasV_iff {n m : Nat} {l x : Int} : hasV n m l x = true ↔ ∃ i j : Nat, l = i ∧ x = j ∧ i < n ∧ j < m := by
  simp only [hasV, Bool.and_eq_true, decide_eq_true_eq]
  constructor
  · rintro ⟨⟨⟨h1, h2⟩, h3⟩, h4⟩
    exact ⟨l.toNat, x.toNat, by omega, by omega, by omega, by omega⟩
  · rintro ⟨i, j, rfl, rfl, h1, h2⟩
    omega
def binV (V : Blu) (l x : Int) : Bin := if hasV V.n V.m l x then V.B l.toNat x.toNat else bin0
set_option maxHeartbeats 1000000 in
theorem bin_ (g s : Nat) (q : Nat → Nat) (V : Blu) (l x : Int) (w : World) (h : BAt w g s q V) :
    Calls Try.prog 24 #[.pointer (some ⟨g, 0, none⟩), .int .i64 l, .int .i64 x] w fun e w' => e = .returned (.tuple #[.int .i64 ((binV V l x).b : Nat), .int .i64 ((binV V l x).p : Nat)]) ∧ Below w.heap.size w w' := by
  have HH := Lib.hid (has_ g s q V l x w h)
  rcases hh : hasV V.n V.m l x with _ | _
  · rw [hh] at HH
    rw [show binV V l x = bin0 by simp [binV, hh]]
    clear h hh
    go_enter Try.func24, Try.ntmps24
    go_wp2_with (go_at_call 39; (with_reducible refine HH.out.mono ?_); rintro e w' ⟨rfl, rfl⟩)
    go_ret2
    exact ⟨rfl, Below.refl _ _⟩
  · rw [hh] at HH
    obtain ⟨i, j, rfl, rfl, hi, hj⟩ := hasV_iff.1 hh
    rw [show binV V (i : Nat) (j : Nat) = V.B i j by simp [binV, hh]]
    obtain ⟨c, c0⟩ := h.head
    have c1 := h.lev hi
    obtain ⟨c2, c3, c4⟩ := h.bin hi hj
    have hm := h.ok.m2
    have hn := h.ok.n2
    clear h hh
    generalize V.B i j = X at *
    obtain ⟨b, p, z⟩ := X
    dsimp only at *
    generalize V.n = n at *
    generalize V.m = m at *
    have HB : Hid (Below w.heap.size w (w.alloc (.cells #[.int .i64 (b : Nat), .int .i64 (p : Nat), .int .i64 (z : Nat)] 60))) := (Below.refl _ w).alloc (Nat.le_refl _) _
    go_enter Try.func24, Try.ntmps24
    go_wp2_with (go_at_call 39; (with_reducible refine HH.out.mono ?_); rintro e w' ⟨rfl, rfl⟩)
    go_quiet (fail)
    go_wp2_with fail
    go_ret2
    exact ⟨rfl, ⟨HB.out.os, HB.out.tape, HB.out.output, HB.out.size, HB.out.block⟩⟩

theorem BAt.congr {w : World} {g s : Nat} {q : Nat → Nat} {V : Blu} {B C : Bins} (h : BAt w g s q (V.put B)) (hC : BOk C) (he : ∀ l k, l < V.n → k < V.m → B l k = C l k) : BAt w g s q (V.put C) := by
  obtain ⟨h1, h2, h4, h5, h6⟩ := h
  refine ⟨h1, h2, fun l hl => ?_, h5, ⟨h6.n1, h6.n2, h6.m1, h6.m2, h6.t, h6.h, h6.u, h6.d, hC⟩⟩
  have := h4 l hl
  rw [show cel false ((V.put B).B l) (V.put B).m = cel false ((V.put C).B l) (V.put C).m from cel_congr (fun k hk => he l k hl hk)] at this
  exact this
/-- Cleared so far. -/
def clr (B : Bins) (l k : Nat) : Bins := fun i j => if i < l ∨ (i = l ∧ j < k) then bin0 else B i j
theorem clr_zero (B : Bins) : clr B 0 0 = B := by
  funext i j
  simp [clr]
theorem clr_step (B : Bins) (l k : Nat) : setB (clr B l k) l k bin0 = clr B l (k + 1) := by
  funext i j
  unfold setB clr
  by_cases h : i = l ∧ j = k
  · rw [if_pos h, if_pos (.inr ⟨h.1, by omega⟩)]
  · rw [if_neg h]
    by_cases h2 : i < l ∨ (i = l ∧ j < k)
    · rw [if_pos h2, if_pos (by omega)]
    · rw [if_neg h2, if_neg (by omega)]
theorem clr_ok {B : Bins} (h : BOk B) (l k : Nat) : BOk (clr B l k) := fun i j => by
  unfold clr
  split
  · exact bin0_ok
  · exact h i j
/-- A whole bin stored. -/
theorem BAt.whole {w : World} {g s : Nat} {q : Nat → Nat} {V : Blu} {l k : Nat} (h : BAt w g s q V) (hl : l < V.n) (hk : k < V.m) (x : Bin) (hx : x.Ok) :
    BAt (((w.setCell ⟨q l, k * 3, none⟩ (.int .i64 (x.b : Nat))).setCell ⟨q l, k * 3 + 1, none⟩ (.int .i64 (x.p : Nat))).setCell ⟨q l, k * 3 + 2, none⟩ (.int .i64 (x.c : Nat))) g s q (V.put (setB V.B l k x)) ∧
    Far (only (q l)) w (((w.setCell ⟨q l, k * 3, none⟩ (.int .i64 (x.b : Nat))).setCell ⟨q l, k * 3 + 1, none⟩ (.int .i64 (x.p : Nat))).setCell ⟨q l, k * 3 + 2, none⟩ (.int .i64 (x.c : Nat))) := by
  have hf : Far (only (q l)) w (((w.setCell ⟨q l, k * 3, none⟩ (.int .i64 (x.b : Nat))).setCell ⟨q l, k * 3 + 1, none⟩ (.int .i64 (x.p : Nat))).setCell ⟨q l, k * 3 + 2, none⟩ (.int .i64 (x.c : Nat))) :=
    (((Far.refl (only (q l)) w).set_ (p := ⟨q l, k * 3, none⟩) (fun _ => rfl) _).set_ (p := ⟨q l, k * 3 + 1, none⟩) (fun _ => rfl) _).set_ (p := ⟨q l, k * 3 + 2, none⟩) (fun _ => rfl) _
  have hb := (((h.2.2.1 l hl).set_ (k * 3) (.int .i64 (x.b : Nat))).set_ (k * 3 + 1) (.int .i64 (x.p : Nat))).set_ (k * 3 + 2) (.int .i64 (x.c : Nat))
  rw [cel_set3 hk] at hb
  exact ⟨h.set_ hl x hx hf hb, hf⟩
/-- Where Clear stands. -/
def ClrRel (g s : Nat) (q : Nat → Nat) (V : Blu) (w : World) (l k : Nat) (W : World) : Prop := BAt W g s q (V.put (clr V.B l k)) ∧ Far (own V.n g q) w W
theorem ClrRel.facts {g s : Nat} {q : Nat → Nat} {V : Blu} {w W : World} {l k : Nat} (h : ClrRel g s q V w l k W) : (∃ c, W.cell? ⟨g, 0, none⟩ = some (.slice (some ⟨s, 0, none⟩) V.n c)) ∧ ∀ i, i < V.n → W.cell? ⟨s, i, none⟩ = some (.slice (some ⟨q i, 0, none⟩) V.m V.m) :=
  ⟨h.1.head, fun _ hi => h.1.lev hi⟩
theorem ClrRel.cells {g s : Nat} {q : Nat → Nat} {V : Blu} {w W : World} {l k : Nat} (h : ClrRel g s q V w l k W) (hl : l < V.n) (hk : k < V.m) : (∃ a b c, W.cell? ⟨q l, k * 3, none⟩ = some (.int .i64 (a : Nat)) ∧ W.cell? ⟨q l, k * 3 + 1, none⟩ = some (.int .i64 (b : Nat)) ∧ W.cell? ⟨q l, k * 3 + 2, none⟩ = some (.int .i64 (c : Nat))) ∧
    W.frozen? ⟨q l, k * 3, none⟩ = false ∧ W.frozen? ⟨q l, k * 3 + 1, none⟩ = false ∧ W.frozen? ⟨q l, k * 3 + 2, none⟩ = false :=
  ⟨⟨_, _, _, h.1.bin (l := l) (k := k) hl hk⟩, h.1.soft (l := l) hl _, h.1.soft (l := l) hl _, h.1.soft (l := l) hl _⟩
theorem ClrRel.step {g s : Nat} {q : Nat → Nat} {V : Blu} {w W : World} {l k : Nat} (h : ClrRel g s q V w l k W) (hl : l < V.n) (hk : k < V.m) :
    ClrRel g s q V w l (k + 1) (((W.setCell ⟨q l, k * 3, none⟩ (.int .i64 0)).setCell ⟨q l, k * 3 + 1, none⟩ (.int .i64 0)).setCell ⟨q l, k * 3 + 2, none⟩ (.int .i64 0)) := by
  obtain ⟨h1, h2⟩ := h.1.whole (l := l) (k := k) hl hk bin0 bin0_ok
  rw [put_put, show setB (V.put (clr V.B l k)).B l k bin0 = clr V.B l (k + 1) from clr_step _ _ _] at h1
  exact ⟨h1, h.2.trans (h2.mono fun _ e => .inr ⟨l, hl, e⟩) (fun _ _ e => e)⟩
theorem ClrRel.next {g s : Nat} {q : Nat → Nat} {V : Blu} {w W : World} {l : Nat} (h : ClrRel g s q V w l V.m W) (hB : BOk V.B) : ClrRel g s q V w (l + 1) 0 W :=
  ⟨h.1.congr (clr_ok hB _ _) (fun i j _ hj => by
    unfold clr
    by_cases h1 : i < l ∨ (i = l ∧ j < V.m)
    · rw [if_pos h1, if_pos (by omega)]
    · rw [if_neg h1, if_neg (by omega)]), h.2⟩
theorem ClrRel.end_ {g s : Nat} {q : Nat → Nat} {V : Blu} {w W : World} (h : ClrRel g s q V w V.n 0 W) : BAt W g s q (clearV V) ∧ Far (own V.n g q) w W :=
  ⟨h.1.congr (fun _ _ => bin0_ok) (fun i j hi _ => by unfold clr; rw [if_pos (.inl hi)]), h.2⟩
set_option maxHeartbeats 1000000 in
theorem clear_ (g s : Nat) (q : Nat → Nat) (V : Blu) (w : World) (h : BAt w g s q V) :
    Calls Try.prog 19 #[.pointer (some ⟨g, 0, none⟩)] w fun e w' => e = .returned (.tuple #[]) ∧ BAt w' g s q (clearV V) ∧ Far (own V.n g q) w w' := by
  have H0 : Hid (ClrRel g s q V w 0 0 w) := ⟨by rw [clr_zero, put_self]; exact h, Far.refl _ _⟩
  have HO := Lib.hid h.ok.B
  have hn := h.ok.n2
  have hm := h.ok.m2
  obtain ⟨c, c0⟩ := h.head
  clear h
  obtain ⟨n, hvn⟩ : ∃ n, V.n = n := ⟨_, rfl⟩
  obtain ⟨m, hvm⟩ : ∃ m, V.m = m := ⟨_, rfl⟩
  have HE := Lib.hid (fun W (h : ClrRel g s q V w n 0 W) => (hvn ▸ h).end_)
  have HF := Lib.hid (fun W l k (h : ClrRel g s q V w l k W) => h.facts)
  have HS := Lib.hid (fun W l k (h : ClrRel g s q V w l k W) (hl : l < n) (hk : k < m) => h.step (hvn ▸ hl) (hvm ▸ hk))
  have HC := Lib.hid (fun W l k (h : ClrRel g s q V w l k W) (hl : l < n) (hk : k < m) => h.cells (hvn ▸ hl) (hvm ▸ hk))
  have HX := Lib.hid (fun W l (h : ClrRel g s q V w l m W) => (hvm ▸ h).next HO.out)
  rw [hvn] at hn c0 HF
  rw [hvm] at hm HF
  clear hvn hvm HO
  go_enter Try.func19, Try.ntmps19
  go_wp2_with fail
  clear c0
  go_loopw [3, 4, 12] (fun _ _ i w' => ∃ l : Nat, l ≤ n ∧ i = .int .i64 l ∧ ClrRel g s q V w l 0 w') (fun _ _ i _ => n - (intOf i).toNat)
  case atStart => exact ⟨0, by omega, rfl, H0.out⟩
  case round =>
    clear H0
    obtain ⟨l, hl, rfl, hr⟩ := hrel
    have HR := Lib.hid hr
    clear hr
    by_cases hlt : l < n
    · have hd : decide ((l : Int) < (n : Int)) = true := by simp; omega
      have c1 := (HF.out _ _ _ HR.out).2 l hlt
      go_wp2_with fail
      clear c1
      go_loopw [4, 18] (fun _ i w' => ∃ k : Nat, k ≤ m ∧ i = .int .i64 k ∧ ClrRel g s q V w l k w') (fun _ i _ => m - (intOf i).toNat)
      case atStart => exact ⟨0, by omega, rfl, HR.out⟩
      case round =>
        clear HR
        obtain ⟨k, hk, rfl, hr⟩ := hrel
        have HR := Lib.hid hr
        clear hr
        by_cases hlt2 : k < m
        · have hd2 : decide ((k : Int) < (m : Int)) = true := by simp; omega
          obtain ⟨⟨a, b, c', d0, d1, d2⟩, f0, f1, f2⟩ := HC.out _ _ _ HR.out hlt hlt2
          have HN := Lib.hid (HS.out _ _ _ HR.out hlt hlt2)
          go_wp2_with fail
          go_roundw
          case rel => exact ⟨k + 1, by omega, by go_num, HN.out⟩
          case measure => simp [intOf]; omega
        · obtain rfl : k = m := by omega
          have hd2 : decide ((k : Int) < (k : Int)) = false := by simp
          have HN := Lib.hid (HX.out _ _ HR.out)
          go_wp2_with fail
          go_roundw
          case rel => exact ⟨l + 1, by omega, by go_num, HN.out⟩
          case measure => simp [intOf]; omega
    · obtain rfl : l = n := by omega
      have hd : decide ((l : Int) < (l : Int)) = false := by simp
      go_wp2_with fail
      go_end0
      exact ⟨rfl, HE.out _ HR.out⟩

theorem BAt.tune {w : World} {g s : Nat} {q : Nat → Nat} {V : Blu} (h : BAt w g s q V) {t u d : Nat} (h1 : t ≤ 1073741824) (h2 : u ≤ 65536) (h3 : d ≤ 65536) :
    BAt (((w.setCell ⟨g, 1, none⟩ (.int .i64 (t : Nat))).setCell ⟨g, 3, none⟩ (.int .i64 (u : Nat))).setCell ⟨g, 4, none⟩ (.int .i64 (d : Nat))) g s q { V with t := t, u := u, d := d } ∧
    Far (own V.n g q) w (((w.setCell ⟨g, 1, none⟩ (.int .i64 (t : Nat))).setCell ⟨g, 3, none⟩ (.int .i64 (u : Nat))).setCell ⟨g, 4, none⟩ (.int .i64 (d : Nat))) := by
  have hf : Far (only g) w (((w.setCell ⟨g, 1, none⟩ (.int .i64 (t : Nat))).setCell ⟨g, 3, none⟩ (.int .i64 (u : Nat))).setCell ⟨g, 4, none⟩ (.int .i64 (d : Nat))) :=
    (((Far.refl (only g) w).set_ (p := ⟨g, 1, none⟩) (fun _ => rfl) _).set_ (p := ⟨g, 3, none⟩) (fun _ => rfl) _).set_ (p := ⟨g, 4, none⟩) (fun _ => rfl) _
  have ht := h.top
  have ha := fun l (hl : l < V.n) => h.apart hl
  obtain ⟨⟨c, b1⟩, ⟨cs, b2, b3⟩, b4, b5, b6⟩ := h
  refine ⟨⟨⟨c, ?_⟩, ⟨cs, b2.far hf (fun e => ht (Eq.symm e)), b3⟩, fun l hl => (b4 l hl).far hf (fun e => (ha l hl).1 (Eq.symm e)), b5, ⟨b6.n1, b6.n2, b6.m1, b6.m2, h1, b6.h, h2, h3, b6.B⟩⟩, hf.mono fun _ e => .inl e⟩
  have := ((b1.set_ 1 (.int .i64 (t : Nat))).set_ 3 (.int .i64 (u : Nat))).set_ 4 (.int .i64 (d : Nat))
  simpa using this
set_option maxHeartbeats 1000000 in
theorem tune_ (g s : Nat) (q : Nat → Nat) (V : Blu) (t u d : Int) (w : World) (h : BAt w g s q V) :
    Calls Try.prog 21 #[.pointer (some ⟨g, 0, none⟩), .int .i64 t, .int .i64 u, .int .i64 d] w (ActOut g s q (tuneV V t u d) V.n (may t u d) w) := by
  have HM := Lib.hid (fun W => mayBe_ t u d W)
  rcases hm : may t u d with _ | _
  · rw [hm] at HM
    rw [show tuneV V t u d = V by simp [tuneV, hm]]
    have HQ := Lib.hid h
    clear h
    go_enter Try.func21, Try.ntmps21
    go_wp2_with (go_at_call 25; (with_reducible refine (HM.out _).mono ?_); rintro e w' ⟨rfl, rfl⟩)
    go_ret
    exact ⟨rfl, HQ.out, Far.refl _ _⟩
  · rw [hm] at HM
    rw [show tuneV V t u d = { V with t := t.toNat, u := u.toNat, d := d.toNat } by simp [tuneV, hm]]
    obtain ⟨b1, b2, b3, b4, b5, b6⟩ := may_bd hm
    obtain ⟨t, rfl⟩ : ∃ k : Nat, t = k := ⟨t.toNat, by omega⟩
    obtain ⟨u, rfl⟩ : ∃ k : Nat, u = k := ⟨u.toNat, by omega⟩
    obtain ⟨d, rfl⟩ : ∃ k : Nat, d = k := ⟨d.toNat, by omega⟩
    simp only [Int.toNat_natCast]
    have HT := Lib.hid (h.tune (t := t) (u := u) (d := d) (by omega) (by omega) (by omega))
    obtain ⟨c1, c2, c3, c4⟩ := h.nums
    have f1 := h.frozen 1
    have f3 := h.frozen 3
    have f4 := h.frozen 4
    clear h hm
    go_enter Try.func21, Try.ntmps21
    go_wp2_with (go_at_call 25; (with_reducible refine (HM.out _).mono ?_); rintro e w' ⟨rfl, rfl⟩)
    go_ret
    exact ⟨rfl, HT.out.1, HT.out.2⟩
end Go.Proofs.Ytedpikpknlaggaa
