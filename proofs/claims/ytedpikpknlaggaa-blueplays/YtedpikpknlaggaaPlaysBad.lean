/- The walk of the law BluePlays where the setup may not be, or there are too many acts: it returns true and turns nothing that was there. -/
import Derived.Test.YtedpikpknlaggaaPlayMem
import Derived.Test.YtedpikpknlaggaaAloneWalk
namespace Go.Proofs.Ytedpikpknlaggaa
open Go.RowKit

set_option maxRecDepth 100000 in
set_option maxHeartbeats 2000000 in
theorem plays_far (x0 x1 x2 x3 x4 x5 : Int) (A : Option Addr) (n c : Nat) (K : Nat → Int) (P : Nat → Option Addr) (L C : Nat → Nat) (X : Nat → List Int) (N : Nat → Int) (w : World) (hn : n ≤ 9223372036854775807) (h : ActsIn w A n K P L C X N) (hf : fewB n L = false) :
    Calls Try.prog 3 #[.agg #[.int .i64 x0, .int .i64 x1, .int .i64 x2, .int .i64 x3, .int .i64 x4, .int .i64 x5], .slice A n c] w fun e w' => e = .returned (.bool true) ∧ Below w.heap.size w w' := by
  have B0 : Hid (Below w.heap.size w (w.alloc (setOf x0 x1 x2 x3 x4 x5))) := (Below.refl _ w).alloc (Nat.le_refl _) _
  have HA := Lib.hid h
  clear h
  go_enter Try.func3, Try.ntmps3
  go_wp2_with fail
  refine (awake_any _).mono ?_
  rintro e w1 ⟨rfl, hb1⟩
  have W1 : Hid (Below w.heap.size w w1) := B0.out.trans (hb1.mono B0.out.size)
  clear hb1 B0
  go_wp2_with fail
  refine (few_ A n c K P L C X N w1 hn (HA.out.below W1.out)).mono ?_
  rintro e w2 ⟨rfl, rfl⟩
  rw [hf]
  go_wp2_with fail
  refine (awake_any _).mono ?_
  rintro e w2 ⟨rfl, hb2⟩
  have W2 : Hid (Below w.heap.size w w2) := W1.out.trans (hb2.mono W1.out.size)
  clear hb2 W1
  go_wp2_with fail
  go_ret
  exact ⟨rfl, W2.out⟩
set_option maxRecDepth 100000 in
set_option maxHeartbeats 8000000 in
theorem plays_bad (x0 x1 x2 x3 x4 x5 : Int) (A : Option Addr) (n c : Nat) (K : Nat → Int) (P : Nat → Option Addr) (L C : Nat → Nat) (X : Nat → List Int) (N : Nat → Int) (w : World) (h : ActsIn w A n K P L C X N) (hf : fewB n L = true) (hg : ¬ Good x0 x1 x4 x5 x2 x3) :
    Calls Try.prog 3 #[.agg #[.int .i64 x0, .int .i64 x1, .int .i64 x2, .int .i64 x3, .int .i64 x4, .int .i64 x5], .slice A n c] w fun e w' => e = .returned (.bool true) ∧ Below w.heap.size w w' := by
  have B0 : Hid (Below w.heap.size w (w.alloc (setOf x0 x1 x2 x3 x4 x5))) := (Below.refl _ w).alloc (Nat.le_refl _) _
  have K0 : Hid (Blk (w.alloc (setOf x0 x1 x2 x3 x4 x5)) w.heap.size 23 [.int .i64 x0, .int .i64 x1, .int .i64 x2, .int .i64 x3, .int .i64 x4, .int .i64 x5]) := Blk.new w 23 _
  have HA := Lib.hid h
  obtain ⟨hn, hL⟩ := few_yes hf
  have HL := Lib.hid hL
  clear h hL
  have HN := Lib.hid (fun W => new_bad x0 x1 x4 x5 x2 x3 W hg)
  have HT := Lib.hid (fun W => tuned_ x4 x2 x3 W)
  have hcase : decide (x0 < 1) = true ∨ (decide (x0 < 1) = false ∧ decide (4 < x0) = true) ∨ (decide (x0 < 1) = false ∧ decide (4 < x0) = false ∧ decide (x1 < 1) = true) ∨ (decide (x0 < 1) = false ∧ decide (4 < x0) = false ∧ decide (x1 < 1) = false ∧ decide (64 < x1) = true) ∨ (decide (x0 < 1) = false ∧ decide (4 < x0) = false ∧ decide (x1 < 1) = false ∧ decide (64 < x1) = false ∧ decide (x5 < 0) = true) ∨ (decide (x0 < 1) = false ∧ decide (4 < x0) = false ∧ decide (x1 < 1) = false ∧ decide (64 < x1) = false ∧ decide (x5 < 0) = false ∧ decide (4611686018427387903 < x5) = true) ∨ (decide (x0 < 1) = false ∧ decide (4 < x0) = false ∧ decide (x1 < 1) = false ∧ decide (64 < x1) = false ∧ decide (x5 < 0) = false ∧ decide (4611686018427387903 < x5) = false ∧ may x4 x2 x3 = false) := by
    unfold Good at hg
    rcases hm : may x4 x2 x3 with _ | _
    · simp only [decide_eq_true_eq, decide_eq_false_iff_not, and_true]
      omega
    · rw [hm] at hg
      simp only [decide_eq_true_eq, decide_eq_false_iff_not]
      simp only [and_true] at hg
      omega
  clear hg
  rcases hcase with e1 | ⟨e1, e2⟩ | ⟨e1, e2, e3⟩ | ⟨e1, e2, e3, e4⟩ | ⟨e1, e2, e3, e4, e5⟩ | ⟨e1, e2, e3, e4, e5, e6⟩ | ⟨e1, e2, e3, e4, e5, e6, e7⟩
  all_goals
    go_enter Try.func3, Try.ntmps3
    go_wp2_with fail
    refine (awake_any _).mono ?_
    rintro e w1 ⟨rfl, hb1⟩
    have W1 : Hid (Below w.heap.size w w1) := B0.out.trans (hb1.mono B0.out.size)
    have K1 := Lib.hid (K0.out.below (hb1.mono (Nat.le_refl _)))
    clear hb1
    go_wp2_with fail
    refine (few_ A n c K P L C X N w1 (by omega) (HA.out.below W1.out)).mono ?_
    rintro e w2 ⟨rfl, rfl⟩
    rw [hf]
    have k0 := K1.out.cell 0
    have k1 := K1.out.cell 1
    have k2 := K1.out.cell 2
    have k3 := K1.out.cell 3
    have k4 := K1.out.cell 4
    have k5 := K1.out.cell 5
    go_wp2_with (first | (go_at_call 9; (with_reducible refine (HN.out _).mono ?_); rintro e w3 ⟨rfl, rfl⟩) | (go_at_call 10; (with_reducible refine (HT.out _).mono ?_); rintro e w3 ⟨rfl, rfl⟩; rw [e7]) | (go_at_call 11; (with_reducible refine (put_nil _ _ _ _ _).mono ?_); rintro e w4 ⟨rfl, hb4⟩; have W4 : Hid (Below w.heap.size w w4) := W1.out.trans (hb4.mono W1.out.size); clear hb4) | (go_at_call 12; (with_reducible refine (mark_nil _ _ _ _).mono ?_); rintro e w5 ⟨rfl, hb5⟩; have W5 : Hid (Below w.heap.size w w5) := W4.out.trans (hb5.mono W4.out.size); clear hb5))
    go_ret
    exact ⟨rfl, W5.out⟩
end Go.Proofs.Ytedpikpknlaggaa
