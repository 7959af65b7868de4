/- The walks of the law TurnsPlay where there are too many acts, where the numbers may not be, and where the quantum is below 100. -/
import Derived.Test.YtknalphhnicffaaSleepFar
namespace Go.Proofs.Ytknalphhnicffaa
open Go.RowKit
section
variable {At : (Nat → Prop) → World → Nat → Nat → Nat → List Cls → Prop}
set_option maxRecDepth 100000 in
set_option maxHeartbeats 2000000 in
theorem play_far (P : Prog At) (x y : Int) (A : Option Addr) (n cc : Nat) (T : Nat → ActIn) (w : World) (hm : n ≤ maxLen) (hn : fewOf n T = false) (ha : ActsIn w A n T) :
    Calls Try.prog 3 #[.int .i64 x, .int .i64 y, .slice A n cc] w fun e w' => e = .returned (.bool true) ∧ Below w.heap.size w w' := by
  have HP := Lib.hid P
  have HFW := Lib.hid (fun W (hB : Below w.heap.size w W) => few_ A n cc T W hm (acts_below ha hB))
  clear ha P hm
  rw [hn] at HFW
  clear hn
  go_enter Try.func3, Try.ntmps3
  go_wp2_with fail
  refine (awake_any HP.out _).mono ?_
  rintro e w1 ⟨rfl, hb1⟩
  have W1 := Lib.hid hb1
  clear hb1
  go_wp2_with fail
  refine (HFW.out _ W1.out).mono ?_
  rintro e w' ⟨rfl, rfl⟩
  go_wp2_with fail
  refine (awake_any HP.out _).mono ?_
  rintro e w2 ⟨rfl, hb2⟩
  have W2 : Hid (Below w.heap.size w w2) := W1.out.trans (hb2.mono W1.out.size)
  clear hb2
  go_wp2_with fail
  go_ret
  exact ⟨rfl, W2.out⟩
set_option maxRecDepth 100000 in
set_option maxHeartbeats 4000000 in
theorem play_none (P : Prog At) (x y : Int) (A : Option Addr) (n cc : Nat) (T : Nat → ActIn) (w : World) (hm : n ≤ maxLen) (hn : fewOf n T = true) (hx : x < 1 ∨ 129 < x ∨ y < 1 ∨ 1073741824 < y) (ha : ActsIn w A n T) :
    Calls Try.prog 3 #[.int .i64 x, .int .i64 y, .slice A n cc] w fun e w' => e = .returned (.bool true) ∧ Below w.heap.size w w' := by
  have HP := Lib.hid P
  have HFW := Lib.hid (fun W (hB : Below w.heap.size w W) => few_ A n cc T W hm (acts_below ha hB))
  rw [hn] at HFW
  have HX := Lib.hid hx
  have hcase : decide (x < 1) = true ∨ (decide (x < 1) = false ∧ decide (129 < x) = true) ∨ (decide (x < 1) = false ∧ decide (129 < x) = false ∧ decide (y < 1) = true) ∨ (decide (x < 1) = false ∧ decide (129 < x) = false ∧ decide (y < 1) = false ∧ decide (1073741824 < y) = true) := by
    simp
    omega
  clear ha P hm hn hx
  rcases hcase with e1 | ⟨e1, e2⟩ | ⟨e1, e2, e3⟩ | ⟨e1, e2, e3, e4⟩
  all_goals
    go_enter Try.func3, Try.ntmps3
    go_wp2_with (first | (go_at_call 8; (with_reducible refine (awake_any HP.out _).mono ?_); rintro e w1 ⟨rfl, hb1⟩; have W1 := Lib.hid hb1; clear hb1) | (go_at_call 9; (with_reducible refine (HFW.out _ W1.out).mono ?_); rintro e w' ⟨rfl, rfl⟩) | (go_at_call 10; (with_reducible refine (HP.out.newbad _ _ _ HX.out).mono ?_); rintro e w2 ⟨rfl, hb⟩; have W2 : Hid (Below w.heap.size w w2) := W1.out.trans (hb.mono W1.out.size); clear hb) | (go_at_call 11; (with_reducible refine (HP.out.wakenil _ _).mono ?_); rintro e w3 ⟨rfl, hb⟩; have W3 : Hid (Below w.heap.size w w3) := W2.out.trans (hb.mono W2.out.size); clear hb) | (go_at_call 12; (with_reducible refine (HP.out.awakenil _).mono ?_); rintro e w4 ⟨⟨A4, c4, rfl⟩, hb⟩; have W4 : Hid (Below w.heap.size w w4) := W3.out.trans (hb.mono W3.out.size); clear hb))
    go_ret
    exact ⟨rfl, W4.out⟩
set_option maxRecDepth 100000 in
set_option maxHeartbeats 4000000 in
theorem play_low (P : Prog At) (n Q : Nat) (x y : Int) (A : Option Addr) (r cc : Nat) (T : Nat → ActIn) (w : World) (hx : x = n) (hy : y = Q) (hm : r ≤ maxLen) (hn : fewOf r T = true) (h1 : 1 ≤ n) (h2 : n ≤ 129) (hQ1 : 1 ≤ Q) (hQ : Q < 100) (ha : ActsIn w A r T) :
    Calls Try.prog 3 #[.int .i64 x, .int .i64 y, .slice A r cc] w fun e w' => e = .returned (.bool true) ∧ Below w.heap.size w w' := by
  subst hx hy
  have HP := Lib.hid P
  have HFW := Lib.hid (fun W (hB : Below w.heap.size w W) => few_ A r cc T W hm (acts_below ha hB))
  rw [hn] at HFW
  clear ha P hm hn
  have d1 : decide ((n : Int) < 1) = false := by simp; omega
  have d2 : decide ((129 : Int) < (n : Int)) = false := by simp; omega
  have d3 : decide ((Q : Int) < 1) = false := by simp; omega
  have d4 : decide ((1073741824 : Int) < (Q : Int)) = false := by simp; omega
  have d5 : decide ((Q : Int) < 100) = true := by simp; omega
  go_enter Try.func3, Try.ntmps3
  go_wp2_with (first | (go_at_call 8; (with_reducible refine (awake_any HP.out _).mono ?_); rintro e w1 ⟨rfl, hb1⟩; have W1 := Lib.hid hb1; clear hb1) | (go_at_call 9; (with_reducible refine (HFW.out _ W1.out).mono ?_); rintro e w' ⟨rfl, rfl⟩) | (go_at_call 10; (with_reducible refine (HP.out.new n Q _ _ _ rfl rfl h1 h2 hQ1 (by omega)).mono ?_); rintro e w2 ⟨g, rfl, hr, hb⟩; have W2 : Hid (Below w.heap.size w w2) := W1.out.trans (hb.mono W1.out.size); clear hr hb))
  go_ret
  exact ⟨rfl, W2.out⟩
end
end Go.Proofs.Ytknalphhnicffaa
