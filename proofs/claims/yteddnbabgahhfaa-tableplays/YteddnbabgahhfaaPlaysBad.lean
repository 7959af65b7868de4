/- The walk of TablePlays where there is too much to do, and where there is no such room. Conditions: the program's contracts. -/
import Derived.Test.YteddnbabgahhfaaActs
namespace Go.Proofs.Yteddnbabgahhfaa
open Go.RowKit

set_option maxRecDepth 4000 in
set_option maxHeartbeats 2000000 in
theorem plays_long (hA : ∀ W, Calls Try.prog 7 #[] W (Ans (.bool true) W)) (r : Int) (A : Option Addr) (n c : Nat) (w : World) (hn : 200 < n) (hm : n ≤ maxLen) :
    Calls Try.prog 3 #[.int .i64 r, .slice A n c] w (Ans (.bool true) w) := by
  have HA := Lib.hid hA
  clear hA
  unfold maxLen at hm
  go_enter Try.func3, Try.ntmps3
  go_wp2_with (first
    | (go_at_call 7; (with_reducible refine (HA.out w).mono ?_); rintro e w1 ⟨rfl, hb⟩; have B1 := Lib.hid hb; clear hb)
    | (go_at_call 7; (with_reducible refine (HA.out w1).mono ?_); rintro e w2 ⟨rfl, hb⟩; have B2 : Hid (Below w.heap.size w w2) := B1.out.trans (hb.mono B1.out.size); clear hb))
  go_ret
  exact ⟨rfl, B2.out⟩
set_option maxRecDepth 4000 in
set_option maxHeartbeats 2000000 in
theorem plays_bad (hA : ∀ W, Calls Try.prog 7 #[] W (Ans (.bool true) W)) (T : (Nat → Prop) → World → Nat → Int → List Ent → Prop) (P : ProgT T) (r : Int) (A : Option Addr) (n c : Nat) (w : World) (hr : i64 r) (hn : n ≤ 200) (hbad : ¬ (1 ≤ r ∧ r ≤ 64)) :
    Calls Try.prog 3 #[.int .i64 r, .slice A n c] w (Ans (.bool true) w) := by
  have HA := Lib.hid hA
  have HP := Lib.hid P
  have HB := Lib.hid (fun W => P.bad r W hr hbad)
  have hr2 : -9223372036854775808 ≤ r ∧ r ≤ 9223372036854775807 := hr
  clear hA P hr
  go_enter Try.func3, Try.ntmps3
  go_upto_region 4 with (first
    | (go_at_call 7; (with_reducible refine (HA.out w).mono ?_); rintro e w1 ⟨rfl, hb⟩; have S0 : Hid (Below w.heap.size w w1) := Lib.hid hb; clear hb)
    | (go_at_call 8; (with_reducible refine (HB.out _).mono ?_); rintro e w1 ⟨rfl, hb⟩; have S0 : Hid (Below w.heap.size w w1) := S0.out.trans (hb.mono S0.out.size); clear hb))
  by_cases h1 : r < 1
  · clear hbad
    go_wp2_with (first
      | (refine wpList_buildG (by rfl) 31 _ rfl [] (by rfl) pre0.cs (run_pre0 _) ?_)
      | (go_at_call 9; (refine (HP.out.putNil pre0 1 _ pre0_ok ⟨by omega, by omega⟩).mono ?_); rintro e w1 ⟨rfl, hb⟩; have S0 : Hid (Below w.heap.size w w1) := S0.out.trans (hb.mono S0.out.size); clear hb)
      | (go_at_call 10; (with_reducible refine (HP.out.lenNil _).mono ?_); rintro e w1 ⟨rfl, hb⟩; have S0 : Hid (Below w.heap.size w w1) := S0.out.trans (hb.mono S0.out.size); clear hb)
      | (go_at_call 11; (with_reducible refine (HP.out.allNil _).mono ?_); rintro e w1 ⟨A1, c1, rfl, _, _, hb⟩; have S0 : Hid (Below w.heap.size w w1) := S0.out.trans (hb.mono S0.out.size); clear hb)
      | (go_at_call 12; (refine (HP.out.delNil pre0 _ pre0_ok).mono ?_); rintro e w1 ⟨rfl, hb⟩; have S0 : Hid (Below w.heap.size w w1) := S0.out.trans (hb.mono S0.out.size); clear hb))
    go_ret
    exact ⟨rfl, S0.out⟩
  · have h2 : 64 < r := by omega
    clear hbad
    go_wp2_with (first
      | (refine wpList_buildG (by rfl) 31 _ rfl [] (by rfl) pre0.cs (run_pre0 _) ?_)
      | (go_at_call 9; (refine (HP.out.putNil pre0 1 _ pre0_ok ⟨by omega, by omega⟩).mono ?_); rintro e w1 ⟨rfl, hb⟩; have S0 : Hid (Below w.heap.size w w1) := S0.out.trans (hb.mono S0.out.size); clear hb)
      | (go_at_call 10; (with_reducible refine (HP.out.lenNil _).mono ?_); rintro e w1 ⟨rfl, hb⟩; have S0 : Hid (Below w.heap.size w w1) := S0.out.trans (hb.mono S0.out.size); clear hb)
      | (go_at_call 11; (with_reducible refine (HP.out.allNil _).mono ?_); rintro e w1 ⟨A1, c1, rfl, _, _, hb⟩; have S0 : Hid (Below w.heap.size w w1) := S0.out.trans (hb.mono S0.out.size); clear hb)
      | (go_at_call 12; (refine (HP.out.delNil pre0 _ pre0_ok).mono ?_); rintro e w1 ⟨rfl, hb⟩; have S0 : Hid (Below w.heap.size w w1) := S0.out.trans (hb.mono S0.out.size); clear hb))
    go_ret
    exact ⟨rfl, S0.out⟩
end Go.Proofs.Yteddnbabgahhfaa
