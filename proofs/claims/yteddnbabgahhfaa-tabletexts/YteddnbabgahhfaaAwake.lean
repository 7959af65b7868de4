/- The contract of the laws' awake. Conditions: the program's contracts. -/
import Derived.Test.YteddnbabgahhfaaProgs
namespace Go.Proofs.Yteddnbabgahhfaa
open Go.RowKit

theorem aw_get : val [] pre0 = 0 ∧ has [] pre0 = false := by decide
theorem aw_put : may [] 1 pre0 = true ∧ put [] 1 pre0 5 = [⟨pre0, 5⟩] := by constructor <;> rfl
set_option maxHeartbeats 1000000 in
theorem awake_ (T : (Nat → Prop) → World → Nat → Int → List Ent → Prop) (P : ProgT T) (w : World) : Calls Try.prog 7 #[] w (Ans (.bool true) w) := by
  have HP := Lib.hid P
  clear P
  go_enter Try.func7, Try.ntmps7
  go_upto_region 2 with (go_at_call 8; (with_reducible refine (HP.out.new 1 _ (by omega) (by omega)).mono ?_); rintro e w1 ⟨g, b, rfl, ht, hbl, hb1⟩; have T1 := Lib.hid ht; have B1 := Lib.hid hb1; have L1 := Lib.hid hbl; clear ht hbl hb1)
  go_wp2_with (first
    | (refine wpList_build rfl 31 [] rfl [] rfl pre0.cs (run_pre0 _) ?_)
    | (go_at_call 14; (with_reducible refine (HP.out.get b _ g 1 [] pre0 T1.out Oks.nil pre0_ok).mono ?_); rintro e w2 ⟨rfl, hb⟩; rw [aw_get.1, aw_get.2]; have T2 := Lib.hid (HP.out.keep _ _ _ _ _ _ nobody T1.out (Far.of_below hb nobody) (fun _ _ h => h)); have B2 : Hid (Below w.heap.size w w2) := B1.out.trans (hb.mono B1.out.size); clear hb)
    | (go_at_call 9; (refine (HP.out.put b _ g 1 [] pre0 5 T2.out Oks.nil pre0_ok ⟨by omega, by omega⟩).mono ?_); rintro e w3 ⟨rfl, b', ht, hf, _⟩; rw [aw_put.1]; rw [aw_put.2] at ht; have T3 := Lib.hid ht; have B3 : Hid (Below w.heap.size w w3) := B2.out.trans (hf.below B2.out.size (fun k hk e => by have := L1.out k e; omega)); clear ht hf)
    | (go_at_call 10; (with_reducible refine (HP.out.len b' _ g 1 [⟨pre0, 5⟩] T3.out).mono ?_); rintro e w4 ⟨rfl, hb⟩; have B4 : Hid (Below w.heap.size w w4) := B3.out.trans (hb.mono B3.out.size); clear hb))
  go_ret
  exact ⟨rfl, B4.out⟩
end Go.Proofs.Yteddnbabgahhfaa
