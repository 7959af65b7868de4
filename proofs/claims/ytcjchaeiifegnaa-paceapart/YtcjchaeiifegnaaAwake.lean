/- The contracts of the laws' awake and of the law PaceNil. Conditions: those of each theorem. -/
import Derived.Test.YtcjchaeiifegnaaPacers
namespace Go.Proofs.Ytcjchaeiifegnaa
open Go.RowKit

set_option maxHeartbeats 1000000 in
theorem awake_any (w : World) : Calls Try.prog 7 #[] w fun e w' => e = .returned (.bool true) ∧ Below w.heap.size w w' := by
  go_enter Try.func7, Try.ntmps7
  go_wp2_with fail
  refine (new_ 8 _ (by omega) (by omega)).mono ?_
  rintro e w1 ⟨g, rfl, hp, ha, hb⟩
  have HP := Lib.hid hp
  have HB := Lib.hid hb
  clear hp hb
  go_wp2_with fail
  refine (send_ok g 8 0 100 64 _ HP.out (by decide)).mono ?_
  rintro e w2 ⟨rfl, hp2, hf2⟩
  have e1 : endOf 8 100 64 = 612 := by decide
  rw [e1] at hp2 ⊢
  have P2 := Lib.hid hp2
  have B2 : Hid (Below w.heap.size w w2) := below_only HB.out hf2 ha HB.out.size
  clear hp2 hf2 e1 HB
  go_wp2_with (go_at_call 10; (with_reducible refine (next_ g 8 612 _ P2.out).mono ?_); rintro e w' ⟨rfl, rfl⟩)
  go_ret
  exact ⟨rfl, B2.out⟩
set_option maxHeartbeats 1000000 in
theorem nil_walk (x n : Int) (w : World) : Calls Try.prog 6 #[.int .i64 x, .int .i64 n] w fun e w' => e = .returned (.bool true) ∧ Below w.heap.size w w' := by
  go_enter Try.func6, Try.ntmps6
  go_wp2_with (first | (go_at_call 11; (with_reducible refine (send_nil _ _ _).mono ?_); rintro e w' ⟨rfl, rfl⟩) | (go_at_call 7; (with_reducible refine (awake_any _).mono ?_); rintro e w1 ⟨rfl, hb1⟩; have W1 := Lib.hid hb1; clear hb1) | (go_at_call 9; (with_reducible refine (free_nil _ _).mono ?_); rintro e w' ⟨rfl, rfl⟩) | (go_at_call 10; (with_reducible refine (next_nil _).mono ?_); rintro e w' ⟨rfl, rfl⟩))
  go_ret
  exact ⟨rfl, W1.out⟩
end Go.Proofs.Ytcjchaeiifegnaa
