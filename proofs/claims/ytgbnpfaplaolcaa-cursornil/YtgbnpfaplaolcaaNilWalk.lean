/- The walk of the law CursorNil: for any number it returns true and turns nothing that was there. -/
import Derived.Test.YtgbnpfaplaolcaaWakes
namespace Go.Proofs.Ytgbnpfaplaolcaa
open Go.RowKit

set_option maxHeartbeats 1000000 in
theorem nil_walk (x : Int) (w : World) : Calls Try.prog 5 #[.int .u64 x] w fun e w' => e = .returned (.bool true) ∧ Below w.heap.size w w' := by
  go_enter Try.func5, Try.ntmps5
  go_wp2_with (first | (go_at_call 14; (with_reducible refine (outU64_nil _ _).mono ?_); rintro e w1 ⟨rfl, rfl⟩) | (go_at_call 15; (with_reducible refine (outRaw_nil _ _ _ _).mono ?_); rintro e w1 ⟨rfl, rfl⟩) | (go_at_call 23; (with_reducible refine (fail_nil _).mono ?_); rintro e w1 ⟨rfl, rfl⟩) | (go_at_call 8; (with_reducible refine (awake_any _).mono ?_); rintro e w2 ⟨rfl, hb⟩; have HB := Lib.hid hb; clear hb) | (go_at_call 16; (with_reducible refine (outBytes_nil _).mono ?_); rintro e w1 ⟨rfl, rfl⟩) | (go_at_call 26; (with_reducible refine (inU8_nil _).mono ?_); rintro e w1 ⟨rfl, rfl⟩) | (go_at_call 27; (with_reducible refine (inU64_nil _).mono ?_); rintro e w1 ⟨rfl, rfl⟩) | (go_at_call 20; (with_reducible refine (raw_nil _ _).mono ?_); rintro e w1 ⟨rfl, rfl⟩) | (go_at_call 21; (with_reducible refine (left_nil _).mono ?_); rintro e w1 ⟨rfl, rfl⟩) | (go_at_call 25; (with_reducible refine (bad_nil _).mono ?_); rintro e w1 ⟨rfl, rfl⟩) | (go_at_call 22; (with_reducible refine (done_nil _).mono ?_); rintro e w1 ⟨rfl, rfl⟩))
  go_ret
  have h1 : Below w.heap.size w (w.alloc (.cells #[.int .u8 1] 5)) := (Below.refl _ _).alloc (Nat.le_refl _) _
  have h2 := h1.trans (HB.out.mono h1.size)
  exact ⟨rfl, h2.alloc h2.size _⟩
end Go.Proofs.Ytgbnpfaplaolcaa
