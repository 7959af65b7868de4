/- The contract of the laws' awake: it returns true. Conditions: those of each theorem. -/
import Derived.Test.YtjdehpkomipneaaRef
namespace Go.Proofs.Ytjdehpkomipneaa
open Go.RowKit

/-- The bytes that it takes. -/
def awl : List Int := [0, 80, 1, 2]
theorem awl_octs : Octs awl := by unfold Octs; decide +kernel
theorem awl_look : look false 6 true awl = (80, 258, 0) := by decide +kernel

set_option maxRecDepth 100000 in
set_option maxHeartbeats 1000000 in
theorem awake_any (w : World) : Calls Try.prog 6 #[] w fun e w' => e = .returned (.bool true) ∧ Below w.heap.size w w' := by
  have B0 : Hid (Blk (w.alloc (.cells #[.int .u8 0, .int .u8 80, .int .u8 1, .int .u8 2] 5)) w.heap.size 5 (cel awl)) := Blk.new w 5 (cel awl)
  have W0 : Hid (Below w.heap.size w (w.alloc (.cells #[.int .u8 0, .int .u8 80, .int .u8 1, .int .u8 2] 5))) := (Below.refl _ _).alloc (Nat.le_refl _) _
  have HP : Hid (Calls Try.prog 7 #[.bool false, .agg #[.int .u8 6, .int .u8 0, .int .u8 0, .int .u8 0, .int .u8 0, .int .u8 0, .int .u8 0, .int .u8 0, .int .u8 0, .int .u8 0, .int .u8 0, .int .u8 0, .int .u8 0, .int .u8 0, .int .u8 0, .int .u8 0, .int .u8 0, .int .u8 0, .int .u8 0, .int .u8 0, .int .u8 0, .int .u8 0, .int .u8 0, .int .u8 0, .int .u8 0, .int .u8 0, .int .u8 0, .int .u8 0, .int .u8 0, .int .u8 0, .int .u8 0, .int .u8 0, .int .u8 0, .slice (some ⟨w.heap.size, 0, none⟩) 4 4, .bool true]] (w.alloc (.cells #[.int .u8 0, .int .u8 80, .int .u8 1, .int .u8 2] 5))
      fun e w' => e = .returned (.tuple #[.int .u16 80, .int .u16 258, .int .i64 0]) ∧ Below (w.alloc (.cells #[.int .u8 0, .int .u8 80, .int .u8 1, .int .u8 2] 5)).heap.size (w.alloc (.cells #[.int .u8 0, .int .u8 80, .int .u8 1, .int .u8 2] 5)) w') :=
    parse_any false true 6 zz zz awl (some ⟨w.heap.size, 0, none⟩) 4 4 80 258 0 _ zz_sixteen zz_sixteen (Byts.of_all B0.out rfl) awl_octs (by omega) (by omega) awl_look
  go_enter Try.func6, Try.ntmps6
  go_wp2_with (go_at_call 7; (with_reducible refine HP.out.mono ?_); rintro e w1 ⟨rfl, hb⟩; have W1 : Hid (Below w.heap.size w w1) := W0.out.trans (hb.mono W0.out.size); clear hb)
  go_ret
  exact ⟨rfl, W1.out⟩
end Go.Proofs.Ytjdehpkomipneaa
