/- The contract of the laws' awake: it returns true. Conditions: those of each theorem. -/
import Derived.Test.YtmnakdmmkkombaaParse
namespace Go.Proofs.Ytmnakdmmkkombaa
open Go.RowKit

/-- The frame that awake asks for. -/
def calm : List Int := [0, 0, 0, 0, 0, 0, 0, 0, 0, 0, 0, 0, 8, 0]
theorem calm_look : look calm 3 12 = (false, 14, 0) := by decide
theorem calm_octs : Octs calm := by unfold Octs; decide
theorem none_look : look [] 3 12 = (false, 0, 1) := by decide

set_option maxHeartbeats 1000000 in
theorem awake_any (w : World) : Calls Try.prog 7 #[] w fun e w' => e = .returned (.bool true) ∧ Below w.heap.size w w' := by
  have W0 : Hid (Below w.heap.size w (w.alloc (.cells (cel calm).toArray 5))) := (Below.refl _ _).alloc (Nat.le_refl _) _
  have HP := Lib.hid (parse_any (some ⟨w.heap.size, 0, none⟩) 14 14 calm false 14 0 (w.alloc (.cells (cel calm).toArray 5)) (Byts.of_all (Blk.new w 5 (cel calm)) rfl) calm_octs (by omega) calm_look)
  go_enter Try.func7, Try.ntmps7
  go_wp2_with fail
  refine HP.out.mono ?_
  rintro e w1 ⟨rfl, hb⟩
  have W1 : Hid (Below w.heap.size w w1) := W0.out.trans (hb.mono W0.out.size)
  clear hb
  have W2 : Hid (Below w.heap.size w (w1.alloc (.cells #[.bool false, .int .i64 14] 25))) := W1.out.alloc W1.out.size _
  have L2 : Hid (Blk (w1.alloc (.cells #[.bool false, .int .i64 14] 25)) w1.heap.size 25 [.bool false, .int .i64 14]) := Blk.new w1 25 [.bool false, .int .i64 14]
  go_wp2_with fail
  refine (parse_any none 0 0 [] false 0 1 _ Byts.none_ Octs.nil (Nat.le_refl _) none_look).mono ?_
  rintro e w3 ⟨rfl, hb⟩
  have W3 : Hid (Below w.heap.size w w3) := W2.out.trans (hb.mono W2.out.size)
  have L3 : Blk w3 w1.heap.size 25 [.bool false, .int .i64 14] := (hb.block _ (by simp)).trans L2.out
  have L4 := L3.alloc (.cells #[.bool false, .int .i64 0] 25)
  have hc0 : (w3.alloc (.cells #[.bool false, .int .i64 0] 25)).cell? ⟨w1.heap.size, 0, none⟩ = some (.bool false) := L4.cell 0
  have hc1 : (w3.alloc (.cells #[.bool false, .int .i64 0] 25)).cell? ⟨w1.heap.size, 1, none⟩ = some (.int .i64 14) := L4.cell 1
  have HS := Lib.hid W3.out.size
  clear hb L3 L4
  go_wp2
  go_ret
  exact ⟨rfl, W3.out.alloc HS.out _⟩
end Go.Proofs.Ytmnakdmmkkombaa
