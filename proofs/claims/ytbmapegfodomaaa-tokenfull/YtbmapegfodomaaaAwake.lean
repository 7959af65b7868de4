/- The contract of the laws' awake. Conditions: those of each theorem. -/
import Derived.Test.YtbmapegfodomaaaToks
namespace Go.Proofs.Ytbmapegfodomaaa
open Go.RowKit

set_option maxHeartbeats 1000000 in
theorem awake_any (w : World) : Calls Try.prog 7 #[] w fun e w' => e = .returned (.bool true) ∧ Below w.heap.size w w' := by
  have o0 : lev 1 10485760 10485760 0 0 / 1048576 = 10 := by decide
  have o1 : okT 1 10485760 10485760 0 0 10 = true := by decide
  have o2 : okT 1 10485760 0 0 0 1 = false := by decide
  have o3 : okT 1 10485760 0 0 1048576 1 = true := by decide
  have l1 : lef 1 10485760 10485760 0 0 10 = 0 := by decide
  have l2 : lef 1 10485760 0 0 0 1 = 0 := by decide
  have O0 := Lib.hid o0
  have O1 := Lib.hid o1
  have O2 := Lib.hid o2
  have O3 := Lib.hid o3
  have L1 := Lib.hid l1
  have L2 := Lib.hid l2
  clear o0 o1 o2 o3 l1 l2
  go_enter Try.func7, Try.ntmps7
  go_wp2_with fail
  refine (new_ 1 10 _ (by omega) (by omega) (by omega) (by omega)).mono ?_
  rintro e w1 ⟨g, rfl, hp, ha, hb⟩
  have HP : Hid (TAt w1 g 1 10485760 10485760 0) := hp
  have HB := Lib.hid hb
  clear hp hb
  go_wp2_with fail
  refine (level_ g 1 10485760 10485760 0 0 _ HP.out (by omega)).mono ?_
  rintro e w2 ⟨rfl, hb⟩
  rw [O0.out]
  have P2 := Lib.hid (HP.out.below hb)
  have B2 : Hid (Below w.heap.size w w2) := HB.out.trans (hb.mono HB.out.size)
  clear hb HP HB
  go_wp2_with fail
  refine (take_ g 1 10485760 10485760 0 0 10 _ P2.out (by omega)).mono ?_
  rintro e w3 ⟨rfl, hp, hf⟩
  rw [O1.out]
  have P3 : Hid (TAt w3 g 1 10485760 0 0) := by rw [L1.out] at hp; exact hp
  have B3 : Hid (Below w.heap.size w w3) := below_only B2.out hf ha B2.out.size
  clear hp hf P2 B2
  go_wp2_with fail
  refine (take_ g 1 10485760 0 0 0 1 _ P3.out (by omega)).mono ?_
  rintro e w4 ⟨rfl, hp, hf⟩
  rw [O2.out]
  have P4 : Hid (TAt w4 g 1 10485760 0 0) := by rw [L2.out] at hp; exact hp
  have B4 : Hid (Below w.heap.size w w4) := below_only B3.out hf ha B3.out.size
  clear hp hf P3 B3
  go_wp2_with fail
  refine (take_ g 1 10485760 0 0 1048576 1 _ P4.out (by omega)).mono ?_
  rintro e w5 ⟨rfl, hp, hf⟩
  rw [O3.out]
  have B5 : Hid (Below w.heap.size w w5) := below_only B4.out hf ha B4.out.size
  clear hp hf P4 B4
  go_wp2_with fail
  go_ret
  exact ⟨rfl, B5.out⟩
end Go.Proofs.Ytbmapegfodomaaa
