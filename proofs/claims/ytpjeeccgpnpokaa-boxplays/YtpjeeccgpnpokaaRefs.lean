/- The contracts of the document's own product (by halves) and of its sum of a list. Conditions: those of each theorem. -/
import Derived.Test.YtpjeeccgpnpokaaAdds
namespace Go.Proofs.Ytpjeeccgpnpokaa
open Go.RowKit

set_option maxHeartbeats 800000 in
theorem rmul_any (a b : Int) (w : World) : Calls Try.prog 49 #[.int .i64 a, .int .i64 b] w fun e w' => e = .returned (.int .i64 (mulC a b)) ∧ w = w' := by
  have ha := cnt_bd a
  have hb := cnt_bd b
  have hm := mulC_bd a b
  have HM : Hid (mulC a b = cap (0 + cnt a * cnt b)) := by show mulC a b = _; rw [mulC_cap, Int.zero_add]
  generalize mulC a b = m at *
  go_enter Try.func49, Try.ntmps49
  go_wp2_with (go_at_call 37; (with_reducible refine (rcount_any _ _).mono ?_); rintro e w' ⟨rfl, rfl⟩)
  go_loop [0, 1, 5] (fun s t o => ∃ x y z : Int, 0 ≤ x ∧ x ≤ 4611686018427387904 ∧ 0 ≤ y ∧ y ≤ 4611686018427387904 ∧ 0 ≤ z ∧ z ≤ 4611686018427387904 ∧ s = .int .i64 x ∧ t = .int .i64 y ∧ o = .int .i64 z ∧ Hid (m = cap (z + x * y))) (fun _ t _ => (intOf t).toNat)
  case atStart => exact ⟨cnt a, cnt b, 0, ha.1, ha.2, hb.1, hb.2, by omega, by omega, rfl, rfl, rfl, HM⟩
  case round =>
    obtain ⟨x, y, z, hx, hx', hy, hy', hz, hz', rfl, rfl, rfl, H⟩ := hrel
    have hxx := cap_bd (x := x + x) (by omega)
    by_cases h0 : 0 < y
    · by_cases h1 : y % 2 = 1
      · have e1 : (y % 2 == 1) = true := by simpa using h1
        have hzx := cap_bd (x := z + x) (by omega)
        have H1 : Hid (m = cap (cap (z + x) + cap (x + x) * (y / 2))) := H.out.trans (cap_odd hz hx hy h1).symm
        have cx : cnt x = x := cnt_id hx hx'
        have cz : cnt z = z := cnt_id hz hz'
        have CX := Lib.hid cx
        have CZ := Lib.hid cz
        clear h1 cx cz
        go_wp2_with (go_at_call 29; (with_reducible refine (radd_any _ _ _).mono ?_); rintro e w' ⟨rfl, rfl⟩; simp only [CX.out, CZ.out, addC_cap])
        go_round
        case rel => exact ⟨cap (x + x), y / 2, cap (z + x), by omega, by omega, by omega, by omega, by omega, by omega, rfl, rfl, rfl, H1⟩
        case measure => simp [intOf]; omega
      · have e1 : (y % 2 == 1) = false := by simpa using h1
        have H1 : Hid (m = cap (z + cap (x + x) * (y / 2))) := H.out.trans (cap_even hz hz' hx hy (by omega)).symm
        have cx : cnt x = x := cnt_id hx hx'
        have CX := Lib.hid cx
        clear h1 cx
        go_wp2_with (go_at_call 29; (with_reducible refine (radd_any _ _ _).mono ?_); rintro e w' ⟨rfl, rfl⟩; simp only [CX.out, addC_cap])
        go_round
        case rel => exact ⟨cap (x + x), y / 2, z, by omega, by omega, by omega, by omega, by omega, by omega, rfl, rfl, rfl, H1⟩
        case measure => simp [intOf]; omega
    · have e0 : y = 0 := by omega
      have H2 : Hid (m = z) := by
        have := H.out
        rw [e0, Int.mul_zero, Int.add_zero, cap_id hz'] at this
        exact this
      clear e0
      go_wp2
      go_ret
      exact ⟨ret_int H2.out.symm, rfl⟩

end Go.Proofs.Ytpjeeccgpnpokaa
