/- The contracts of ports' own functions: icmpOf, portBytes. Conditions: those of each theorem. -/
import Derived.Test.YtebpemknmcgamaaPortsLook
namespace Go.Proofs.Ytebpemknmcgamaa.ports
open Go.RowKit

theorem icmp_any (v : Bool) (w : World) : Calls Try.prog 52 #[.bool v] w fun e w' => e = .returned (.int .u8 (icm v)) ∧ w = w' := by
  cases v
  · go_enter Try.func52, Try.ntmps52
    go_wp2
    go_ret
    exact ⟨rfl, rfl⟩
  · go_enter Try.func52, Try.ntmps52
    go_wp2
    go_ret
    exact ⟨rfl, rfl⟩

set_option maxHeartbeats 400000 in
theorem bytes_any (v : Bool) (p : Int) (w : World) (k : Nat) (hk : sz v p = k) : Calls Try.prog 43 #[.bool v, .int .u8 p] w fun e w' => e = .returned (.int .i64 ((k : Nat) : Int)) ∧ w = w' := by
  by_cases e0 : p = 6
  · rw [sz_four (.inl e0)] at hk
    subst e0 hk
    go_enter Try.func43, Try.ntmps43
    go_wp2
    go_ret
    exact ⟨rfl, rfl⟩
  · by_cases e1 : p = 17
    · rw [sz_four (.inr e1)] at hk
      subst e1 hk
      go_enter Try.func43, Try.ntmps43
      go_wp2
      go_ret
      exact ⟨rfl, rfl⟩
    · have d0 : (p == 6) = false := by simpa using e0
      have d1 : (p == 17) = false := by simpa using e1
      have HI := Lib.hid (icmp_any v)
      by_cases e2 : p = icm v
      · rw [sz_two e0 e1 e2] at hk
        subst hk
        have d2 : (p == icm v) = true := by simpa using e2
        clear e0 e1 e2
        generalize icm v = i at *
        go_enter Try.func43, Try.ntmps43
        go_wp2_with (go_at_call 52; (with_reducible refine (HI.out _).mono ?_); rintro e w1 ⟨rfl, rfl⟩)
        go_ret
        exact ⟨rfl, rfl⟩
      · rw [sz_zero e0 e1 e2] at hk
        subst hk
        have d2 : (p == icm v) = false := by simpa using e2
        clear e0 e1 e2
        generalize icm v = i at *
        go_enter Try.func43, Try.ntmps43
        go_wp2_with (go_at_call 52; (with_reducible refine (HI.out _).mono ?_); rintro e w1 ⟨rfl, rfl⟩)
        go_ret
        exact ⟨rfl, rfl⟩
end Go.Proofs.Ytebpemknmcgamaa.ports
