/- The contracts of package num and of the document's answers for it, as the calls of the program: each returns the number that the plain function gives. Conditions: those of each theorem. -/
import Derived.Test.YtpjeeccgpnpokaaRows
import Derived.Test.YtpjeeccgpnpokaaNums
import Derived.WalkKit
import Derived.WalkSpells
import Derived.WalkLawsBesides
import Derived.ProofKit
import Derived.OpenShut
import Derived.Lib.Hide
namespace Go.Proofs.Ytpjeeccgpnpokaa
open Go.RowKit

theorem ret_int {k : IntKind} {a b : Int} (h : a = b) : Ending.returned (.int k a) = .returned (.int k b) := by rw [h]

set_option maxHeartbeats 400000 in
theorem count_any (a : Int) (w : World) : Calls Try.prog 47 #[.int .i64 a] w fun e w' => e = .returned (.int .i64 (cnt a)) ∧ w = w' := by
  by_cases h0 : a < 0
  · have e : cnt a = 0 := by unfold cnt; rw [if_pos h0]
    rw [e]
    clear e
    go_enter Try.func47, Try.ntmps47
    go_wp2
    go_ret
    exact ⟨rfl, rfl⟩
  · by_cases h1 : 4611686018427387904 < a
    · have e : cnt a = 4611686018427387904 := by unfold cnt; rw [if_neg h0, if_pos h1]
      rw [e]
      clear e
      go_enter Try.func47, Try.ntmps47
      go_wp2
      go_ret
      exact ⟨rfl, rfl⟩
    · have e : cnt a = a := by unfold cnt; rw [if_neg h0, if_neg h1]
      rw [e]
      clear e
      go_enter Try.func47, Try.ntmps47
      go_wp2
      go_ret
      exact ⟨rfl, rfl⟩

set_option maxHeartbeats 400000 in
theorem rcount_any (a : Int) (w : World) : Calls Try.prog 37 #[.int .i64 a] w fun e w' => e = .returned (.int .i64 (cnt a)) ∧ w = w' := by
  by_cases h0 : a < 0
  · have e : cnt a = 0 := by unfold cnt; rw [if_pos h0]
    rw [e]
    clear e
    go_enter Try.func37, Try.ntmps37
    go_wp2
    go_ret
    exact ⟨rfl, rfl⟩
  · by_cases h1 : 4611686018427387904 < a
    · have e : cnt a = 4611686018427387904 := by unfold cnt; rw [if_neg h0, if_pos h1]
      rw [e]
      clear e
      go_enter Try.func37, Try.ntmps37
      go_wp2
      go_ret
      exact ⟨rfl, rfl⟩
    · have e : cnt a = a := by unfold cnt; rw [if_neg h0, if_neg h1]
      rw [e]
      clear e
      go_enter Try.func37, Try.ntmps37
      go_wp2
      go_ret
      exact ⟨rfl, rfl⟩

set_option maxHeartbeats 400000 in
theorem addTwo_any (a b : Int) (w : World) (ha : 0 ≤ a) (ha' : a ≤ 4611686018427387904) (hb : 0 ≤ b) (hb' : b ≤ 4611686018427387904) :
    Calls Try.prog 46 #[.int .i64 a, .int .i64 b] w fun e w' => e = .returned (.int .i64 (addC a b)) ∧ w = w' := by
  by_cases h : 4611686018427387904 < a + b
  · have e : addC a b = 4611686018427387904 := by unfold addC; rw [if_pos h]
    rw [e]
    clear e
    go_enter Try.func46, Try.ntmps46
    go_wp2
    go_ret
    exact ⟨rfl, rfl⟩
  · have e : addC a b = a + b := by unfold addC; rw [if_neg h]
    rw [e]
    clear e
    go_enter Try.func46, Try.ntmps46
    go_wp2
    go_ret
    exact ⟨rfl, rfl⟩

set_option maxHeartbeats 400000 in
theorem mul_any (a b : Int) (w : World) : Calls Try.prog 48 #[.int .i64 a, .int .i64 b] w fun e w' => e = .returned (.int .i64 (mulC a b)) ∧ w = w' := by
  have ha := cnt_bd a
  have hb := cnt_bd b
  by_cases h0 : cnt a = 0
  · rw [mulC_none h0]
    have hz : (cnt a == 0) = true := by simpa using h0
    clear h0
    go_enter Try.func48, Try.ntmps48
    go_wp2_with (go_at_call 47; (with_reducible refine (count_any _ _).mono ?_); rintro e w' ⟨rfl, rfl⟩)
    go_ret
    exact ⟨rfl, rfl⟩
  · have hp : 0 < cnt a := by omega
    by_cases h1 : 4611686018427387904 / cnt a < cnt b
    · rw [mulC_full hp h1]
      have hd := ediv_bd (x := 4611686018427387904) (by omega) hp
      go_enter Try.func48, Try.ntmps48
      go_wp2_with (go_at_call 47; (with_reducible refine (count_any _ _).mono ?_); rintro e w' ⟨rfl, rfl⟩)
      go_ret
      exact ⟨rfl, rfl⟩
    · have h2 : cnt b ≤ 4611686018427387904 / cnt a := by omega
      rw [mulC_part hp h2]
      have hm := mul_room hp hb.1 h2
      have hd := ediv_bd (x := 4611686018427387904) (by omega) hp
      go_enter Try.func48, Try.ntmps48
      go_wp2_with (go_at_call 47; (with_reducible refine (count_any _ _).mono ?_); rintro e w' ⟨rfl, rfl⟩)
      go_ret
      exact ⟨rfl, rfl⟩

end Go.Proofs.Ytpjeeccgpnpokaa
