/- The contracts of package num and of the document's answers for it, as the calls of the program: each returns the number that the plain function gives. Conditions: those of each theorem. -/
import Derived.Test.YtedpikpknlaggaaRows
import Derived.Test.YtedpikpknlaggaaNums
import Derived.WalkKit
import Derived.WalkSpells
import Derived.WalkLawsBesides
import Derived.ProofKit
import Derived.OpenShut
import Derived.Lib.Hide
namespace Go.Proofs.Ytedpikpknlaggaa
open Go.RowKit

theorem ret_int {k : IntKind} {a b : Int} (h : a = b) : Ending.returned (.int k a) = .returned (.int k b) := by rw [h]

set_option maxHeartbeats 400000 in
theorem count_any (a : Int) (w : World) : Calls Try.prog 43 #[.int .i64 a] w fun e w' => e = .returned (.int .i64 (cnt a)) ∧ w = w' := by
  by_cases h0 : a < 0
  · have e : cnt a = 0 := by unfold cnt; rw [if_pos h0]
    rw [e]
    clear e
    go_enter Try.func43, Try.ntmps43
    go_wp2
    go_ret
    exact ⟨rfl, rfl⟩
  · by_cases h1 : 4611686018427387904 < a
    · have e : cnt a = 4611686018427387904 := by unfold cnt; rw [if_neg h0, if_pos h1]
      rw [e]
      clear e
      go_enter Try.func43, Try.ntmps43
      go_wp2
      go_ret
      exact ⟨rfl, rfl⟩
    · have e : cnt a = a := by unfold cnt; rw [if_neg h0, if_neg h1]
      rw [e]
      clear e
      go_enter Try.func43, Try.ntmps43
      go_wp2
      go_ret
      exact ⟨rfl, rfl⟩

set_option maxHeartbeats 400000 in
theorem rcount_any (a : Int) (w : World) : Calls Try.prog 44 #[.int .i64 a] w fun e w' => e = .returned (.int .i64 (cnt a)) ∧ w = w' := by
  by_cases h0 : a < 0
  · have e : cnt a = 0 := by unfold cnt; rw [if_pos h0]
    rw [e]
    clear e
    go_enter Try.func44, Try.ntmps44
    go_wp2
    go_ret
    exact ⟨rfl, rfl⟩
  · by_cases h1 : 4611686018427387904 < a
    · have e : cnt a = 4611686018427387904 := by unfold cnt; rw [if_neg h0, if_pos h1]
      rw [e]
      clear e
      go_enter Try.func44, Try.ntmps44
      go_wp2
      go_ret
      exact ⟨rfl, rfl⟩
    · have e : cnt a = a := by unfold cnt; rw [if_neg h0, if_neg h1]
      rw [e]
      clear e
      go_enter Try.func44, Try.ntmps44
      go_wp2
      go_ret
      exact ⟨rfl, rfl⟩

set_option maxHeartbeats 400000 in
theorem addTwo_any (a b : Int) (w : World) (ha : 0 ≤ a) (ha' : a ≤ 4611686018427387904) (hb : 0 ≤ b) (hb' : b ≤ 4611686018427387904) :
    Calls Try.prog 42 #[.int .i64 a, .int .i64 b] w fun e w' => e = .returned (.int .i64 (addC a b)) ∧ w = w' := by
  by_cases h : 4611686018427387904 < a + b
  · have e : addC a b = 4611686018427387904 := by unfold addC; rw [if_pos h]
    rw [e]
    clear e
    go_enter Try.func42, Try.ntmps42
    go_wp2
    go_ret
    exact ⟨rfl, rfl⟩
  · have e : addC a b = a + b := by unfold addC; rw [if_neg h]
    rw [e]
    clear e
    go_enter Try.func42, Try.ntmps42
    go_wp2
    go_ret
    exact ⟨rfl, rfl⟩

end Go.Proofs.Ytedpikpknlaggaa
