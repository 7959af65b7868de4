/- The contracts of num.Add over any slice of numbers, of the document's sums, products and parts, and of the law's own check that the program is awake. Conditions: those of each theorem. -/
import Derived.Test.YtpjeeccgpnpokaaCalls
namespace Go.Proofs.Ytpjeeccgpnpokaa
open Go.RowKit

/-- The slice at A of n elements reads as the numbers zs; nil and empty ones let in. -/
def Ints (w : World) (A : Option Addr) (n : Nat) (zs : List Int) : Prop :=
  zs.length = n ∧ (0 < n → ∃ ad, A = some ad ∧ ∀ k, k < n → w.cell? (ad.add k) = some (.int .i64 (zs.getD k 0)))

theorem Ints.at_ {w : World} {A : Option Addr} {n : Nat} {zs : List Int} (h : Ints w A n zs) {k : Nat} (hk : k < n) :
    ∃ ad, A = some ad ∧ w.cell? (ad.add k) = some (.int .i64 (zs.getD k 0)) := by
  obtain ⟨ad, e, hc⟩ := h.2 (by omega)
  exact ⟨ad, e, hc k hk⟩

set_option maxHeartbeats 400000 in
theorem add_any (A : Option Addr) (n c : Nat) (zs : List Int) (w : World) (hn : n ≤ 9223372036854775807) (h : Ints w A n zs) :
    Calls Try.prog 36 #[.slice A n c] w fun e w' => e = .returned (.int .i64 (sumF 0 zs)) ∧ w = w' := by
  have H := Lib.hid h
  clear h
  go_enter Try.func36, Try.ntmps36
  go_wp2
  go_loop [3, 8] (fun s i => ∃ k : Nat, k ≤ n ∧ i = .int .i64 k ∧ s = .int .i64 (sumF 0 (zs.take k))) (fun _ i => n - (intOf i).toNat)
  case atStart => exact ⟨0, Nat.zero_le _, rfl, rfl⟩
  case round =>
    obtain ⟨k, hk, rfl, rfl⟩ := hrel
    have hs := sumF_bd (zs.take k) 0 (by omega) (by omega)
    by_cases hlt : k < n
    · obtain ⟨ad, rfl, hc⟩ := H.out.at_ hlt
      have hx := cnt_bd (zs.getD k 0)
      have HS : Hid (sumF 0 (zs.take (k + 1)) = addC (sumF 0 (zs.take k)) (cnt (zs.getD k 0))) := sumF_take_succ zs k (by have := H.out.1; omega)
      generalize zs.getD k 0 = z at *
      go_wp2_with (first | (go_at_call 47; (with_reducible refine (count_any _ _).mono ?_); rintro e w' ⟨rfl, rfl⟩) | (go_at_call 46; (refine (addTwo_any _ _ _ (by omega) (by omega) (by omega) (by omega)).mono ?_); rintro e w' ⟨rfl, rfl⟩))
      go_round
      case rel => exact ⟨k + 1, by omega, by go_num, by rw [HS.out]⟩
      case measure => simp [intOf]; omega
    · go_wp2
      go_ret
      exact ⟨ret_int (by rw [List.take_of_length_le (by have := H.out.1; omega)]), rfl⟩

theorem ints_two (w : World) (a b : Int) (t : TypeId) : Ints (w.alloc (.cells #[.int .i64 a, .int .i64 b] t)) (some ⟨w.heap.size, 0, none⟩) 2 [a, b] := by
  refine ⟨rfl, fun _ => ⟨_, rfl, fun k hk => ?_⟩⟩
  match k, hk with
  | 0, _ => exact (cell_of_row _ _ _ _ _ _ (heap_alloc_new w _)).trans rfl
  | 1, _ => exact (cell_of_row _ _ _ _ _ _ (heap_alloc_new w _)).trans rfl

/-- Add of two numbers, as a call lays them out. -/
theorem add2_any (a b : Int) (w : World) (g : Nat) (t : TypeId) (hg : g = w.heap.size) :
    Calls Try.prog 36 #[.slice (some ⟨g, 0, none⟩) 2 2] (w.alloc (.cells #[.int .i64 a, .int .i64 b] t)) fun e w' => e = .returned (.int .i64 (sumF 0 [a, b])) ∧ w.alloc (.cells #[.int .i64 a, .int .i64 b] t) = w' := by
  subst hg
  exact add_any _ _ _ _ _ (by omega) (ints_two _ _ _ _)
set_option maxHeartbeats 400000 in
theorem radd_any (a b : Int) (w : World) : Calls Try.prog 29 #[.int .i64 a, .int .i64 b] w fun e w' => e = .returned (.int .i64 (addC (cnt a) (cnt b))) ∧ w = w' := by
  have ha := cnt_bd a
  have hb := cnt_bd b
  by_cases h : 4611686018427387904 < cnt a + cnt b
  · have e : addC (cnt a) (cnt b) = 4611686018427387904 := by unfold addC; rw [if_pos h]
    rw [e]
    clear e
    go_enter Try.func29, Try.ntmps29
    go_wp2_with (go_at_call 37; (with_reducible refine (rcount_any _ _).mono ?_); rintro e w' ⟨rfl, rfl⟩)
    go_ret
    exact ⟨rfl, rfl⟩
  · have e : addC (cnt a) (cnt b) = cnt a + cnt b := by unfold addC; rw [if_neg h]
    rw [e]
    clear e
    go_enter Try.func29, Try.ntmps29
    go_wp2_with (go_at_call 37; (with_reducible refine (rcount_any _ _).mono ?_); rintro e w' ⟨rfl, rfl⟩)
    go_ret
    exact ⟨rfl, rfl⟩

end Go.Proofs.Ytpjeeccgpnpokaa
