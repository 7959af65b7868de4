/- The contract of the laws' heads: what heads a class. Conditions: those of each theorem. -/
import Derived.Test.YtknalphhnicffaaAwake
namespace Go.Proofs.Ytknalphhnicffaa
open Go.RowKit

set_option maxHeartbeats 1000000 in
theorem head_any (A : Option Addr) (m c k : Nat) (hs : List Int) (x : Int) (w : World) (hx : x = k) (hl : hs.length = m) (h : Vals w A m (ints hs)) :
    Calls Try.prog 48 #[.agg #[.slice A m c], .int .i64 x] w fun e w' => e = .returned (.int .i64 (hdOf hs k)) ∧ Below w.heap.size w w' := by
  subst hx
  have d0 : decide ((k : Int) < 0) = false := by simp
  by_cases hk : k < m
  · obtain ⟨a, rfl, hc⟩ := h.at_ (ints_at (zs := hs) (k := k) (by omega))
    have hc' : (w.alloc (.cells #[.slice (some a) m c] 43)).cell? (a.add k) = some (.int .i64 (hs.getD k 0)) := (World.cell?_of_block (Below.heap_alloc w _ _ (World.block_lt_of_cell? w _ hc))).trans hc
    have HE : Hid (hs.getD k 0 = hdOf hs k) := (rfl : hs.getD k 0 = hdOf hs k)
    have d1 : decide ((m : Int) ≤ (k : Int)) = false := by simp; omega
    have d1' : decide (m ≤ k) = false := by simp; omega
    clear hc h
    generalize hs.getD k 0 = z at *
    go_enter Try.func48, Try.ntmps48
    go_wp2
    go_ret
    exact ⟨ret_int HE.out, below_one _ _⟩
  · have HE : Hid (hdOf hs k = 0) := by
      show hs.getD k 0 = 0
      rw [List.getD_eq_getElem?_getD, List.getElem?_eq_none (by omega)]
      rfl
    have d1 : decide ((m : Int) ≤ (k : Int)) = true := by simp; omega
    have d1' : decide (m ≤ k) = true := by simp; omega
    clear h
    go_enter Try.func48, Try.ntmps48
    go_wp2
    go_ret
    exact ⟨ret_int HE.out.symm, below_one _ _⟩
end Go.Proofs.Ytknalphhnicffaa
