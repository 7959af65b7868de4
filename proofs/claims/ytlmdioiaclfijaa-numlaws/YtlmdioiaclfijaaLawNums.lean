/- Plain facts on counts that the law NumLaws asks for: no Go in sight. Conditions: those of each theorem. -/
import Derived.Test.YtlmdioiaclfijaaNums
namespace Go.Proofs.Ytlmdioiaclfijaa
theorem sumF_three (a b c : Int) : sumF 0 [a, b, c] = addC (addC (cnt a) (cnt b)) (cnt c) := by
  show addC (addC (addC 0 (cnt a)) (cnt b)) (cnt c) = _
  rw [addC_zero (cnt_bd a).2]
theorem sumF_turned (a b c : Int) : sumF 0 [a, b, c] = sumF 0 [c, b, a] := by
  have ha := cnt_bd a
  have hb := cnt_bd b
  have hc := cnt_bd c
  rw [sumF_three, sumF_three, addC_assoc ha.1 hb.1 hc.1, addC_comm, addC_comm (cnt b)]
theorem sumF_more (s c : Int) (h0 : 0 ≤ s) (h1 : s ≤ 4611686018427387904) : s ≤ sumF 0 [s, c] := by
  have hc := cnt_bd c
  rw [sumF_two, cnt_id h0 h1]
  unfold addC; split <;> omega
theorem sub_back (a b : Int) (h : sumF 0 [a, b] ≠ 4611686018427387904) : cnt (cnt (sumF 0 [a, b]) - cnt b) = cnt a := by
  have ha := cnt_bd a
  have hb := cnt_bd b
  rw [sumF_two] at h ⊢
  have e : addC (cnt a) (cnt b) = cnt a + cnt b := by
    unfold addC at h ⊢
    split
    · rename_i hlt; rw [if_pos hlt] at h; exact absurd rfl h
    · rfl
  have hl : cnt a + cnt b ≤ 4611686018427387904 := by
    have := addC_bd ha.1 hb.1
    omega
  rw [e, cnt_id (x := cnt a + cnt b) (by omega) hl]
  have e2 : cnt a + cnt b - cnt b = cnt a := by omega
  rw [e2, cnt_cnt]
end Go.Proofs.Ytlmdioiaclfijaa
