/- The walk of WindowBack. Conditions: those of each theorem. -/
import Derived.Test.YteeobeeoefokdaaOnes
namespace Go.Proofs.Yteeobeeoefokdaa
open Go.RowKit

set_option maxHeartbeats 2000000 in
theorem back_ (a0 a1 a2 a3 a5 : Int) (p : Pre) (w : World) (b0 : 0 ≤ a0 ∧ a0 ≤ 255) (b1 : 0 ≤ a1 ∧ a1 ≤ 18446744073709551615) (b2 : 0 ≤ a2 ∧ a2 ≤ 18446744073709551615) (b3 : 0 ≤ a3 ∧ a3 ≤ 18446744073709551615) (b5 : 0 ≤ a5 ∧ a5 ≤ 4294967295) (hp : p.Ok) :
    Calls Try.prog 6 #[.int .u8 a0, .int .u64 a1, .int .u64 a2, .int .u64 a3, .agg p.cs.toArray, .int .u32 a5] w fun e w' => e = .returned (.bool true) ∧ Below w.heap.size w w' := by
  have hB : Below w.heap.size w (w.alloc (.cells p.cs.toArray 31)) := (Below.refl _ w).alloc (Nat.le_refl _) _
  have hK : Blk (w.alloc (.cells p.cs.toArray 31)) w.heap.size 31 p.cs := Blk.new w 31 p.cs
  have BX := Lib.hid hB
  have KX := Lib.hid hK
  clear hB hK
  go_enter Try.func6, Try.ntmps6
  go_upto_region 1 with fail
  generalize (w.alloc (.cells p.cs.toArray 31)) = x1 at *
  go_upto_region 4 with (go_at_call 7; (with_reducible refine (awake_any _).mono ?_); rintro e w1 ⟨rfl, hb⟩; have B1 : Hid (Below w.heap.size w w1) := BX.out.trans (hb.mono BX.out.size); have K1 := Lib.hid (KX.out.below hb); clear hb)
  have ht : 1 ≤ 1 + a1 % 1099511627776 ∧ 1 + a1 % 1099511627776 ≤ 1099511627776 := by omega
  have hat : 0 ≤ a2 % 1125899906842624 ∧ a2 % 1125899906842624 < 1125899906842624 := by omega
  generalize 1 + a1 % 1099511627776 = t at *
  generalize a2 % 1125899906842624 = at_ at *
  obtain ⟨M, hM⟩ : ∃ M : Nat, 1 + a0 % 64 = (M : Int) := ⟨(1 + a0 % 64).toNat, by omega⟩
  have hM1 : 1 ≤ M ∧ M ≤ 64 := by omega
  have HM := Lib.hid hM
  have hz : 0 ≤ at_ / t ∧ at_ / t ≤ at_ := ediv_bd hat.1 (by omega)
  have HZ : Hid (¬ t = 0) := by show ¬ _; omega
  have HW : Hid (IntKind.i64.wrap (at_.tdiv t) = at_ / t) := by
    show _ = _
    rw [Int.tdiv_eq_ediv_of_nonneg hat.1, IntKind.wrap_i64] <;> omega
  have E1 : Hid (((⟨t, 4611686018427387903, 0, 0, M, []⟩ : Wn).to at_).cnt p a5 = ⟨t, 4611686018427387903, at_ / t, a5, M, [⟨p, a5, 0⟩]⟩) := by
    show _ = _
    rw [to_empty (by rw [tm_id hat.1 (by omega)]; exact hz.1), tm_id hat.1 (by omega), (cnt_empty hM1.1 p ⟨b5.1, by omega⟩).1]
  have E2 : Hid (((⟨t, 4611686018427387903, at_ / t, a5, M, [⟨p, a5, 0⟩]⟩ : Wn).to (at_ - a3 % 1125899906842624)).cnt p a5 = ⟨t, 4611686018427387903, at_ / t, addK a5 a5, M, [⟨p, 2 * a5, 0⟩]⟩) := by
    show _ = _
    rw [to_same (by
      show tm (at_ - a3 % 1125899906842624) / t ≤ at_ / t
      refine Int.ediv_le_ediv (by omega) ?_
      have := tm_le (show at_ - a3 % 1125899906842624 ≤ at_ by omega)
      rwa [tm_id hat.1 (by omega)] at this), (cnt_again p b5.1 b5.1 (by omega)).1, show a5 + a5 = 2 * a5 by omega]
  clear hM BX KX
  go_upto_region 5 with (go_at_call 8; (with_reducible refine (wnew_ M _ t 4611686018427387903 _ HM.out hM1.1 hM1.2 ⟨ht.1, by omega⟩ ⟨by omega, by omega⟩).mono ?_); rintro e w2 ⟨g, s, q, rfl, hs, hg, hb⟩; have S2 := Lib.hid hs; have B2 : Hid (Below w.heap.size w w2) := B1.out.trans (hb.mono B1.out.size); have K2 := Lib.hid (K1.out.below hb); have HG : Hid (w.heap.size ≤ g ∧ w.heap.size ≤ s ∧ w.heap.size ≤ q) := (by have := B1.out.size; show _ ∧ _ ∧ _; omega); have hgk : w.heap.size ≠ g ∧ w.heap.size ≠ s ∧ w.heap.size ≠ q := (by have := K1.out.lt; show _ ∧ _ ∧ _; omega); clear hs hg hb)
  clear B1 K1
  go_upto_region 8 with (first | (go_at_call 9; (with_reducible refine (wadd_ g s q ⟨t, 4611686018427387903, 0, 0, M, []⟩ at_ a5 p _ S2.out hp).mono ?_); rintro e w3 ⟨rfl, hs, hf⟩; rw [E1.out] at hs; have S3 := Lib.hid hs; have K3 := Lib.hid (K2.out.far hf (fun e => by rcases e with e | e | e <;> omega)); have B3 : Hid (Below w.heap.size w w3) := below_tri B2.out hf HG.out.1 HG.out.2.1 HG.out.2.2 B2.out.size; clear hs hf) | (go_at_call 9; (with_reducible refine (wadd_ g s q ⟨t, 4611686018427387903, at_ / t, a5, M, [⟨p, a5, 0⟩]⟩ (at_ - a3 % 1125899906842624) a5 p _ S3.out hp).mono ?_); rintro e w4 ⟨rfl, hs, hf⟩; rw [E2.out] at hs; have S4 := Lib.hid hs; have K4 := Lib.hid (K3.out.far hf (fun e => by rcases e with e | e | e <;> omega)); have B4 : Hid (Below w.heap.size w w4) := below_tri B3.out hf HG.out.1 HG.out.2.1 HG.out.2.2 B3.out.size; clear hs hf) | (refine wpList_pre (by rfl) (.tmp 10) rfl _ _ rfl p (whole_at K2.out) ?_) | (refine wpList_pre (by rfl) (.tmp 10) rfl _ _ rfl p (whole_at K3.out) ?_) | (go_at_call 10; (with_reducible refine (wslots_one g s q ⟨t, 4611686018427387903, at_ / t, addK a5 a5, M, [⟨p, 2 * a5, 0⟩]⟩ ⟨p, 2 * a5, 0⟩ _ S4.out rfl).mono ?_); rintro e w5 ⟨q2, c2, rfl, hb, hq2, hr⟩; have S5 := Lib.hid (S4.out.below hb); have B5 : Hid (Below w.heap.size w w5) := B4.out.trans (hb.mono B4.out.size); have R5 := Lib.hid hr; clear hb hr))
  have C0 : Hid (w5.drew.cell? ⟨q2, 8, none⟩ = some (.int .i64 (2 * a5))) := R5.out 8 _ rfl
  have D0 := Lib.hid S5.out.drew
  have E0 := Lib.hid B5.out.drew
  have HX : Hid (IntKind.i64.wrap a5 = a5) := by show _ = _; rw [IntKind.wrap_i64] <;> omega
  have HX2 : Hid (IntKind.i64.wrap (2 * a5) = 2 * a5) := by show _ = _; rw [IntKind.wrap_i64] <;> omega
  clear R5 S5 B5 S2 S3 S4 K2 K3 K4 B2 B3 B4 E1 E2
  refine wp_region_held_drew (S := fun W => W.cell? ⟨q2, 8, none⟩ = some (.int .i64 (2 * a5))) (by kernel_rfl) ?_ (fun _ => ?_)
  · exact C0.out
  have HS0 := C0
  refine wpAnyH_take (i := 0) (oi := ⟨some 54, _, _, _, _, _⟩) (v := ?_) rfl (by kernel_rfl) (by kernel_rfl) (by kernel_rfl) (fun _ _ _ h => h) (Or.inl ⟨by rfl, ?_⟩) HS0.out ?_
  rotate_left
  · (intro W hSW; clear hSW; go_simp)
    first | done | (with_reducible rfl)
  try simp only [Act.put, List.setIfInBounds_toArray, List.set_cons_zero, List.set_cons_succ]
  refine wpAnyH_take (i := 2) (oi := ⟨some 56, _, _, _, _, _⟩) (v := ?_) rfl (by kernel_rfl) (by kernel_rfl) (by kernel_rfl) (fun _ _ _ h => h) (Or.inl ⟨by rfl, ?_⟩) HS0.out ?_
  rotate_left
  · (intro W hSW; clear hSW; go_simp)
    first | done | (with_reducible rfl)
  try simp only [Act.put, List.setIfInBounds_toArray, List.set_cons_zero, List.set_cons_succ]
  refine wpAnyH_take (i := 3) (oi := ⟨some 57, _, _, _, _, _⟩) (v := ?_) rfl (by kernel_rfl) (by kernel_rfl) (by kernel_rfl) (fun _ _ _ h => h) (Or.inl ⟨by rfl, ?_⟩) HS0.out ?_
  rotate_left
  · (intro W hSW; clear hSW; go_simp)
    first | done | (with_reducible rfl)
  try simp only [Act.put, List.setIfInBounds_toArray, List.set_cons_zero, List.set_cons_succ]
  refine wpAnyH_take (i := 4) (oi := ⟨some 58, _, _, _, _, _⟩) (v := .int .i64 (at_ / t)) rfl (by kernel_rfl) (by kernel_rfl) (by kernel_rfl) (fun _ _ _ h => h) (Or.inl ⟨by rfl, ?_⟩) HS0.out ?_
  · (intro W hSW; clear hSW; go_simp)
    rw [if_neg HZ.out, HW.out]
  try simp only [Act.put, List.setIfInBounds_toArray, List.set_cons_zero, List.set_cons_succ]
  refine wpAnyH_ready (rs := [1]) (by kernel_rfl) (by simp) ?_
  refine AllReadyH.cons (o := ⟨some 55, _, _, _, _, _⟩) rfl (fun K hK => ?_) AllReadyH.nil
  go_simp
  refine (number_ g s q _ _ D0.out).mono ?_
  rintro e x1 ⟨rfl, hb⟩
  subst hb
  have HS1 := HS0
  clear HS0
  go_simp
  refine hK.out _ _ ?_ (fun _ => ?_)
  · exact HS1.out
  clear hK K
  try simp only [Act.put, List.setIfInBounds_toArray, List.set_cons_zero, List.set_cons_succ]
  refine wpAnyH_take (i := 5) (oi := ⟨some 59, _, _, _, _, _⟩) (v := .bool true) rfl (by kernel_rfl) (by kernel_rfl) (by kernel_rfl) (fun _ _ _ h => h) (Or.inl ⟨by rfl, ?_⟩) HS1.out ?_
  · (intro W hSW; clear hSW; go_simp)
  try simp only [Act.put, List.setIfInBounds_toArray, List.set_cons_zero, List.set_cons_succ]
  refine wpAnyH_take (i := 6) (oi := ⟨some 60, _, _, _, _, _⟩) (v := ?_) rfl (by kernel_rfl) (by kernel_rfl) (by kernel_rfl) (fun _ _ _ h => h) (Or.inl ⟨by rfl, ?_⟩) HS1.out ?_
  rotate_left
  · (intro W hSW; clear hSW; go_simp)
    first | done | (with_reducible rfl)
  try simp only [Act.put, List.setIfInBounds_toArray, List.set_cons_zero, List.set_cons_succ]
  refine wpAnyH_take (i := 7) (oi := ⟨some 61, _, _, _, _, _⟩) (v := ?_) rfl (by kernel_rfl) (by kernel_rfl) (by kernel_rfl) (fun _ _ _ h => h) (Or.inl ⟨by rfl, ?_⟩) HS1.out ?_
  rotate_left
  · (intro W hSW; clear hSW; go_simp)
    first | done | (with_reducible rfl)
  try simp only [Act.put, List.setIfInBounds_toArray, List.set_cons_zero, List.set_cons_succ]
  refine wpAnyH_take (i := 8) (oi := ⟨some 62, _, _, _, _, _⟩) (v := ?_) rfl (by kernel_rfl) (by kernel_rfl) (by kernel_rfl) (fun _ _ _ h => h) (Or.inl ⟨by rfl, ?_⟩) HS1.out ?_
  rotate_left
  · (intro W hSW; clear hSW; go_simp)
    first | done | (with_reducible rfl)
  try simp only [Act.put, List.setIfInBounds_toArray, List.set_cons_zero, List.set_cons_succ]
  refine wpAnyH_take (i := 9) (oi := ⟨some 63, _, _, _, _, _⟩) (v := .bool true) rfl (by kernel_rfl) (by kernel_rfl) (by kernel_rfl) (fun _ _ _ h => h) (Or.inl ⟨by rfl, ?_⟩) HS1.out ?_
  · (intro W hSW; clear hSW; go_simp)
  try simp only [Act.put, List.setIfInBounds_toArray, List.set_cons_zero, List.set_cons_succ]
  refine wpAnyH_take (i := 10) (oi := ⟨some 64, _, _, _, _, _⟩) (v := .bool true) rfl (by kernel_rfl) (by kernel_rfl) (by kernel_rfl) (fun _ _ _ h => h) (Or.inl ⟨by rfl, ?_⟩) HS1.out ?_
  · (intro W hSW; clear hSW; go_simp)
  try simp only [Act.put, List.setIfInBounds_toArray, List.set_cons_zero, List.set_cons_succ]
  refine wpAnyH_take (i := 11) (oi := ⟨some 65, _, _, _, _, _⟩) (v := ?_) rfl (by kernel_rfl) (by kernel_rfl) (by kernel_rfl) (fun _ _ _ h => h) (Or.inl ⟨by rfl, ?_⟩) HS1.out ?_
  rotate_left
  · (intro W hSW; clear hSW; go_simp)
    first | done | (with_reducible rfl)
  try simp only [Act.put, List.setIfInBounds_toArray, List.set_cons_zero, List.set_cons_succ]
  refine wpAnyH_take (i := 12) (oi := ⟨some 66, _, _, _, _, _⟩) (v := ?_) rfl (by kernel_rfl) (by kernel_rfl) (by kernel_rfl) (fun _ _ _ h => h) (Or.inl ⟨by rfl, ?_⟩) HS1.out ?_
  rotate_left
  · (intro W hSW; clear hSW; go_simp)
    first | done | (with_reducible rfl)
  try simp only [Act.put, List.setIfInBounds_toArray, List.set_cons_zero, List.set_cons_succ]
  refine wpAnyH_take (i := 13) (oi := ⟨some 67, _, _, _, _, _⟩) (v := ?_) rfl (by kernel_rfl) (by kernel_rfl) (by kernel_rfl) (fun _ _ _ h => h) (Or.inl ⟨by rfl, ?_⟩) HS1.out ?_
  rotate_left
  · (intro W hSW; clear hSW; go_simp)
    first | done | (with_reducible rfl)
  try simp only [Act.put, List.setIfInBounds_toArray, List.set_cons_zero, List.set_cons_succ]
  refine wpAnyH_take (i := 14) (oi := ⟨some 68, _, _, _, _, _⟩) (v := ?_) rfl (by kernel_rfl) (by kernel_rfl) (by kernel_rfl) (fun _ _ _ h => h) (Or.inl ⟨by rfl, ?_⟩) HS1.out ?_
  rotate_left
  · (intro W hSW; clear hSW; go_simp)
    first | done | (with_reducible rfl)
  try simp only [Act.put, List.setIfInBounds_toArray, List.set_cons_zero, List.set_cons_succ]
  refine wpAnyH_take (i := 15) (oi := ⟨some 69, _, _, _, _, _⟩) (v := .int .i64 (2 * a5)) rfl (by kernel_rfl) (by kernel_rfl) (by kernel_rfl) (fun _ _ _ h => h) (Or.inl ⟨by rfl, ?_⟩) HS1.out ?_
  · (intro W hSW; have hc := hSW; clear hSW; go_simp)
  try simp only [Act.put, List.setIfInBounds_toArray, List.set_cons_zero, List.set_cons_succ]
  refine wpAnyH_take (i := 16) (oi := ⟨some 70, _, _, _, _, _⟩) (v := ?_) rfl (by kernel_rfl) (by kernel_rfl) (by kernel_rfl) (fun _ _ _ h => h) (Or.inl ⟨by rfl, ?_⟩) HS1.out ?_
  rotate_left
  · (intro W hSW; clear hSW; go_simp)
    first | done | (with_reducible rfl)
  try simp only [Act.put, List.setIfInBounds_toArray, List.set_cons_zero, List.set_cons_succ]
  refine wpAnyH_take (i := 17) (oi := ⟨some 71, _, _, _, _, _⟩) (v := .int .i64 a5) rfl (by kernel_rfl) (by kernel_rfl) (by kernel_rfl) (fun _ _ _ h => h) (Or.inl ⟨by rfl, ?_⟩) HS1.out ?_
  · (intro W hSW; clear hSW; go_simp)
    rw [HX.out]
  try simp only [Act.put, List.setIfInBounds_toArray, List.set_cons_zero, List.set_cons_succ]
  refine wpAnyH_take (i := 18) (oi := ⟨some 72, _, _, _, _, _⟩) (v := .int .i64 (2 * a5)) rfl (by kernel_rfl) (by kernel_rfl) (by kernel_rfl) (fun _ _ _ h => h) (Or.inl ⟨by rfl, ?_⟩) HS1.out ?_
  · (intro W hSW; clear hSW; go_simp)
    rw [HX2.out]
  try simp only [Act.put, List.setIfInBounds_toArray, List.set_cons_zero, List.set_cons_succ]
  refine wpAnyH_take (i := 19) (oi := ⟨some 73, _, _, _, _, _⟩) (v := .bool true) rfl (by kernel_rfl) (by kernel_rfl) (by kernel_rfl) (fun _ _ _ h => h) (Or.inl ⟨by rfl, ?_⟩) HS1.out ?_
  · (intro W hSW; clear hSW; go_simp)
  try simp only [Act.put, List.setIfInBounds_toArray, List.set_cons_zero, List.set_cons_succ]
  refine wpAnyH_take (i := 20) (oi := ⟨some 74, _, _, _, _, _⟩) (v := .bool true) rfl (by kernel_rfl) (by kernel_rfl) (by kernel_rfl) (fun _ _ _ h => h) (Or.inl ⟨by rfl, ?_⟩) HS1.out ?_
  · (intro W hSW; clear hSW; go_simp)
  try simp only [Act.put, List.setIfInBounds_toArray, List.set_cons_zero, List.set_cons_succ]
  refine wpAnyH_take (i := 21) (oi := ⟨some 12, _, _, _, _, _⟩) (v := ?_) rfl (by kernel_rfl) (by kernel_rfl) (by kernel_rfl) (fun _ _ _ h => h) (Or.inl ⟨by rfl, ?_⟩) HS1.out ?_
  rotate_left
  · (intro W hSW; clear hSW; go_simp)
    first | done | (with_reducible rfl)
  try simp only [Act.put, List.setIfInBounds_toArray, List.set_cons_zero, List.set_cons_succ]
  refine wpAnyH_done (by kernel_rfl) ?_ _
  go_wp2_with fail
  go_ret
  exact ⟨rfl, E0.out⟩
end Go.Proofs.Yteeobeeoefokdaa
