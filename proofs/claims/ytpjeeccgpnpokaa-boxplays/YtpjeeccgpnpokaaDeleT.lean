/- The contract of slices.Delete of one entry. Conditions: it is there. -/
import Derived.Test.YtpjeeccgpnpokaaInsT
namespace Go.Proofs.Ytpjeeccgpnpokaa
open Go.RowKit

theorem zcT (f : Pre → Nat) : (Builtin.zeroCells (Value.agg (pre0.cs ++ [Value.int .i64 0, Value.pointer none]).toArray).cells 1).toList = ((kSt f)).flat (zs 1) := made_zs (K := (kSt f)) (zeroT f ) 1
set_option maxRecDepth 100000 in
set_option maxHeartbeats 1000000 in
theorem deleT_ (f : Pre → Nat) (q k c : Nat) (L : List Ent) (w : World) (hb : Blk w q 91 (((kSt f)).flat (L ++ zs (c - L.length)))) (hk : k < L.length) (hc : L.length ≤ c) :
    Calls Try.prog 40 #[.slice (some ⟨q, 0, none⟩) (L.length : Nat) c, .int .i64 (k : Int), .int .i64 ((k : Int) + 1)] w (InsOut (kSt f) 91 q c (L.take k ++ L.drop (k + 1)) w) := by
  have hX : (L ++ zs (c - L.length)).length = c := by rw [List.length_append, zs_len]; omega
  obtain ⟨m, hm⟩ : ∃ m, L.length = m + 1 := ⟨L.length - 1, by omega⟩
  have hlen : (L.take k ++ L.drop (k + 1)).length = m := by simp; omega
  have hd : (L.drop (k + 1)).length = m - k := by simp; omega
  have hE1 : Els (kSt f) w (some ⟨q, 0, none⟩) L := by
    have := (Els.of_row (K := (kSt f)) hb).upto L.length
    rwa [List.take_left] at this
  have HS1 := Lib.hid (fun W => run_upT (n := m + 1) (c := c) slT szT (some ⟨q, 0, none⟩) (k : Int) k rfl (by omega) W)
  have HS2 := Lib.hid (fun W => run_fromT' (q := q) (n := m + 1) (c := c) slT szT ((k : Int) + 1) (k + 1) (by omega) (by omega) W)
  have HS3 := Lib.hid (fun W => run_betT (q := q) (n := m) (c := c) slT szT (m : Int) ((m : Int) + 1) m (m + 1) rfl (by omega) (by omega) (by omega) (by omega) W)
  rw [show m + 1 - m = 1 by omega] at HS3
  obtain ⟨V1, hV1⟩ := run_cutT (n := m + 1) (c := c) slT szT (some ⟨q, 0, none⟩) (k : Int) ((k : Int) + 1) ((m : Int) + 1) k (k + 1) (m + 1) rfl (by omega) (by omega) (by omega) (by omega) (by omega)
  have HV := Lib.hid hV1
  have hEz : m - k ≠ 0 → Els (kSt f) w.drew (some ⟨q, if c = k + 1 then 0 else (k + 1) * 10, none⟩) (L.drop (k + 1)) := fun h0 => by
    rw [if_neg (by omega)]
    have := (hE1.drew).tail (k + 1)
    rwa [Nat.zero_add] at this
  rw [show m + 1 - (k + 1) = m - k by omega] at HS2
  generalize (if c = k + 1 then 0 else (k + 1) * 10) = z at *
  have hr1 := run_appE (K := (kSt f)) (Y := L.drop (k + 1)) (ty := 83) usT (infoET f ) hb.drew k c ⟨q, z, none⟩ (m - k) (c - (k + 1)) hd hEz (by omega) (by omega)
  rw [hd, show k + (m - k) = m by omega] at hr1
  have e1 := row_close (c := c) hk
  rw [show L.length - (k + 1) = m - k by omega, show k + (m - k) = m by omega] at e1
  rw [e1] at hr1
  have hB2 := setRow_blk (hb.drew) (((kSt f)).flat ((L.take k ++ L.drop (k + 1)) ++ ([at_ L (L.length - 1)] ++ zs (c - L.length))))
  have hF2 := setRow_far w.drew q (((kSt f)).flat ((L.take k ++ L.drop (k + 1)) ++ ([at_ L (L.length - 1)] ++ zs (c - L.length)))).toArray
  generalize w.drew.setRow q (((kSt f)).flat ((L.take k ++ L.drop (k + 1)) ++ ([at_ L (L.length - 1)] ++ zs (c - L.length)))).toArray = w2 at *
  have hX2 : ((L.take k ++ L.drop (k + 1)) ++ ([at_ L (L.length - 1)] ++ zs (c - L.length))).length = c := by
    rw [List.length_append, hlen, List.length_append, zs_len]
    show m + (1 + _) = c
    omega
  have hr2 : (Builtin.clear_ #[83] 0 #[.slice (some ⟨q, m * 10, none⟩) 1 (c - m)]).run Try.prog w2 = _ :=
    run_clearE (K := (kSt f)) (ty := 0) usT (infoET f ) (zcT f ) hB2 m (c - m) (by rw [hX2]; omega)
  have e2 := row_clear (c := c) hk hc
  rw [show L.length - 1 = m by omega] at e2
  rw [show L.length - 1 = m by omega, e2] at hr2
  have hB3 := setRow_blk hB2 (((kSt f)).flat ((L.take k ++ L.drop (k + 1)) ++ zs (c - m)))
  have hF3 := setRow_far w2 q (((kSt f)).flat ((L.take k ++ L.drop (k + 1)) ++ zs (c - m))).toArray
  generalize w2.setRow q (((kSt f)).flat ((L.take k ++ L.drop (k + 1)) ++ zs (c - m))).toArray = w3 at *
  have FIN : Hid (InsOut (kSt f) 91 q c (L.take k ++ L.drop (k + 1)) w (.returned (.slice (some ⟨q, 0, none⟩) (m : Nat) c)) w3) := by
    refine ⟨by rw [hlen], ?_, Far.trans (S := only q) ((Far.refl (only q) w).drew) (hF2.trans hF3 (fun _ _ e => e)) (fun _ _ e => e)⟩
    rw [hlen]
    exact hB3
  have R1 := Lib.hid hr1
  have R2 := Lib.hid hr2
  have hkk : ((k : Int) == (k : Int) + 1) = false := by simp; omega
  have hkm : k ≤ m := by omega
  have hmc : m < c := by omega
  rw [hm]
  clear hr1 hr2 hB2 hF2 hB3 hF3 hX hX2 hlen hd hE1 hEz e1 e2 hb hk hc hV1 hm
  go_enter Try.func40, Try.ntmps40
  go_upto_region 1 with fail
  go_upto_region 2 with (refine wpList_sliceT rfl 83 slT (.tmp 8) (some (.tmp 9)) (some (.tmp 10)) (some (.tmp 12)) rfl (.slice (some ⟨q, 0, none⟩) (m + 1) c) (some (.int .i64 (k : Int))) (some (.int .i64 ((k : Int) + 1))) (some (.int .i64 ((m : Int) + 1))) rfl rfl rfl rfl V1 (HV.out _) ?_)
  go_upto_region 5 with fail
  refine wp_region_held_drew (S := fun _ => True) (by kernel_rfl) ?_ (fun _ => ?_)
  · exact trivial
  have HS0 : Hid True := Lib.hid trivial
  refine wpAnyH_take (i := 0) (oi := ⟨some 20, _, _, _, _, _⟩) (v := ?_) rfl (by kernel_rfl) (by kernel_rfl) (by kernel_rfl) (fun _ _ _ h => h) (Or.inl ⟨by rfl, ?_⟩) HS0.out ?_
  rotate_left
  · (intro W hSW; clear hSW; go_simp)
    first | done | (with_reducible rfl)
  try simp only [Act.put, List.setIfInBounds_toArray, List.set_cons_zero, List.set_cons_succ]
  refine wpAnyH_take (i := 1) (oi := ⟨some 21, _, _, _, _, _⟩) (v := ?_) rfl (by kernel_rfl) (by kernel_rfl) (by kernel_rfl) (fun _ _ _ h => h) (Or.inl ⟨by rfl, ?_⟩) HS0.out ?_
  rotate_left
  · (intro W hSW; clear hSW; go_simp)
    first | done | (with_reducible rfl)
  try simp only [Act.put, List.setIfInBounds_toArray, List.set_cons_zero, List.set_cons_succ]
  refine wpAnyH_take (i := 2) (oi := ⟨some 22, _, _, _, _, _⟩) (v := .slice (some ⟨q, 0, none⟩) k c) rfl (by kernel_rfl) (by kernel_rfl) (by kernel_rfl) (fun _ _ _ h => h) (yields_sliceT (by rfl) 83 slT (.tmp 20) none (some (.tmp 21)) none rfl (.slice (some ⟨q, 0, none⟩) (m + 1) c) none (some (.int .i64 (k : Int))) none (by rfl) (by rfl) (by rfl) (by rfl) _ HS1.out) HS0.out ?_
  try simp only [Act.put, List.setIfInBounds_toArray, List.set_cons_zero, List.set_cons_succ]
  refine wpAnyH_take (i := 3) (oi := ⟨some 23, _, _, _, _, _⟩) (v := ?_) rfl (by kernel_rfl) (by kernel_rfl) (by kernel_rfl) (fun _ _ _ h => h) (Or.inl ⟨by rfl, ?_⟩) HS0.out ?_
  rotate_left
  · (intro W hSW; clear hSW; go_simp)
    first | done | (with_reducible rfl)
  try simp only [Act.put, List.setIfInBounds_toArray, List.set_cons_zero, List.set_cons_succ]
  refine wpAnyH_take (i := 4) (oi := ⟨some 24, _, _, _, _, _⟩) (v := ?_) rfl (by kernel_rfl) (by kernel_rfl) (by kernel_rfl) (fun _ _ _ h => h) (Or.inl ⟨by rfl, ?_⟩) HS0.out ?_
  rotate_left
  · (intro W hSW; clear hSW; go_simp)
    first | done | (with_reducible rfl)
  try simp only [Act.put, List.setIfInBounds_toArray, List.set_cons_zero, List.set_cons_succ]
  refine wpAnyH_take (i := 5) (oi := ⟨some 25, _, _, _, _, _⟩) (v := .slice (some ⟨q, z, none⟩) (m - k) (c - (k + 1))) rfl (by kernel_rfl) (by kernel_rfl) (by kernel_rfl) (fun _ _ _ h => h) (yields_sliceT (by rfl) 83 slT (.tmp 23) (some (.tmp 24)) none none rfl (.slice (some ⟨q, 0, none⟩) (m + 1) c) (some (.int .i64 ((k : Int) + 1))) none none (by rfl) (by rfl) (by rfl) (by rfl) _ HS2.out) HS0.out ?_
  try simp only [Act.put, List.setIfInBounds_toArray, List.set_cons_zero, List.set_cons_succ]
  refine wpAnyH_ready (rs := [6]) (by kernel_rfl) (by simp) ?_
  refine AllReadyH.cons (o := ⟨some 26, _, _, _, _, _⟩) rfl (fun K hK => ?_) AllReadyH.nil
  refine step_app (by rfl) 83 (.tmp 22) (.tmp 25) rfl _ _ _ rfl rfl R1.out ?_
  refine hK.out _ _ ?_ (fun _ => ?_)
  · exact trivial
  clear hK K
  try simp only [Act.put, List.setIfInBounds_toArray, List.set_cons_zero, List.set_cons_succ]
  refine wpAnyH_take (i := 7) (oi := ⟨some 0, _, _, _, _, _⟩) (v := ?_) rfl (by kernel_rfl) (by kernel_rfl) (by kernel_rfl) (fun _ _ _ h => h) (Or.inl ⟨by rfl, ?_⟩) HS0.out ?_
  rotate_left
  · (intro W hSW; clear hSW; go_simp)
    first | done | (with_reducible rfl)
  try simp only [Act.put, List.setIfInBounds_toArray, List.set_cons_zero]
  refine wpAnyH_done (by kernel_rfl) ?_ _
  go_upto_region 6 with fail
  go_upto_region 7 with (first | (refine wpList_sliceT rfl 83 slT (.tmp 27) (some (.tmp 29)) (some (.tmp 30)) none rfl (.slice (some ⟨q, 0, none⟩) m c) (some (.int .i64 (m : Int))) (some (.int .i64 ((m : Int) + 1))) none rfl rfl rfl rfl (.slice (some ⟨q, m * 10, none⟩) 1 (c - m)) (HS3.out _) ?_) | (refine wpList_clearT rfl 83 (.tmp 31) rfl _ _ rfl R2.out ?_))
  go_wp2_with fail
  go_ret
  exact FIN.out
end Go.Proofs.Ytpjeeccgpnpokaa
