/- Is a flow where the document says (same)? Conditions: those of each theorem. -/
import Derived.Test.YtfhlgmmfknfamaaDocBins
import Derived.Test.YtfhlgmmfknfamaaKdRefBins
namespace Go.Proofs.Ytfhlgmmfknfamaa
open Go.RowKit

theorem binS_len (K : Ks) (S : St) (t : Int) (f : Flo) (l n : Int) : (binS K S t f l n).length ≤ 1000 := by
  unfold binS
  split
  · rw [K.len]
    omega
  · exact Nat.zero_le _
set_option maxRecDepth 100000 in
set_option maxHeartbeats 2000000 in
theorem same_ (T : Gbl) (K : Ks) (P : ProgG T K) (R : RefK K) (b : Nat → Prop) (g : Nat) (S : St) (f : Flo) (l n : Int) (w : World) (ht : T b w g S) (hS : S.Ok) (hf : f.Ok) (hl : i64 l) (hn : i64 n) :
    Calls Try.prog 16 #[.pointer (some ⟨g, 0, none⟩), .agg (dcs S).toArray, .agg f.cs.toArray, .int .i64 l, .int .i64 n] w (Ans (.bool true) w) := by
  have HT := Lib.hid (fun W' (hb : Below w.heap.size w W') => P.keep _ _ _ _ _ nobody ht (Far.of_below hb nobody) (fun _ _ e => e))
  have HW := Lib.hid (fun W' hb => P.where_ b W' g S f (HT.out W' hb) hS hf)
  have HD := Lib.hid (fun W' => dwhere_ K R S f W' hS hf)
  have HA := Lib.hid (fun W' t hb (h : i64 t) => P.bins b W' g S t f l n (HT.out W' hb) hS hf h hl hn)
  have HB := Lib.hid (fun W' t => dbins_ K R S t f l n W' hS hf hl hn)
  have HM := Lib.hid (fun W' hb => P.moving b W' g S (HT.out W' hb))
  have HE := Lib.hid (fun W' hb => P.epoch b W' g S (HT.out W' hb))
  have HO := Lib.hid (fun W' hb => P.old b W' g S (HT.out W' hb))
  have HL := Lib.hid (fun t => binS_len K S t f l n)
  have HMV : Hid (decide (0 ≤ mvI S) = S.mv.isSome) := by
    show _ = _
    unfold mvI
    rcases S.mv with _ | m <;> simp
  obtain ⟨n0, n1, n2⟩ := two_box (dcs S) f.cs 34 45 w
  have K1 := Lib.hid n0
  have Q1 := Lib.hid n1
  have W1 := Lib.hid n2
  clear n0 n1 n2 ht hS hf hl hn R P HT
  generalize nm (gen K S f) = a at *
  generalize cls K S f = c at *
  go_enter Try.func16, Try.ntmps16
  go_upto_region 1 with fail
  generalize ((w.alloc (.cells (dcs S).toArray 34)).alloc (.cells f.cs.toArray 45)) = u1 at *
  go_upto_region 2 with (first
    | (refine wpList_flo (by rfl) (.tmp 7) rfl _ 0 rfl f (whole_at Q1.out) ?_)
    | (go_at_call 17; (with_reducible refine (HW.out _ W1.out).mono ?_); rintro e u2 ⟨rfl, hb⟩; have K2 := Lib.hid (K1.out.below hb); have Q2 := Lib.hid (Q1.out.below hb); have W2 : Hid (Below w.heap.size w u2) := W1.out.trans (hb.mono W1.out.size); clear hb))
  clear K1 Q1 W1 HW
  go_upto_region 3 with (first
    | (refine wpList_flo (by rfl) (.tmp 7) rfl _ 0 rfl f (whole_at Q2.out) ?_)
    | (refine wpList_loadE (by rfl) 34 _ Try.underlying34 rfl (.tmp 6) rfl w.heap.size 0 rfl (dcs S) (whole_at K2.out) (by rw [dcs_len]; exact size34) ?_)
    | (go_at_call 23; (with_reducible refine (HD.out _).mono ?_); rintro e u3 ⟨rfl, hb⟩; have K3 := Lib.hid (K2.out.below hb); have Q3 := Lib.hid (Q2.out.below hb); have W3 : Hid (Below w.heap.size w u3) := W2.out.trans (hb.mono W2.out.size); clear hb))
  clear K2 Q2 W2 HD
  go_wp2_with fail
  go_loopw [15] (fun i w' => ∃ j : Nat, j ≤ 4 ∧ i = .int .i64 ((j : Int) - 1) ∧ Blk w' w.heap.size 34 (dcs S) ∧ Blk w' (w.heap.size + 1) 45 f.cs ∧ Below w.heap.size w w') (fun i _ => 4 - (intOf i + 1).toNat)
  case atStart => exact ⟨0, by omega, rfl, K3.out, Q3.out, W3.out⟩
  case round =>
    clear K3 Q3 W3
    obtain ⟨j, hj, rfl, r0, r1, r2⟩ := hrel
    have K4 := Lib.hid r0
    have Q4 := Lib.hid r1
    have W4 := Lib.hid r2
    clear r0 r1 r2
    by_cases hlt : j < 4
    · have hi : i64 ((j : Int) - 1) := ⟨by omega, by omega⟩
      have hle : (j : Int) - 1 ≤ 2 := by omega
      obtain ⟨zs, hzs⟩ : ∃ zs, binS K S ((j : Int) - 1) f l n = zs := ⟨_, rfl⟩
      have HLZ := Lib.hid (HL.out ((j : Int) - 1))
      rw [hzs] at HLZ
      have HA1 := Lib.hid (fun W' hb => HA.out W' ((j : Int) - 1) hb hi)
      have HB1 := Lib.hid (fun W' => HB.out W' ((j : Int) - 1))
      rw [hzs] at HA1 HB1
      clear hzs HA HB HL HM HE HO HMV
      go_wp2_with fail
      have HS0 : Hid (Blk wr.drew w.heap.size 34 (dcs S) ∧ Blk wr.drew (w.heap.size + 1) 45 f.cs) := ⟨K4.out, Q4.out⟩
      have V0 : Hid (Below w.heap.size w wr.drew) := W4.out.drew
      clear K4 Q4 W4
      refine wp_region_held_drew (S := fun W => Blk W w.heap.size 34 (dcs S) ∧ Blk W (w.heap.size + 1) 45 f.cs) (by kernel_rfl) ?_ (fun _ => ?_)
      · exact HS0.out
      generalize wr.drew = x0 at *
      refine wpAnyH_take (i := 0) (oi := ⟨some 32, _, _, _, _, _⟩) (v := ?_) rfl (by kernel_rfl) (by kernel_rfl) (by kernel_rfl) (fun _ _ _ h => h) (Or.inl ⟨by rfl, ?_⟩) HS0.out ?_
      rotate_left
      · (intro W hSW; clear hSW; go_simp)
        first | done | (with_reducible rfl)
      try simp only [Act.put, List.setIfInBounds_toArray, List.set_cons_zero, List.set_cons_succ]
      refine wpAnyH_take (i := 1) (oi := ⟨some 33, _, _, _, _, _⟩) (v := ?_) rfl (by kernel_rfl) (by kernel_rfl) (by kernel_rfl) (fun _ _ _ h => h) (Or.inl ⟨by rfl, ?_⟩) HS0.out ?_
      rotate_left
      · (intro W hSW; clear hSW; go_simp)
        first | done | (with_reducible rfl)
      try simp only [Act.put, List.setIfInBounds_toArray, List.set_cons_zero, List.set_cons_succ]
      refine wpAnyH_take (i := 2) (oi := ⟨some 34, _, _, _, _, _⟩) (v := .agg f.cs.toArray) rfl (by kernel_rfl) (by kernel_rfl) (by kernel_rfl) (fun _ _ _ h => h) (yields_flo (by rfl) (.tmp 7) rfl _ 0 rfl f (fun _ h => whole_at h.2)) HS0.out ?_
      try simp only [Act.put, List.setIfInBounds_toArray, List.set_cons_zero, List.set_cons_succ]
      refine wpAnyH_take (i := 3) (oi := ⟨some 35, _, _, _, _, _⟩) (v := ?_) rfl (by kernel_rfl) (by kernel_rfl) (by kernel_rfl) (fun _ _ _ h => h) (Or.inl ⟨by rfl, ?_⟩) HS0.out ?_
      rotate_left
      · (intro W hSW; clear hSW; go_simp)
        first | done | (with_reducible rfl)
      try simp only [Act.put, List.setIfInBounds_toArray, List.set_cons_zero, List.set_cons_succ]
      refine wpAnyH_take (i := 4) (oi := ⟨some 36, _, _, _, _, _⟩) (v := ?_) rfl (by kernel_rfl) (by kernel_rfl) (by kernel_rfl) (fun _ _ _ h => h) (Or.inl ⟨by rfl, ?_⟩) HS0.out ?_
      rotate_left
      · (intro W hSW; clear hSW; go_simp)
        first | done | (with_reducible rfl)
      try simp only [Act.put, List.setIfInBounds_toArray, List.set_cons_zero, List.set_cons_succ]
      refine wpAnyH_take (i := 6) (oi := ⟨some 38, _, _, _, _, _⟩) (v := .agg (dcs S).toArray) rfl (by kernel_rfl) (by kernel_rfl) (by kernel_rfl) (fun _ _ _ h => h) (yields_loadE (by rfl) 34 _ Try.underlying34 rfl (.tmp 6) rfl w.heap.size 0 rfl (dcs S) (fun _ h => whole_at h.1) (by rw [dcs_len]; exact size34)) HS0.out ?_
      try simp only [Act.put, List.setIfInBounds_toArray, List.set_cons_zero, List.set_cons_succ]
      refine wpAnyH_take (i := 7) (oi := ⟨some 39, _, _, _, _, _⟩) (v := ?_) rfl (by kernel_rfl) (by kernel_rfl) (by kernel_rfl) (fun _ _ _ h => h) (Or.inl ⟨by rfl, ?_⟩) HS0.out ?_
      rotate_left
      · (intro W hSW; clear hSW; go_simp)
        first | done | (with_reducible rfl)
      try simp only [Act.put, List.setIfInBounds_toArray, List.set_cons_zero, List.set_cons_succ]
      refine wpAnyH_take (i := 8) (oi := ⟨some 40, _, _, _, _, _⟩) (v := .agg f.cs.toArray) rfl (by kernel_rfl) (by kernel_rfl) (by kernel_rfl) (fun _ _ _ h => h) (yields_flo (by rfl) (.tmp 7) rfl _ 0 rfl f (fun _ h => whole_at h.2)) HS0.out ?_
      try simp only [Act.put, List.setIfInBounds_toArray, List.set_cons_zero, List.set_cons_succ]
      refine wpAnyH_take (i := 9) (oi := ⟨some 41, _, _, _, _, _⟩) (v := ?_) rfl (by kernel_rfl) (by kernel_rfl) (by kernel_rfl) (fun _ _ _ h => h) (Or.inl ⟨by rfl, ?_⟩) HS0.out ?_
      rotate_left
      · (intro W hSW; clear hSW; go_simp)
        first | done | (with_reducible rfl)
      try simp only [Act.put, List.setIfInBounds_toArray, List.set_cons_zero, List.set_cons_succ]
      refine wpAnyH_take (i := 10) (oi := ⟨some 42, _, _, _, _, _⟩) (v := ?_) rfl (by kernel_rfl) (by kernel_rfl) (by kernel_rfl) (fun _ _ _ h => h) (Or.inl ⟨by rfl, ?_⟩) HS0.out ?_
      rotate_left
      · (intro W hSW; clear hSW; go_simp)
        first | done | (with_reducible rfl)
      try simp only [Act.put, List.setIfInBounds_toArray, List.set_cons_zero, List.set_cons_succ]
      refine wpAnyH_ready (rs := [5]) (by kernel_rfl) (by simp) ?_
      refine AllReadyH.cons (o := ⟨some 37, _, _, _, _, _⟩) rfl (fun K hK => ?_) AllReadyH.nil
      go_simp
      refine (HA1.out _ V0.out).mono ?_
      rintro e x1 ⟨A1, c1, rfl, hE, hb⟩
      have HS1 : Hid (Blk x1 w.heap.size 34 (dcs S) ∧ Blk x1 (w.heap.size + 1) 45 f.cs) := ⟨HS0.out.1.below hb, HS0.out.2.below hb⟩
      have V1 : Hid (Below w.heap.size w x1) := V0.out.trans (hb.mono V0.out.size)
      have E1 := Lib.hid hE
      clear hb hE V0 HS0
      go_simp
      refine hK.out _ _ ?_ (fun _ => ?_)
      · exact HS1.out
      clear hK K
      try simp only [Act.put, List.setIfInBounds_toArray, List.set_cons_zero, List.set_cons_succ]
      refine wpAnyH_ready (rs := [11]) (by kernel_rfl) (by simp) ?_
      refine AllReadyH.cons (o := ⟨some 43, _, _, _, _, _⟩) rfl (fun K hK => ?_) AllReadyH.nil
      go_simp
      refine (HB1.out _).mono ?_
      rintro e x2 ⟨A2, c2, rfl, hE, hb⟩
      have HS2 : Hid (Blk x2 w.heap.size 34 (dcs S) ∧ Blk x2 (w.heap.size + 1) 45 f.cs) := ⟨HS1.out.1.below hb, HS1.out.2.below hb⟩
      have V2 : Hid (Below w.heap.size w x2) := V1.out.trans (hb.mono V1.out.size)
      have E2 := Lib.hid hE
      have E1b := Lib.hid (E1.out.below hb)
      clear hb hE V1 HS1 E1
      go_simp
      refine hK.out _ _ ?_ (fun _ => ?_)
      · exact HS2.out
      clear hK K
      try simp only [Act.put, List.setIfInBounds_toArray, List.set_cons_zero, List.set_cons_succ]
      refine wpAnyH_ready (rs := [12]) (by kernel_rfl) (by simp) ?_
      refine AllReadyH.cons (o := ⟨some 44, _, _, _, _, _⟩) rfl (fun K hK => ?_) AllReadyH.nil
      go_simp
      refine (kd.ints_alike _ _ _ _ _ _ _ HLZ.out E1b.out E2.out).mono ?_
      rintro e x3 ⟨rfl, hb⟩
      have HS3 : Hid (Blk x3 w.heap.size 34 (dcs S) ∧ Blk x3 (w.heap.size + 1) 45 f.cs) := ⟨HS2.out.1.below hb, HS2.out.2.below hb⟩
      have V3 : Hid (Below w.heap.size w x3) := V2.out.trans (hb.mono V2.out.size)
      clear hb V2 HS2 E1b E2
      go_simp
      refine hK.out _ _ ?_ (fun _ => ?_)
      · exact HS3.out
      clear hK K
      try simp only [Act.put, List.setIfInBounds_toArray, List.set_cons_zero, List.set_cons_succ]
      refine wpAnyH_take (i := 13) (oi := ⟨some 45, _, _, _, _, _⟩) (v := .bool false) rfl (by kernel_rfl) (by kernel_rfl) (by kernel_rfl) (fun _ _ _ h => h) (Or.inl ⟨by rfl, ?_⟩) HS3.out ?_
      · (intro W hSW; clear hSW; go_simp)
        all_goals rfl
      try simp only [Act.put, List.setIfInBounds_toArray, List.set_cons_zero, List.set_cons_succ]
      refine wpAnyH_done (by kernel_rfl) ?_ _
      go_wp2_with fail
      go_roundw
      case rel => exact ⟨j + 1, by omega, by go_num, HS3.out.1, HS3.out.2, V3.out⟩
      case measure => simp [intOf]; omega
    · have hj4 : j = 4 := by omega
      subst hj4
      clear hj hlt HA HB HL
      go_wp2_with fail
      have HT0 : Hid (Blk wr.drew w.heap.size 34 (dcs S) ∧ Blk wr.drew (w.heap.size + 1) 45 f.cs) := ⟨K4.out, Q4.out⟩
      have V0 : Hid (Below w.heap.size w wr.drew) := W4.out.drew
      clear K4 Q4 W4
      refine wp_region_held_drew (S := fun W => Blk W w.heap.size 34 (dcs S) ∧ Blk W (w.heap.size + 1) 45 f.cs) (by kernel_rfl) ?_ (fun _ => ?_)
      · exact HT0.out
      generalize wr.drew = x0 at *
      refine wpAnyH_take (i := 0) (oi := ⟨some 46, _, _, _, _, _⟩) (v := ?_) rfl (by kernel_rfl) (by kernel_rfl) (by kernel_rfl) (fun _ _ _ h => h) (Or.inl ⟨by rfl, ?_⟩) HT0.out ?_
      rotate_left
      · (intro W hSW; clear hSW; go_simp)
        first | done | (with_reducible rfl)
      try simp only [Act.put, List.setIfInBounds_toArray, List.set_cons_zero, List.set_cons_succ]
      refine wpAnyH_take (i := 1) (oi := ⟨some 47, _, _, _, _, _⟩) (v := ?_) rfl (by kernel_rfl) (by kernel_rfl) (by kernel_rfl) (fun _ _ _ h => h) (Or.inl ⟨by rfl, ?_⟩) HT0.out ?_
      rotate_left
      · (intro W hSW; clear hSW; go_simp)
        first | done | (with_reducible rfl)
      try simp only [Act.put, List.setIfInBounds_toArray, List.set_cons_zero, List.set_cons_succ]
      refine wpAnyH_take (i := 2) (oi := ⟨some 48, _, _, _, _, _⟩) (v := .bool true) rfl (by kernel_rfl) (by kernel_rfl) (by kernel_rfl) (fun _ _ _ h => h) (Or.inl ⟨by rfl, ?_⟩) HT0.out ?_
      · (intro W hSW; clear hSW; go_simp)
        all_goals rfl
      try simp only [Act.put, List.setIfInBounds_toArray, List.set_cons_zero, List.set_cons_succ]
      refine wpAnyH_take (i := 3) (oi := ⟨some 49, _, _, _, _, _⟩) (v := ?_) rfl (by kernel_rfl) (by kernel_rfl) (by kernel_rfl) (fun _ _ _ h => h) (Or.inl ⟨by rfl, ?_⟩) HT0.out ?_
      rotate_left
      · (intro W hSW; clear hSW; go_simp)
        first | done | (with_reducible rfl)
      try simp only [Act.put, List.setIfInBounds_toArray, List.set_cons_zero, List.set_cons_succ]
      refine wpAnyH_take (i := 4) (oi := ⟨some 50, _, _, _, _, _⟩) (v := ?_) rfl (by kernel_rfl) (by kernel_rfl) (by kernel_rfl) (fun _ _ _ h => h) (Or.inl ⟨by rfl, ?_⟩) HT0.out ?_
      rotate_left
      · (intro W hSW; clear hSW; go_simp)
        first | done | (with_reducible rfl)
      try simp only [Act.put, List.setIfInBounds_toArray, List.set_cons_zero, List.set_cons_succ]
      refine wpAnyH_take (i := 5) (oi := ⟨some 51, _, _, _, _, _⟩) (v := ?_) rfl (by kernel_rfl) (by kernel_rfl) (by kernel_rfl) (fun _ _ _ h => h) (Or.inl ⟨by rfl, ?_⟩) HT0.out ?_
      rotate_left
      · (intro W hSW; clear hSW; go_simp)
        first | done | (with_reducible rfl)
      try simp only [Act.put, List.setIfInBounds_toArray, List.set_cons_zero, List.set_cons_succ]
      refine wpAnyH_take (i := 6) (oi := ⟨some 52, _, _, _, _, _⟩) (v := .bool true) rfl (by kernel_rfl) (by kernel_rfl) (by kernel_rfl) (fun _ _ _ h => h) (Or.inl ⟨by rfl, ?_⟩) HT0.out ?_
      · (intro W hSW; clear hSW; go_simp)
        all_goals rfl
      try simp only [Act.put, List.setIfInBounds_toArray, List.set_cons_zero, List.set_cons_succ]
      refine wpAnyH_take (i := 7) (oi := ⟨some 53, _, _, _, _, _⟩) (v := .bool true) rfl (by kernel_rfl) (by kernel_rfl) (by kernel_rfl) (fun _ _ _ h => h) (Or.inl ⟨by rfl, ?_⟩) HT0.out ?_
      · (intro W hSW; clear hSW; go_simp)
        all_goals rfl
      try simp only [Act.put, List.setIfInBounds_toArray, List.set_cons_zero, List.set_cons_succ]
      refine wpAnyH_take (i := 8) (oi := ⟨some 54, _, _, _, _, _⟩) (v := ?_) rfl (by kernel_rfl) (by kernel_rfl) (by kernel_rfl) (fun _ _ _ h => h) (Or.inl ⟨by rfl, ?_⟩) HT0.out ?_
      rotate_left
      · (intro W hSW; clear hSW; go_simp)
        first | done | (with_reducible rfl)
      try simp only [Act.put, List.setIfInBounds_toArray, List.set_cons_zero, List.set_cons_succ]
      refine wpAnyH_take (i := 9) (oi := ⟨some 55, _, _, _, _, _⟩) (v := ?_) rfl (by kernel_rfl) (by kernel_rfl) (by kernel_rfl) (fun _ _ _ h => h) (Or.inl ⟨by rfl, ?_⟩) HT0.out ?_
      rotate_left
      · (intro W hSW; clear hSW; go_simp)
        first | done | (with_reducible rfl)
      try simp only [Act.put, List.setIfInBounds_toArray, List.set_cons_zero, List.set_cons_succ]
      refine wpAnyH_take (i := 11) (oi := ⟨some 57, _, _, _, _, _⟩) (v := ?_) rfl (by kernel_rfl) (by kernel_rfl) (by kernel_rfl) (fun _ _ _ h => h) (Or.inl ⟨by rfl, ?_⟩) HT0.out ?_
      rotate_left
      · (intro W hSW; clear hSW; go_simp)
        first | done | (with_reducible rfl)
      try simp only [Act.put, List.setIfInBounds_toArray, List.set_cons_zero, List.set_cons_succ]
      refine wpAnyH_take (i := 12) (oi := ⟨some 58, _, _, _, _, _⟩) (v := .int .i64 (mvI S)) rfl (by kernel_rfl) (by kernel_rfl) (by kernel_rfl) (fun _ _ _ h => h) (Or.inl ⟨by rfl, ?_⟩) HT0.out ?_
      · (intro W hSW; obtain ⟨d0, d1, d2, d3⟩ := dcells hSW.1; clear hSW; go_simp)
      try simp only [Act.put, List.setIfInBounds_toArray, List.set_cons_zero, List.set_cons_succ]
      refine wpAnyH_take (i := 13) (oi := ⟨some 59, _, _, _, _, _⟩) (v := .bool S.mv.isSome) rfl (by kernel_rfl) (by kernel_rfl) (by kernel_rfl) (fun _ _ _ h => h) (Or.inl ⟨by rfl, ?_⟩) HT0.out ?_
      · (intro W hSW; clear hSW; go_simp)
        all_goals (exact HMV.out)
      try simp only [Act.put, List.setIfInBounds_toArray, List.set_cons_zero, List.set_cons_succ]
      refine wpAnyH_ready (rs := [10]) (by kernel_rfl) (by simp) ?_
      refine AllReadyH.cons (o := ⟨some 56, _, _, _, _, _⟩) rfl (fun K hK => ?_) AllReadyH.nil
      go_simp
      refine (HM.out _ V0.out).mono ?_
      rintro e x1 ⟨rfl, hb⟩
      have HT1 : Hid (Blk x1 w.heap.size 34 (dcs S) ∧ Blk x1 (w.heap.size + 1) 45 f.cs) := ⟨HT0.out.1.below hb, HT0.out.2.below hb⟩
      have V1 : Hid (Below w.heap.size w x1) := V0.out.trans (hb.mono V0.out.size)
      clear hb V0 HT0
      go_simp
      refine hK.out _ _ ?_ (fun _ => ?_)
      · exact HT1.out
      clear hK K
      try simp only [Act.put, List.setIfInBounds_toArray, List.set_cons_zero, List.set_cons_succ]
      refine wpAnyH_take (i := 14) (oi := ⟨some 60, _, _, _, _, _⟩) (v := .bool true) rfl (by kernel_rfl) (by kernel_rfl) (by kernel_rfl) (fun _ _ _ h => h) (Or.inl ⟨by rfl, ?_⟩) HT1.out ?_
      · (intro W hSW; clear hSW; go_simp)
        all_goals rfl
      try simp only [Act.put, List.setIfInBounds_toArray, List.set_cons_zero, List.set_cons_succ]
      refine wpAnyH_take (i := 15) (oi := ⟨some 61, _, _, _, _, _⟩) (v := .bool true) rfl (by kernel_rfl) (by kernel_rfl) (by kernel_rfl) (fun _ _ _ h => h) (Or.inl ⟨by rfl, ?_⟩) HT1.out ?_
      · (intro W hSW; clear hSW; go_simp)
        all_goals rfl
      try simp only [Act.put, List.setIfInBounds_toArray, List.set_cons_zero, List.set_cons_succ]
      refine wpAnyH_take (i := 16) (oi := ⟨some 62, _, _, _, _, _⟩) (v := ?_) rfl (by kernel_rfl) (by kernel_rfl) (by kernel_rfl) (fun _ _ _ h => h) (Or.inl ⟨by rfl, ?_⟩) HT1.out ?_
      rotate_left
      · (intro W hSW; clear hSW; go_simp)
        first | done | (with_reducible rfl)
      try simp only [Act.put, List.setIfInBounds_toArray, List.set_cons_zero, List.set_cons_succ]
      refine wpAnyH_take (i := 17) (oi := ⟨some 63, _, _, _, _, _⟩) (v := ?_) rfl (by kernel_rfl) (by kernel_rfl) (by kernel_rfl) (fun _ _ _ h => h) (Or.inl ⟨by rfl, ?_⟩) HT1.out ?_
      rotate_left
      · (intro W hSW; clear hSW; go_simp)
        first | done | (with_reducible rfl)
      try simp only [Act.put, List.setIfInBounds_toArray, List.set_cons_zero, List.set_cons_succ]
      refine wpAnyH_take (i := 19) (oi := ⟨some 65, _, _, _, _, _⟩) (v := ?_) rfl (by kernel_rfl) (by kernel_rfl) (by kernel_rfl) (fun _ _ _ h => h) (Or.inl ⟨by rfl, ?_⟩) HT1.out ?_
      rotate_left
      · (intro W hSW; clear hSW; go_simp)
        first | done | (with_reducible rfl)
      try simp only [Act.put, List.setIfInBounds_toArray, List.set_cons_zero, List.set_cons_succ]
      refine wpAnyH_take (i := 20) (oi := ⟨some 66, _, _, _, _, _⟩) (v := .int .i64 (nm S.o : Nat)) rfl (by kernel_rfl) (by kernel_rfl) (by kernel_rfl) (fun _ _ _ h => h) (Or.inl ⟨by rfl, ?_⟩) HT1.out ?_
      · (intro W hSW; obtain ⟨d0, d1, d2, d3⟩ := dcells hSW.1; clear hSW; go_simp)
      try simp only [Act.put, List.setIfInBounds_toArray, List.set_cons_zero, List.set_cons_succ]
      refine wpAnyH_ready (rs := [18]) (by kernel_rfl) (by simp) ?_
      refine AllReadyH.cons (o := ⟨some 64, _, _, _, _, _⟩) rfl (fun K hK => ?_) AllReadyH.nil
      go_simp
      refine (HO.out _ V1.out).mono ?_
      rintro e x2 ⟨rfl, hb⟩
      have HT2 : Hid (Blk x2 w.heap.size 34 (dcs S) ∧ Blk x2 (w.heap.size + 1) 45 f.cs) := ⟨HT1.out.1.below hb, HT1.out.2.below hb⟩
      have V2 : Hid (Below w.heap.size w x2) := V1.out.trans (hb.mono V1.out.size)
      clear hb V1 HT1
      go_simp
      refine hK.out _ _ ?_ (fun _ => ?_)
      · exact HT2.out
      clear hK K
      try simp only [Act.put, List.setIfInBounds_toArray, List.set_cons_zero, List.set_cons_succ]
      refine wpAnyH_take (i := 21) (oi := ⟨some 67, _, _, _, _, _⟩) (v := .bool true) rfl (by kernel_rfl) (by kernel_rfl) (by kernel_rfl) (fun _ _ _ h => h) (Or.inl ⟨by rfl, ?_⟩) HT2.out ?_
      · (intro W hSW; clear hSW; go_simp)
        all_goals rfl
      try simp only [Act.put, List.setIfInBounds_toArray, List.set_cons_zero, List.set_cons_succ]
      refine wpAnyH_take (i := 22) (oi := ⟨some 68, _, _, _, _, _⟩) (v := .bool true) rfl (by kernel_rfl) (by kernel_rfl) (by kernel_rfl) (fun _ _ _ h => h) (Or.inl ⟨by rfl, ?_⟩) HT2.out ?_
      · (intro W hSW; clear hSW; go_simp)
        all_goals rfl
      try simp only [Act.put, List.setIfInBounds_toArray, List.set_cons_zero, List.set_cons_succ]
      refine wpAnyH_take (i := 23) (oi := ⟨some 69, _, _, _, _, _⟩) (v := ?_) rfl (by kernel_rfl) (by kernel_rfl) (by kernel_rfl) (fun _ _ _ h => h) (Or.inl ⟨by rfl, ?_⟩) HT2.out ?_
      rotate_left
      · (intro W hSW; clear hSW; go_simp)
        first | done | (with_reducible rfl)
      try simp only [Act.put, List.setIfInBounds_toArray, List.set_cons_zero, List.set_cons_succ]
      refine wpAnyH_take (i := 24) (oi := ⟨some 70, _, _, _, _, _⟩) (v := ?_) rfl (by kernel_rfl) (by kernel_rfl) (by kernel_rfl) (fun _ _ _ h => h) (Or.inl ⟨by rfl, ?_⟩) HT2.out ?_
      rotate_left
      · (intro W hSW; clear hSW; go_simp)
        first | done | (with_reducible rfl)
      try simp only [Act.put, List.setIfInBounds_toArray, List.set_cons_zero, List.set_cons_succ]
      refine wpAnyH_take (i := 26) (oi := ⟨some 72, _, _, _, _, _⟩) (v := ?_) rfl (by kernel_rfl) (by kernel_rfl) (by kernel_rfl) (fun _ _ _ h => h) (Or.inl ⟨by rfl, ?_⟩) HT2.out ?_
      rotate_left
      · (intro W hSW; clear hSW; go_simp)
        first | done | (with_reducible rfl)
      try simp only [Act.put, List.setIfInBounds_toArray, List.set_cons_zero, List.set_cons_succ]
      refine wpAnyH_take (i := 27) (oi := ⟨some 73, _, _, _, _, _⟩) (v := .int .i64 (S.ep : Nat)) rfl (by kernel_rfl) (by kernel_rfl) (by kernel_rfl) (fun _ _ _ h => h) (Or.inl ⟨by rfl, ?_⟩) HT2.out ?_
      · (intro W hSW; obtain ⟨d0, d1, d2, d3⟩ := dcells hSW.1; clear hSW; go_simp)
      try simp only [Act.put, List.setIfInBounds_toArray, List.set_cons_zero, List.set_cons_succ]
      refine wpAnyH_ready (rs := [25]) (by kernel_rfl) (by simp) ?_
      refine AllReadyH.cons (o := ⟨some 71, _, _, _, _, _⟩) rfl (fun K hK => ?_) AllReadyH.nil
      go_simp
      refine (HE.out _ V2.out).mono ?_
      rintro e x3 ⟨rfl, hb⟩
      have HT3 : Hid (Blk x3 w.heap.size 34 (dcs S) ∧ Blk x3 (w.heap.size + 1) 45 f.cs) := ⟨HT2.out.1.below hb, HT2.out.2.below hb⟩
      have V3 : Hid (Below w.heap.size w x3) := V2.out.trans (hb.mono V2.out.size)
      clear hb V2 HT2
      go_simp
      refine hK.out _ _ ?_ (fun _ => ?_)
      · exact HT3.out
      clear hK K
      try simp only [Act.put, List.setIfInBounds_toArray, List.set_cons_zero, List.set_cons_succ]
      refine wpAnyH_take (i := 28) (oi := ⟨some 74, _, _, _, _, _⟩) (v := .bool true) rfl (by kernel_rfl) (by kernel_rfl) (by kernel_rfl) (fun _ _ _ h => h) (Or.inl ⟨by rfl, ?_⟩) HT3.out ?_
      · (intro W hSW; clear hSW; go_simp)
        all_goals rfl
      try simp only [Act.put, List.setIfInBounds_toArray, List.set_cons_zero, List.set_cons_succ]
      refine wpAnyH_take (i := 29) (oi := ⟨some 75, _, _, _, _, _⟩) (v := .bool true) rfl (by kernel_rfl) (by kernel_rfl) (by kernel_rfl) (fun _ _ _ h => h) (Or.inl ⟨by rfl, ?_⟩) HT3.out ?_
      · (intro W hSW; clear hSW; go_simp)
        all_goals rfl
      try simp only [Act.put, List.setIfInBounds_toArray, List.set_cons_zero, List.set_cons_succ]
      refine wpAnyH_take (i := 30) (oi := ⟨some 10, _, _, _, _, _⟩) (v := ?_) rfl (by kernel_rfl) (by kernel_rfl) (by kernel_rfl) (fun _ _ _ h => h) (Or.inl ⟨by rfl, ?_⟩) HT3.out ?_
      rotate_left
      · (intro W hSW; clear hSW; go_simp)
        first | done | (with_reducible rfl)
      try simp only [Act.put, List.setIfInBounds_toArray, List.set_cons_zero, List.set_cons_succ]
      refine wpAnyH_done (by kernel_rfl) ?_ _
      go_wp2_with fail
      go_ret
      exact ⟨rfl, V3.out⟩
end Go.Proofs.Ytfhlgmmfknfamaa
