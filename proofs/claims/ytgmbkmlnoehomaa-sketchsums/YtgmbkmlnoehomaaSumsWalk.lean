/- The walk of the law SketchSums: for whatever number of slots and countings it returns true and turns nothing that was there. -/
import Derived.Test.YtgmbkmlnoehomaaRans
namespace Go.Proofs.Ytgmbkmlnoehomaa
open Go.RowKit

set_option maxRecDepth 100000 in
set_option maxHeartbeats 2000000 in
theorem sums_far (x0 : Int) (A : Option Addr) (n c : Nat) (w : World) (hn : 120 < n) :
    Calls Try.prog 6 #[.int .u8 x0, .slice A n c] w fun e w' => e = .returned (.bool true) ∧ Below w.heap.size w w' := by
  have hd : decide ((120 : Int) < (n : Int)) = true := by simp; omega
  go_enter Try.func6, Try.ntmps6
  go_wp2_with fail
  refine (awake_any _).mono ?_
  rintro e w1 ⟨rfl, hb1⟩
  have W1 := Lib.hid hb1
  clear hb1
  go_wp2_with fail
  refine (awake_any _).mono ?_
  rintro e w2 ⟨rfl, hb2⟩
  have W2 : Hid (Below w.heap.size w w2) := W1.out.trans (hb2.mono W1.out.size)
  clear hb2
  go_wp2_with fail
  go_ret
  exact ⟨rfl, W2.out⟩

set_option maxRecDepth 100000 in
set_option maxHeartbeats 4000000 in
theorem sums_near (x0 : Int) (A : Option Addr) (n c : Nat) (P : Nat → Pre) (X : Nat → Int) (w : World) (hn : n ≤ 120) (h0 : 0 ≤ x0) (h1 : x0 ≤ 255) (ha : SeenIn w A n P X) :
    Calls Try.prog 6 #[.int .u8 x0, .slice A n c] w fun e w' => e = .returned (.bool true) ∧ Below w.heap.size w w' := by
  have HA := Lib.hid ha
  clear ha
  have hd : decide ((120 : Int) < (n : Int)) = false := by simp; omega
  obtain ⟨M, hM⟩ : ∃ M : Nat, 1 + x0 % 64 = (M : Int) := ⟨(1 + x0 % 64).toNat, by omega⟩
  have hM1 : 1 ≤ M := by omega
  have hM2 : M ≤ 64 := by omega
  go_enter Try.func6, Try.ntmps6
  go_upto_region 4 with (go_at_call 8; (with_reducible refine (awake_any _).mono ?_); rintro e w1 ⟨rfl, hb1⟩; have W1 := Lib.hid hb1; clear hb1)
  try simp only [hM]
  go_upto_region 5 with (go_at_call 9; (with_reducible refine (new_x (M : Int) M _ rfl hM1 hM2).mono ?_); rintro e w2 ⟨g, q, rfl, hs, hg1, hq1, hb2⟩; have R2 : Hid (Ran w g q M P X 0 w2) := ⟨hs, W1.out.trans (hb2.mono W1.out.size)⟩; have hg : w.heap.size ≤ g := Nat.le_trans W1.out.size hg1; have hq : w.heap.size ≤ q := Nat.le_trans W1.out.size hq1; clear hs hb2 W1 hg1 hq1)
  clear hM h0 h1
  go_wp2_with fail
  go_loopw [8, 9, 10, 12, 32] (fun _ _ _ _ i w' => ∃ k : Nat, k ≤ n ∧ i = .int .i64 k ∧ Hid (∀ i, i < k → 0 ≤ X i ∧ X i ≤ 4294967296) ∧ Ran w g q M P X k w') (fun _ _ _ _ i _ => n - (intOf i).toNat)
  case atStart => exact ⟨0, by omega, rfl, Lib.hid (fun i hi => absurd hi (by omega)), R2.out⟩
  case round =>
    clear R2
    obtain ⟨k, hk, rfl, HX, hr⟩ := hrel
    have R3 := Lib.hid hr
    clear hr
    by_cases hlt : k < n
    · obtain ⟨b, o, rfl, hra, hok, hx0, hx1⟩ := HA.out k hlt
      have HR : Hid (∀ W, Below w.heap.size w W → W.rangeAt b (o + k * 9) ((P k).cs ++ [.int .i64 (X k)])) := fun W hW j v hv => (hW.cell (World.block_lt_of_cell? w _ (hra j v hv))).trans (hra j v hv)
      clear hra
      have hc := seen_num (HR.out _ R3.out.be)
      by_cases hx2 : X k < 0
      · have hd1 : decide (X k < 0) = true := by simpa using hx2
        go_wp2
        go_ret
        exact ⟨rfl, R3.out.be⟩
      · have hd1 : decide (X k < 0) = false := by simpa using hx2
        by_cases hx3 : 4294967296 < X k
        · have hd2 : decide (4294967296 < X k) = true := by simpa using hx3
          go_wp2
          go_ret
          exact ⟨rfl, R3.out.be⟩
        · have hd2 : decide (4294967296 < X k) = false := by simpa using hx3
          have HX2 : Hid (∀ i, i < k + 1 → 0 ≤ X i ∧ X i ≤ 4294967296) := fun i hi => by
            by_cases e : i = k
            · subst e; omega
            · exact HX.out i (by omega)
          go_upto_region 10 with fail
          clear hc hd1 hd2 hx2 hx3
          refine wp_region_held_drew (S := fun W => W.rangeAt b (o + k * 9) ((P k).cs ++ [.int .i64 (X k)])) (by kernel_rfl) ?_ (fun _ => ?_)
          · exact HR.out _ (below_drewN R3.out.be 1)
          have HS0 : Hid (wr.drew.rangeAt b (o + k * 9) ((P k).cs ++ [.int .i64 (X k)])) := HR.out _ (below_drewN R3.out.be 1)
          have R30 : Hid (Ran w g q M P X k wr.drew) := ⟨R3.out.at_, below_drewN R3.out.be 1⟩
          generalize wr.drew = x0 at *
          refine wpAnyH_take (i := 0) (oi := ⟨some 49, _, _, _, _, _⟩) (v := ?_) rfl (by kernel_rfl) (by kernel_rfl) (by kernel_rfl) (fun _ _ _ h => h) (Or.inl ⟨by rfl, ?_⟩) HS0.out ?_
          rotate_left
          · (intro W hSW; clear hSW; go_simp)
            first | done | (with_reducible rfl)
          try simp only [Act.put, List.setIfInBounds_toArray, List.set_cons_zero, List.set_cons_succ]
          refine wpAnyH_take (i := 1) (oi := ⟨some 50, _, _, _, _, _⟩) (v := ?_) rfl (by kernel_rfl) (by kernel_rfl) (by kernel_rfl) (fun _ _ _ h => h) (Or.inl ⟨by rfl, ?_⟩) HS0.out ?_
          rotate_left
          · (intro W hSW; clear hSW; go_simp)
            first | done | (with_reducible rfl)
          try simp only [Act.put, List.setIfInBounds_toArray, List.set_cons_zero, List.set_cons_succ]
          refine wpAnyH_take (i := 2) (oi := ⟨some 51, _, _, _, _, _⟩) (v := ?_) rfl (by kernel_rfl) (by kernel_rfl) (by kernel_rfl) (fun _ _ _ h => h) (Or.inl ⟨by rfl, ?_⟩) HS0.out ?_
          rotate_left
          · (intro W hSW; clear hSW; go_simp)
            first | done | (with_reducible rfl)
          try simp only [Act.put, List.setIfInBounds_toArray, List.set_cons_zero, List.set_cons_succ]
          refine wpAnyH_take (i := 3) (oi := ⟨some 52, _, _, _, _, _⟩) (v := ?_) rfl (by kernel_rfl) (by kernel_rfl) (by kernel_rfl) (fun _ _ _ h => h) (Or.inl ⟨by rfl, ?_⟩) HS0.out ?_
          rotate_left
          · (intro W hSW; clear hSW; go_simp)
            first | done | (with_reducible rfl)
          try simp only [Act.put, List.setIfInBounds_toArray, List.set_cons_zero, List.set_cons_succ]
          refine wpAnyH_take (i := 4) (oi := ⟨some 53, _, _, _, _, _⟩) (v := ?_) rfl (by kernel_rfl) (by kernel_rfl) (by kernel_rfl) (fun _ _ _ h => h) (Or.inl ⟨by rfl, ?_⟩) HS0.out ?_
          rotate_left
          · (intro W hSW; clear hSW; go_simp)
            first | done | (with_reducible rfl)
          try simp only [Act.put, List.setIfInBounds_toArray, List.set_cons_zero, List.set_cons_succ]
          refine wpAnyH_take (i := 5) (oi := ⟨some 54, _, _, _, _, _⟩) (v := .agg (P k).cs.toArray) rfl (by kernel_rfl) (by kernel_rfl) (by kernel_rfl) (fun _ _ _ h => h) (yields_pre (by rfl) (.tmp 53) rfl b (o + k * 9) rfl (P k) (fun _ h => seen_pre h)) HS0.out ?_
          try simp only [Act.put, List.setIfInBounds_toArray, List.set_cons_zero, List.set_cons_succ]
          refine wpAnyH_take (i := 6) (oi := ⟨some 55, _, _, _, _, _⟩) (v := ?_) rfl (by kernel_rfl) (by kernel_rfl) (by kernel_rfl) (fun _ _ _ h => h) (Or.inl ⟨by rfl, ?_⟩) HS0.out ?_
          rotate_left
          · (intro W hSW; clear hSW; go_simp)
            first | done | (with_reducible rfl)
          try simp only [Act.put, List.setIfInBounds_toArray, List.set_cons_zero, List.set_cons_succ]
          refine wpAnyH_take (i := 7) (oi := ⟨some 56, _, _, _, _, _⟩) (v := ?_) rfl (by kernel_rfl) (by kernel_rfl) (by kernel_rfl) (fun _ _ _ h => h) (Or.inl ⟨by rfl, ?_⟩) HS0.out ?_
          rotate_left
          · (intro W hSW; clear hSW; go_simp)
            first | done | (with_reducible rfl)
          try simp only [Act.put, List.setIfInBounds_toArray, List.set_cons_zero, List.set_cons_succ]
          refine wpAnyH_take (i := 8) (oi := ⟨some 57, _, _, _, _, _⟩) (v := ?_) rfl (by kernel_rfl) (by kernel_rfl) (by kernel_rfl) (fun _ _ _ h => h) (Or.inl ⟨by rfl, ?_⟩) HS0.out ?_
          rotate_left
          · (intro W hSW; clear hSW; go_simp)
            first | done | (with_reducible rfl)
          try simp only [Act.put, List.setIfInBounds_toArray, List.set_cons_zero, List.set_cons_succ]
          refine wpAnyH_take (i := 9) (oi := ⟨some 58, _, _, _, _, _⟩) (v := ?_) rfl (by kernel_rfl) (by kernel_rfl) (by kernel_rfl) (fun _ _ _ h => h) (Or.inl ⟨by rfl, ?_⟩) HS0.out ?_
          rotate_left
          · (intro W hSW; clear hSW; go_simp)
            first | done | (with_reducible rfl)
          try simp only [Act.put, List.setIfInBounds_toArray, List.set_cons_zero, List.set_cons_succ]
          refine wpAnyH_take (i := 10) (oi := ⟨some 59, _, _, _, _, _⟩) (v := .int .i64 (X k)) rfl (by kernel_rfl) (by kernel_rfl) (by kernel_rfl) (fun _ _ _ h => h) (Or.inl ⟨by rfl, ?_⟩) HS0.out ?_
          · (intro W hSW; have hc := seen_num hSW; clear hSW; go_simp)
          try simp only [Act.put, List.setIfInBounds_toArray, List.set_cons_zero, List.set_cons_succ]
          refine wpAnyH_ready (rs := [11]) (by kernel_rfl) (by simp) ?_
          refine AllReadyH.cons (o := ⟨some 60, _, _, _, _, _⟩) rfl (fun K hK => ?_) AllReadyH.nil
          go_simp
          refine (add_ g q M (ran M P X k) (tot X k) (P k) (X k) x0 R30.out.at_ hok).mono ?_
          rintro e x1 ⟨rfl, hs, hf⟩
          have R4 : Hid (Ran w g q M P X (k + 1) x1) := R30.out.next hs hf hg hq
          have HS1 : Hid (x1.rangeAt b (o + k * 9) ((P k).cs ++ [.int .i64 (X k)])) := HR.out _ R4.out.be
          clear hs hf
          go_simp
          refine hK.out _ _ ?_ (fun _ => ?_)
          · exact HS1.out
          clear hK K
          try simp only [Act.put, List.setIfInBounds_toArray, List.set_cons_zero, List.set_cons_succ]
          refine wpAnyH_done (by kernel_rfl) ?_ _
          obtain ⟨hi1, hi2⟩ := inv_ran (P := P) (M := M) HX2.out (by omega) hM1
          have hb := sumX_bd HX2.out
          have S4 := R4.out.at_
          rw [hi2] at S4
          have R5 := Lib.hid R4.out
          have S5 := Lib.hid S4
          have W5 := Lib.hid R4.out.be
          have HI := Lib.hid hi1
          have hsum := hi1.sum
          clear hi1 hi2 S4 R4 R3 R30
          obtain ⟨T, hT⟩ : ∃ T, sumX X (k + 1) = T := ⟨_, rfl⟩
          have HT := Lib.hid hT
          rw [hT] at hb S5 hsum
          clear hT
          obtain ⟨L, hL⟩ : ∃ L, ran M P X (k + 1) = L := ⟨_, rfl⟩
          have HL := Lib.hid hL
          rw [hL] at S5 HI hsum
          clear hL
          have hT2 : T ≤ 524288000000 := by omega
          have hT0 : 0 ≤ T := hb.1
          obtain ⟨m, hm⟩ : ∃ m, L.length = m := ⟨_, rfl⟩
          have HM := Lib.hid hm
          have hmM : m ≤ M := by rw [← hm]; exact HI.out.len
          have CS := Lib.hid (fun W (h : SAt W g q M L T) => slots_ g q M L T W h)
          unfold RowOut at CS
          rw [hm] at CS
          have HSL := Lib.hid (sumC_le HI.out.c0)
          have hall := sumC_all L
          rw [hm, hsum] at hall
          have HALL := Lib.hid hall
          rw [hsum] at HSL
          have HLL := Lib.hid (fun z => least_sum HI.out z)
          have HLN := Lib.hid (fun z hz => least_nat (L := L) z hz HI.out.c0)
          rw [hm] at HSL HLN HLL
          rw [HT.out] at HLL
          clear hall hsum hm hb
          go_upto_region 13 with (go_at_call 11; (with_reducible refine (CS.out _ S5.out).mono ?_); rintro e w6 ⟨A1, c1, rfl, hb3, hr3⟩; have W6 : Hid (Below w.heap.size w w6) := W5.out.trans (hb3.mono W5.out.size); have S6 := Lib.hid (S5.out.below hb3); have Y6 : Hid (RowAt 0 A1 c1 L w6) := hr3.imp id (fun ⟨q3, e, _, h⟩ => ⟨q3, e, Nat.zero_le _, h⟩); clear hb3 hr3)
          clear S5 W5
          obtain ⟨y0, hy0⟩ : ∃ z, z = wr := ⟨_, rfl⟩
          subst hy0
          go_loopw [9, 10, 12, 64] (fun s l _ i w' => ∃ j : Nat, j ≤ m ∧ i = .int .i64 j ∧ s = .int .i64 (sumC L j) ∧ l = .int .i64 (least L 1152921504606846976 j) ∧ SAt w' g q M L T ∧ Below w.heap.size w w' ∧ RowAt 0 A1 c1 L w') (fun _ _ _ i _ => m - (intOf i).toNat)
          case atStart => exact ⟨0, by omega, rfl, rfl, rfl, S6.out, W6.out, Y6.out⟩
          case round =>
            clear S6 W6 Y6
            obtain ⟨j, hj, rfl, rfl, rfl, h1, h2, h3⟩ := hrel
            have S7 := Lib.hid h1
            have W7 := Lib.hid h2
            have Y7 := Lib.hid h3
            clear h1 h2 h3
            by_cases hjl : j < m
            · have hjL : j < L.length := by rw [HM.out]; exact hjl
              obtain ⟨q1, rfl, _, hy⟩ := Y7.out.at_ hjL
              have HY := Lib.hid (hy.slot (at_some hjL))
              have e1 : sumC L (j + 1) = sumC L j + (at_ L j).c := rfl
              have E2 : Hid (least L 1152921504606846976 (j + 1) = min (least L 1152921504606846976 j) (at_ L j).c) := rfl
              have b1 := HSL.out j (by omega)
              have b2 := HSL.out (j + 1) (by omega)
              rw [e1] at b2
              have E1 := Lib.hid e1
              clear hy e1 hjL
              generalize sumC L j = u at *
              generalize least L 1152921504606846976 j = v at *
              generalize at_ L j = s at *
              go_wp2_with (first | (refine wpList_slo (by rfl) (.tmp 66) rfl _ _ rfl s HY.out ?_) | (refine wpList_new rfl (.tmp 12) (.tmp 67) rfl wr s rfl rfl ?_; intro w8 K8 hb8; have W8 : Hid (Below w.heap.size w w8) := W7.out.trans (hb8.out.mono W7.out.size); have Y8 := Lib.hid (Y7.out.below hb8.out); have S8 := Lib.hid (S7.out.below hb8.out); clear hb8; have c8 : w8.cell? ⟨wr.heap.size, 8, none⟩ = some (.int .i64 s.c) := K8.out.cell 8))
              go_roundw
              case rel => exact ⟨j + 1, by omega, by go_num, by rw [E1.out], by rw [E2.out], S8.out, W8.out, Y8.out⟩
              case measure => simp [intOf]; omega
            · obtain rfl : j = m := by omega
              rw [HALL.out]
              have HV := Lib.hid (HLN.out 1152921504606846976 (by omega) j (Nat.le_refl _))
              have HLE := Lib.hid (least_le (L := L) j 1152921504606846976)
              have HMU := Lib.hid (HLL.out 1152921504606846976)
              generalize least L 1152921504606846976 j = v at *
              have hv0 := HV.out
              have hv1 := HLE.out
              have R8 : Hid (Ran w g q M P X (k + 1) wr) := ⟨by rw [HL.out, (inv_ran (P := P) (M := M) HX2.out (by omega) hM1).2, HT.out]; exact S7.out, W7.out⟩
              have CT := Lib.hid (fun W (h : SAt W g q M L T) => total_ g q M L T W h)
              have R9 := Lib.hid (fun W (h : Below wr.heap.size wr W) => (⟨R8.out.at_.below h, W7.out.trans (h.mono W7.out.size)⟩ : Ran w g q M P X (k + 1) W))
              clear HALL HSL HLN HLL HLE HV HI HM Y7 W7 R5
              by_cases hjm : j = M
              · subst hjm
                have hmul := HMU.out rfl
                have hmul0 := Int.mul_nonneg hv0 (Int.natCast_nonneg j)
                have hd4 : decide (T < v * (j : Int)) = false := by simp; omega
                go_wp2_with (first | (go_at_call 12; (with_reducible refine (CT.out _ S7.out).mono ?_); rintro e w9 ⟨rfl, rfl⟩) | (go_at_call 11; (with_reducible refine (CS.out _ S7.out).mono ?_); rintro e w9 ⟨A2, c2, rfl, hb3, _⟩; have S9 := Lib.hid (S7.out.below hb3); have Q9 := Lib.hid (R9.out _ hb3); clear S7 hb3) | (go_at_call 12; (with_reducible refine (CT.out _ S9.out).mono ?_); rintro e w10 ⟨rfl, rfl⟩))
                go_roundw
                case rel => exact ⟨k + 1, by omega, by go_num, HX2, Q9.out⟩
                case measure => simp [intOf]; omega
              · have he : ((j : Int) == (M : Int)) = false := by simp; omega
                go_wp2_with (first | (go_at_call 12; (with_reducible refine (CT.out _ S7.out).mono ?_); rintro e w9 ⟨rfl, rfl⟩) | (go_at_call 11; (with_reducible refine (CS.out _ S7.out).mono ?_); rintro e w9 ⟨A2, c2, rfl, hb3, _⟩; have Q9 := Lib.hid (R9.out _ hb3); clear S7 hb3))
                go_roundw
                case rel => exact ⟨k + 1, by omega, by go_num, HX2, Q9.out⟩
                case measure => simp [intOf]; omega
    · go_wp2
      go_ret
      exact ⟨rfl, R3.out.be⟩
end Go.Proofs.Ytgmbkmlnoehomaa
