/- The walk of the law SketchExact: for whatever countings it returns true and turns nothing that was there. -/
import Derived.Test.YtgmbkmlnoehomaaRans
namespace Go.Proofs.Ytgmbkmlnoehomaa
open Go.RowKit

theorem radd_k (a b : Int) (w : World) : Calls Try.prog 20 #[.int .i64 a, .int .i64 b] w fun e w' => e = .returned (.int .i64 (addK a b)) ∧ w = w' := radd_any a b w
set_option maxRecDepth 100000 in
set_option maxHeartbeats 2000000 in
theorem exact_far (A : Option Addr) (n c : Nat) (w : World) (hn : 60 < n) :
    Calls Try.prog 5 #[.slice A n c] w fun e w' => e = .returned (.bool true) ∧ Below w.heap.size w w' := by
  have hd : decide ((60 : Int) < (n : Int)) = true := by simp; omega
  go_enter Try.func5, Try.ntmps5
  go_wp2_with fail
  refine (awake_any _).mono ?_
  rintro e w1 ⟨rfl, hb1⟩
  have W1 := Lib.hid hb1
  clear hb1
  go_wp2_with fail
  refine (awake_any _).mono ?_
  rintro e w2 ⟨rfl, hb2⟩
  have W2 : Hid (Below w.heap.size w w2) := W1.out.trans (hb2.mono W1.out.size)
  clear hb2
  go_wp2_with fail
  go_ret
  exact ⟨rfl, W2.out⟩

set_option maxRecDepth 100000 in
set_option maxHeartbeats 2000000 in
theorem exact_near (A : Option Addr) (n c : Nat) (P : Nat → Pre) (X : Nat → Int) (w : World) (hn : n ≤ 60) (ha : SeenIn w A n P X) :
    Calls Try.prog 5 #[.slice A n c] w fun e w' => e = .returned (.bool true) ∧ Below w.heap.size w w' := by
  have HA := Lib.hid ha
  clear ha
  have hd : decide ((60 : Int) < (n : Int)) = false := by simp; omega
  go_enter Try.func5, Try.ntmps5
  go_upto_region 4 with (first | (go_at_call 8; (with_reducible refine (awake_any _).mono ?_); rintro e w1 ⟨rfl, hb1⟩; have W1 := Lib.hid hb1; clear hb1) | (go_at_call 9; (with_reducible refine (new_x 64 64 _ rfl (by omega) (by omega)).mono ?_); rintro e w2 ⟨g, q, rfl, hs, hg1, hq1, hb2⟩; have R2 : Hid (Ran w g q 64 P X 0 w2) := ⟨hs, W1.out.trans (hb2.mono W1.out.size)⟩; have hg : w.heap.size ≤ g := Nat.le_trans W1.out.size hg1; have hq : w.heap.size ≤ q := Nat.le_trans W1.out.size hq1; clear hs hb2 W1 hg1 hq1))
  go_wp2_with fail
  go_loopw [5, 24] (fun _ i w' => ∃ k : Nat, k ≤ n ∧ i = .int .i64 k ∧ Ran w g q 64 P X k w') (fun _ i _ => n - (intOf i).toNat)
  case atStart => exact ⟨0, by omega, rfl, R2.out⟩
  case round =>
    clear R2
    obtain ⟨k, hk, rfl, hr⟩ := hrel
    have R3 := Lib.hid hr
    clear hr
    by_cases hlt : k < n
    · obtain ⟨b, o, rfl, hra, hok, hx0, hx1⟩ := HA.out k hlt
      have HR : Hid (∀ W, Below w.heap.size w W → W.rangeAt b (o + k * 9) ((P k).cs ++ [.int .i64 (X k)])) := fun W hW j v hv => (hW.cell (World.block_lt_of_cell? w _ (hra j v hv))).trans (hra j v hv)
      clear hra
      go_upto_region 7 with fail
      refine wp_region_held_drew (S := fun W => W.rangeAt b (o + k * 9) ((P k).cs ++ [.int .i64 (X k)])) (by kernel_rfl) ?_ (fun _ => ?_)
      · exact HR.out _ (below_drewN R3.out.be 1)
      have HS0 : Hid (wr.drew.rangeAt b (o + k * 9) ((P k).cs ++ [.int .i64 (X k)])) := HR.out _ (below_drewN R3.out.be 1)
      have R30 : Hid (Ran w g q 64 P X k wr.drew) := ⟨R3.out.at_, below_drewN R3.out.be 1⟩
      generalize wr.drew = x0 at *
      refine wpAnyH_take (i := 0) (oi := ⟨some 27, _, _, _, _, _⟩) (v := ?_) rfl (by kernel_rfl) (by kernel_rfl) (by kernel_rfl) (fun _ _ _ h => h) (Or.inl ⟨by rfl, ?_⟩) HS0.out ?_
      rotate_left
      · (intro W hSW; clear hSW; go_simp)
        first | done | (with_reducible rfl)
      try simp only [Act.put, List.setIfInBounds_toArray, List.set_cons_zero, List.set_cons_succ]
      refine wpAnyH_take (i := 1) (oi := ⟨some 28, _, _, _, _, _⟩) (v := ?_) rfl (by kernel_rfl) (by kernel_rfl) (by kernel_rfl) (fun _ _ _ h => h) (Or.inl ⟨by rfl, ?_⟩) HS0.out ?_
      rotate_left
      · (intro W hSW; clear hSW; go_simp)
        first | done | (with_reducible rfl)
      try simp only [Act.put, List.setIfInBounds_toArray, List.set_cons_zero, List.set_cons_succ]
      refine wpAnyH_take (i := 2) (oi := ⟨some 29, _, _, _, _, _⟩) (v := ?_) rfl (by kernel_rfl) (by kernel_rfl) (by kernel_rfl) (fun _ _ _ h => h) (Or.inl ⟨by rfl, ?_⟩) HS0.out ?_
      rotate_left
      · (intro W hSW; clear hSW; go_simp)
        first | done | (with_reducible rfl)
      try simp only [Act.put, List.setIfInBounds_toArray, List.set_cons_zero, List.set_cons_succ]
      refine wpAnyH_take (i := 3) (oi := ⟨some 30, _, _, _, _, _⟩) (v := ?_) rfl (by kernel_rfl) (by kernel_rfl) (by kernel_rfl) (fun _ _ _ h => h) (Or.inl ⟨by rfl, ?_⟩) HS0.out ?_
      rotate_left
      · (intro W hSW; clear hSW; go_simp)
        first | done | (with_reducible rfl)
      try simp only [Act.put, List.setIfInBounds_toArray, List.set_cons_zero, List.set_cons_succ]
      refine wpAnyH_take (i := 4) (oi := ⟨some 31, _, _, _, _, _⟩) (v := ?_) rfl (by kernel_rfl) (by kernel_rfl) (by kernel_rfl) (fun _ _ _ h => h) (Or.inl ⟨by rfl, ?_⟩) HS0.out ?_
      rotate_left
      · (intro W hSW; clear hSW; go_simp)
        first | done | (with_reducible rfl)
      try simp only [Act.put, List.setIfInBounds_toArray, List.set_cons_zero, List.set_cons_succ]
      refine wpAnyH_take (i := 5) (oi := ⟨some 32, _, _, _, _, _⟩) (v := .agg (P k).cs.toArray) rfl (by kernel_rfl) (by kernel_rfl) (by kernel_rfl) (fun _ _ _ h => h) (yields_pre (by rfl) (.tmp 31) rfl b (o + k * 9) rfl (P k) (fun _ h => seen_pre h)) HS0.out ?_
      try simp only [Act.put, List.setIfInBounds_toArray, List.set_cons_zero, List.set_cons_succ]
      refine wpAnyH_take (i := 6) (oi := ⟨some 33, _, _, _, _, _⟩) (v := ?_) rfl (by kernel_rfl) (by kernel_rfl) (by kernel_rfl) (fun _ _ _ h => h) (Or.inl ⟨by rfl, ?_⟩) HS0.out ?_
      rotate_left
      · (intro W hSW; clear hSW; go_simp)
        first | done | (with_reducible rfl)
      try simp only [Act.put, List.setIfInBounds_toArray, List.set_cons_zero, List.set_cons_succ]
      refine wpAnyH_take (i := 7) (oi := ⟨some 34, _, _, _, _, _⟩) (v := ?_) rfl (by kernel_rfl) (by kernel_rfl) (by kernel_rfl) (fun _ _ _ h => h) (Or.inl ⟨by rfl, ?_⟩) HS0.out ?_
      rotate_left
      · (intro W hSW; clear hSW; go_simp)
        first | done | (with_reducible rfl)
      try simp only [Act.put, List.setIfInBounds_toArray, List.set_cons_zero, List.set_cons_succ]
      refine wpAnyH_take (i := 8) (oi := ⟨some 35, _, _, _, _, _⟩) (v := ?_) rfl (by kernel_rfl) (by kernel_rfl) (by kernel_rfl) (fun _ _ _ h => h) (Or.inl ⟨by rfl, ?_⟩) HS0.out ?_
      rotate_left
      · (intro W hSW; clear hSW; go_simp)
        first | done | (with_reducible rfl)
      try simp only [Act.put, List.setIfInBounds_toArray, List.set_cons_zero, List.set_cons_succ]
      refine wpAnyH_take (i := 9) (oi := ⟨some 36, _, _, _, _, _⟩) (v := ?_) rfl (by kernel_rfl) (by kernel_rfl) (by kernel_rfl) (fun _ _ _ h => h) (Or.inl ⟨by rfl, ?_⟩) HS0.out ?_
      rotate_left
      · (intro W hSW; clear hSW; go_simp)
        first | done | (with_reducible rfl)
      try simp only [Act.put, List.setIfInBounds_toArray, List.set_cons_zero, List.set_cons_succ]
      refine wpAnyH_take (i := 10) (oi := ⟨some 37, _, _, _, _, _⟩) (v := .int .i64 (X k)) rfl (by kernel_rfl) (by kernel_rfl) (by kernel_rfl) (fun _ _ _ h => h) (Or.inl ⟨by rfl, ?_⟩) HS0.out ?_
      · (intro W hSW; have hc := seen_num hSW; clear hSW; go_simp)
      try simp only [Act.put, List.setIfInBounds_toArray, List.set_cons_zero, List.set_cons_succ]
      refine wpAnyH_ready (rs := [11]) (by kernel_rfl) (by simp) ?_
      refine AllReadyH.cons (o := ⟨some 38, _, _, _, _, _⟩) rfl (fun K hK => ?_) AllReadyH.nil
      go_simp
      refine (add_ g q 64 (ran 64 P X k) (tot X k) (P k) (X k) x0 R30.out.at_ hok).mono ?_
      rintro e x1 ⟨rfl, hs, hf⟩
      have R4 : Hid (Ran w g q 64 P X (k + 1) x1) := R30.out.next hs hf hg hq
      have HS1 : Hid (x1.rangeAt b (o + k * 9) ((P k).cs ++ [.int .i64 (X k)])) := HR.out _ R4.out.be
      clear hs hf
      go_simp
      refine hK.out _ _ ?_ (fun _ => ?_)
      · exact HS1.out
      clear hK K
      try simp only [Act.put, List.setIfInBounds_toArray, List.set_cons_zero, List.set_cons_succ]
      refine wpAnyH_done (by kernel_rfl) ?_ _
      go_wp2_with fail
      go_roundw
      case rel => exact ⟨k + 1, by omega, by go_num, R4.out⟩
      case measure => simp [intOf]; omega
    · obtain rfl : k = n := by omega
      have HO := Lib.hid R3.out.at_.oks
      have HE := Lib.hid (exa_ran (P := P) (X := X) (k := k) (M := 64) (by omega))
      have hm64 := R3.out.at_.few.1
      have S3 := Lib.hid R3.out.at_
      have W3 := Lib.hid R3.out.be
      clear R3
      generalize tot X k = T at *
      generalize ran 64 P X k = L at *
      obtain ⟨m, hm⟩ : ∃ m, L.length = m := ⟨_, rfl⟩
      have HM := Lib.hid hm
      have CS := Lib.hid (slots_ g q 64 L T wr S3.out)
      unfold RowOut at CS
      rw [hm] at CS hm64
      clear hm S3
      go_upto_region 10 with (go_at_call 11; (with_reducible refine CS.out.mono ?_); rintro e w3 ⟨A1, c1, rfl, hb3, hr3⟩; have W4 : Hid (Below w.heap.size w w3) := W3.out.trans (hb3.mono W3.out.size); have Y4 : Hid (RowAt 0 A1 c1 L w3) := hr3.imp id (fun ⟨q3, e, _, h⟩ => ⟨q3, e, Nat.zero_le _, h⟩); clear hb3 hr3)
      clear CS W3
      go_loopw [7, 8, 9, 43] (fun _ _ _ i w' => ∃ j : Nat, j ≤ m ∧ i = .int .i64 j ∧ Below w.heap.size w w' ∧ RowAt 0 A1 c1 L w') (fun _ _ _ i _ => m - (intOf i).toNat)
      case atStart => exact ⟨0, by omega, rfl, W4.out, Y4.out⟩
      case round =>
        clear W4 Y4
        obtain ⟨j, hj, rfl, h1, h2⟩ := hrel
        have W5 := Lib.hid h1
        have Y5 := Lib.hid h2
        clear h1 h2
        by_cases hjl : j < m
        · have hjL : j < L.length := by rw [HM.out]; exact hjl
          obtain ⟨q1, rfl, _, hy⟩ := Y5.out.at_ hjL
          have HY := Lib.hid (hy.slot (at_some hjL))
          have OS := Lib.hid (HO.out.at_ hjL)
          have HC := Lib.hid (HE.out.c j hjL)
          have HZ := Lib.hid (HE.out.e j hjL)
          clear hy
          generalize at_ L j = s at *
          go_upto_region 12 with (first | (refine wpList_slo (by rfl) (.tmp 45) rfl _ _ rfl s HY.out ?_) | (refine wpList_new rfl (.tmp 7) (.tmp 46) rfl wr s rfl rfl ?_; intro w6 K6 hb6; have W6 : Hid (Below w.heap.size w w6) := W5.out.trans (hb6.out.mono W5.out.size); have Y6 := Lib.hid (Y5.out.below hb6.out); clear hb6))
          clear HY W5 Y5
          generalize wr.heap.size = z at *
          go_wp2_with fail
          go_loopw [8, 9, 49] (fun v _ i w' => ∃ i' : Nat, i' ≤ k ∧ i = .int .i64 i' ∧ v = .int .i64 (truK P X s.p i') ∧ Blk w' z 32 s.cs ∧ Below w.heap.size w w' ∧ RowAt 0 (some ⟨q1, 0, none⟩) c1 L w') (fun _ _ i _ => k - (intOf i).toNat)
          case atStart => exact ⟨0, by omega, rfl, rfl, K6.out, W6.out, Y6.out⟩
          case round =>
            clear K6 W6 Y6
            obtain ⟨i, hi, rfl, rfl, h1, h2, h3⟩ := hrel
            have K7 := Lib.hid h1
            have W7 := Lib.hid h2
            have Y7 := Lib.hid h3
            clear h1 h2 h3
            by_cases hil : i < k
            · obtain ⟨b, o, rfl, hra, hok, hx0, hx1⟩ := HA.out i hil
              have HR : Hid (∀ W, Below w.heap.size w W → W.rangeAt b (o + i * 9) ((P i).cs ++ [.int .i64 (X i)])) := fun W hW j v hv => (hW.cell (World.block_lt_of_cell? w _ (hra j v hv))).trans (hra j v hv)
              have HQ := Lib.hid (fun W => eq_pre hok OS.out.p W)
              have W8 : Hid (Below w.heap.size w wr.drew) := below_drewN W7.out 1
              have K8 : Hid (Blk wr.drew z 32 s.cs) := K7.out
              have Y8 : Hid (RowAt 0 (some ⟨q1, 0, none⟩) c1 L wr.drew) := Y7.out.drewN 1
              have R8 := Lib.hid (HR.out _ W8.out)
              clear hra HR
              rcases hp : decide (P i = s.p) with _ | _
              · have HT : Hid (truK P X s.p (i + 1) = truK P X s.p i) := truK_other (of_decide_eq_false hp)
                rw [hp] at HQ
                go_upto_region 16 with fail
                clear W7 K7 Y7
                refine wp_region_held_drew (S := fun W => W.rangeAt b (o + i * 9) ((P i).cs ++ [.int .i64 (X i)]) ∧ Blk W z 32 s.cs) (by kernel_rfl) ?_ (fun _ => ?_)
                · exact ⟨R8.out, K8.out⟩
                have HS0 : Hid (wr.drew.rangeAt b (o + i * 9) ((P i).cs ++ [.int .i64 (X i)]) ∧ Blk wr.drew z 32 s.cs) := ⟨R8.out, K8.out⟩
                refine wpAnyH_take (i := 0) (oi := ⟨some 52, _, _, _, _, _⟩) (v := ?_) rfl (by kernel_rfl) (by kernel_rfl) (by kernel_rfl) (fun _ _ _ h => h) (Or.inl ⟨by rfl, ?_⟩) HS0.out ?_
                rotate_left
                · (intro W hSW; clear hSW; go_simp)
                  first | done | (with_reducible rfl)
                try simp only [Act.put, List.setIfInBounds_toArray, List.set_cons_zero, List.set_cons_succ]
                refine wpAnyH_take (i := 1) (oi := ⟨some 53, _, _, _, _, _⟩) (v := ?_) rfl (by kernel_rfl) (by kernel_rfl) (by kernel_rfl) (fun _ _ _ h => h) (Or.inl ⟨by rfl, ?_⟩) HS0.out ?_
                rotate_left
                · (intro W hSW; clear hSW; go_simp)
                  first | done | (with_reducible rfl)
                try simp only [Act.put, List.setIfInBounds_toArray, List.set_cons_zero, List.set_cons_succ]
                refine wpAnyH_take (i := 2) (oi := ⟨some 54, _, _, _, _, _⟩) (v := ?_) rfl (by kernel_rfl) (by kernel_rfl) (by kernel_rfl) (fun _ _ _ h => h) (Or.inl ⟨by rfl, ?_⟩) HS0.out ?_
                rotate_left
                · (intro W hSW; clear hSW; go_simp)
                  first | done | (with_reducible rfl)
                try simp only [Act.put, List.setIfInBounds_toArray, List.set_cons_zero, List.set_cons_succ]
                refine wpAnyH_take (i := 3) (oi := ⟨some 55, _, _, _, _, _⟩) (v := ?_) rfl (by kernel_rfl) (by kernel_rfl) (by kernel_rfl) (fun _ _ _ h => h) (Or.inl ⟨by rfl, ?_⟩) HS0.out ?_
                rotate_left
                · (intro W hSW; clear hSW; go_simp)
                  first | done | (with_reducible rfl)
                try simp only [Act.put, List.setIfInBounds_toArray, List.set_cons_zero, List.set_cons_succ]
                refine wpAnyH_take (i := 4) (oi := ⟨some 56, _, _, _, _, _⟩) (v := .agg (P i).cs.toArray) rfl (by kernel_rfl) (by kernel_rfl) (by kernel_rfl) (fun _ _ _ h => h) (yields_pre (by rfl) (.tmp 55) rfl b (o + i * 9) rfl (P i) (fun _ h => seen_pre h.1)) HS0.out ?_
                try simp only [Act.put, List.setIfInBounds_toArray, List.set_cons_zero, List.set_cons_succ]
                refine wpAnyH_take (i := 5) (oi := ⟨some 57, _, _, _, _, _⟩) (v := ?_) rfl (by kernel_rfl) (by kernel_rfl) (by kernel_rfl) (fun _ _ _ h => h) (Or.inl ⟨by rfl, ?_⟩) HS0.out ?_
                rotate_left
                · (intro W hSW; clear hSW; go_simp)
                  first | done | (with_reducible rfl)
                try simp only [Act.put, List.setIfInBounds_toArray, List.set_cons_zero, List.set_cons_succ]
                refine wpAnyH_take (i := 6) (oi := ⟨some 58, _, _, _, _, _⟩) (v := .agg s.p.cs.toArray) rfl (by kernel_rfl) (by kernel_rfl) (by kernel_rfl) (fun _ _ _ h => h) (yields_pre (by rfl) (.tmp 57) rfl z 0 rfl s.p (fun _ h => range_pre (whole_at h.2))) HS0.out ?_
                try simp only [Act.put, List.setIfInBounds_toArray, List.set_cons_zero, List.set_cons_succ]
                refine wpAnyH_take (i := 7) (oi := ⟨some 59, _, _, _, _, _⟩) (v := .bool false) rfl (by kernel_rfl) (by kernel_rfl) (by kernel_rfl) (fun _ _ _ h => h) (yields_eql (by rfl) 25 (by kernel_rfl) (.tmp 56) (.tmp 58) 25 rfl (P i).cs.toArray s.p.cs.toArray (by rfl) (by rfl) false HQ.out) HS0.out ?_
                try simp only [Act.put, List.setIfInBounds_toArray, List.set_cons_zero, List.set_cons_succ]
                refine wpAnyH_done (by kernel_rfl) ?_ _
                go_wp2_with fail
                go_roundw
                case rel => exact ⟨i + 1, by omega, by go_num, by rw [HT.out], K8.out, W8.out, Y8.out⟩
                case measure => simp [intOf]; omega
              · have HT : Hid (truK P X s.p (i + 1) = addK (truK P X s.p i) (X i)) := truK_same (of_decide_eq_true hp)
                rw [hp] at HQ
                go_upto_region 16 with fail
                clear W7 K7 Y7
                refine wp_region_held_drew (S := fun W => W.rangeAt b (o + i * 9) ((P i).cs ++ [.int .i64 (X i)]) ∧ Blk W z 32 s.cs) (by kernel_rfl) ?_ (fun _ => ?_)
                · exact ⟨R8.out, K8.out⟩
                have HS0 : Hid (wr.drew.rangeAt b (o + i * 9) ((P i).cs ++ [.int .i64 (X i)]) ∧ Blk wr.drew z 32 s.cs) := ⟨R8.out, K8.out⟩
                refine wpAnyH_take (i := 0) (oi := ⟨some 52, _, _, _, _, _⟩) (v := ?_) rfl (by kernel_rfl) (by kernel_rfl) (by kernel_rfl) (fun _ _ _ h => h) (Or.inl ⟨by rfl, ?_⟩) HS0.out ?_
                rotate_left
                · (intro W hSW; clear hSW; go_simp)
                  first | done | (with_reducible rfl)
                try simp only [Act.put, List.setIfInBounds_toArray, List.set_cons_zero, List.set_cons_succ]
                refine wpAnyH_take (i := 1) (oi := ⟨some 53, _, _, _, _, _⟩) (v := ?_) rfl (by kernel_rfl) (by kernel_rfl) (by kernel_rfl) (fun _ _ _ h => h) (Or.inl ⟨by rfl, ?_⟩) HS0.out ?_
                rotate_left
                · (intro W hSW; clear hSW; go_simp)
                  first | done | (with_reducible rfl)
                try simp only [Act.put, List.setIfInBounds_toArray, List.set_cons_zero, List.set_cons_succ]
                refine wpAnyH_take (i := 2) (oi := ⟨some 54, _, _, _, _, _⟩) (v := ?_) rfl (by kernel_rfl) (by kernel_rfl) (by kernel_rfl) (fun _ _ _ h => h) (Or.inl ⟨by rfl, ?_⟩) HS0.out ?_
                rotate_left
                · (intro W hSW; clear hSW; go_simp)
                  first | done | (with_reducible rfl)
                try simp only [Act.put, List.setIfInBounds_toArray, List.set_cons_zero, List.set_cons_succ]
                refine wpAnyH_take (i := 3) (oi := ⟨some 55, _, _, _, _, _⟩) (v := ?_) rfl (by kernel_rfl) (by kernel_rfl) (by kernel_rfl) (fun _ _ _ h => h) (Or.inl ⟨by rfl, ?_⟩) HS0.out ?_
                rotate_left
                · (intro W hSW; clear hSW; go_simp)
                  first | done | (with_reducible rfl)
                try simp only [Act.put, List.setIfInBounds_toArray, List.set_cons_zero, List.set_cons_succ]
                refine wpAnyH_take (i := 4) (oi := ⟨some 56, _, _, _, _, _⟩) (v := .agg (P i).cs.toArray) rfl (by kernel_rfl) (by kernel_rfl) (by kernel_rfl) (fun _ _ _ h => h) (yields_pre (by rfl) (.tmp 55) rfl b (o + i * 9) rfl (P i) (fun _ h => seen_pre h.1)) HS0.out ?_
                try simp only [Act.put, List.setIfInBounds_toArray, List.set_cons_zero, List.set_cons_succ]
                refine wpAnyH_take (i := 5) (oi := ⟨some 57, _, _, _, _, _⟩) (v := ?_) rfl (by kernel_rfl) (by kernel_rfl) (by kernel_rfl) (fun _ _ _ h => h) (Or.inl ⟨by rfl, ?_⟩) HS0.out ?_
                rotate_left
                · (intro W hSW; clear hSW; go_simp)
                  first | done | (with_reducible rfl)
                try simp only [Act.put, List.setIfInBounds_toArray, List.set_cons_zero, List.set_cons_succ]
                refine wpAnyH_take (i := 6) (oi := ⟨some 58, _, _, _, _, _⟩) (v := .agg s.p.cs.toArray) rfl (by kernel_rfl) (by kernel_rfl) (by kernel_rfl) (fun _ _ _ h => h) (yields_pre (by rfl) (.tmp 57) rfl z 0 rfl s.p (fun _ h => range_pre (whole_at h.2))) HS0.out ?_
                try simp only [Act.put, List.setIfInBounds_toArray, List.set_cons_zero, List.set_cons_succ]
                refine wpAnyH_take (i := 7) (oi := ⟨some 59, _, _, _, _, _⟩) (v := .bool true) rfl (by kernel_rfl) (by kernel_rfl) (by kernel_rfl) (fun _ _ _ h => h) (yields_eql (by rfl) 25 (by kernel_rfl) (.tmp 56) (.tmp 58) 25 rfl (P i).cs.toArray s.p.cs.toArray (by rfl) (by rfl) true HQ.out) HS0.out ?_
                try simp only [Act.put, List.setIfInBounds_toArray, List.set_cons_zero, List.set_cons_succ]
                refine wpAnyH_done (by kernel_rfl) ?_ _
                have hc := seen_num R8.out
                go_wp2_with (go_at_call 20; (with_reducible refine (radd_k _ _ _).mono ?_); rintro e w9 ⟨rfl, rfl⟩)
                go_roundw
                case rel => exact ⟨i + 1, by omega, by go_num, by rw [HT.out], K8.out, W8.out, Y8.out⟩
                case measure => simp [intOf]; omega
            · obtain rfl : i = k := by omega
              have c8 := K7.out.cell 8
              have c9 := K7.out.cell 9
              have d8 : s.cs[8]? = some (.int .i64 s.c) := rfl
              have d9 : s.cs[9]? = some (.int .i64 s.e) := rfl
              rw [d8, HC.out] at c8
              rw [d9, HZ.out] at c9
              go_wp2
              go_roundw
              case rel => exact ⟨j + 1, by omega, by go_num, W7.out, Y7.out⟩
              case measure => simp [intOf]; omega
        · go_wp2
          go_ret
          exact ⟨rfl, W5.out⟩
end Go.Proofs.Ytgmbkmlnoehomaa
