/- The walk of the law SketchBounds: for whatever number of slots, countings and prefix it returns true and turns nothing that was there. -/
import Derived.Test.YtgmbkmlnoehomaaPrefs
namespace Go.Proofs.Ytgmbkmlnoehomaa
open Go.RowKit

theorem all_grown {w x y : World} {z g q M O : Nat} {L : List Slo} {T : Int} {p : Pre} (hg : x.grownBy y (Value.slice (some ⟨O, 0, none⟩) 1 1).ownBlock) (h1 : Blk x z 25 p.cs) (h2 : SAt x g q M L T) (h3 : Below w.heap.size w x) (hO : O ≠ z ∧ O ≠ g ∧ O ≠ q ∧ w.heap.size ≤ O) :
    Blk y z 25 p.cs ∧ SAt y g q M L T ∧ Below w.heap.size w y := by
  have hf : Far (only O) x y := ⟨hg.os, hg.tape, hg.output, hg.size, fun k hk hn => hg.block k hk (by simp only [Value.ownBlock]; intro e; injection e with e; exact hn e)⟩
  exact ⟨h1.far hf (fun e => hO.1 (Eq.symm e)), h2.far hf (fun e => hO.2.1 (Eq.symm e)) (fun e => hO.2.2.1 (Eq.symm e)), below_only h3 hf hO.2.2.2 h3.size⟩
theorem rcount_k (a : Int) (w : World) (h0 : 0 ≤ a) (h1 : a ≤ 4611686018427387904) : Calls Try.prog 19 #[.int .i64 a] w fun e w' => e = .returned (.int .i64 a) ∧ w = w' :=
  (rcount_any a w).mono fun _ _ ⟨h, k⟩ => ⟨by rw [h, cnt_id h0 h1], k⟩
set_option maxRecDepth 100000 in
set_option maxHeartbeats 2000000 in
theorem bounds_far (x0 : Int) (A : Option Addr) (n c : Nat) (p : Pre) (w : World) (hn : 120 < n) :
    Calls Try.prog 4 #[.int .u8 x0, .slice A n c, .agg p.cs.toArray] w fun e w' => e = .returned (.bool true) ∧ Below w.heap.size w w' := by
  have hd : decide ((120 : Int) < (n : Int)) = true := by simp; omega
  have B0 : Hid (Below w.heap.size w (w.alloc (.cells p.cs.toArray 25))) := (Below.refl _ w).alloc (Nat.le_refl _) _
  go_enter Try.func4, Try.ntmps4
  go_wp2_with fail
  refine (awake_any _).mono ?_
  rintro e w1 ⟨rfl, hb1⟩
  have W1 : Hid (Below w.heap.size w w1) := B0.out.trans (hb1.mono B0.out.size)
  clear hb1
  go_wp2_with fail
  refine (awake_any _).mono ?_
  rintro e w2 ⟨rfl, hb2⟩
  have W2 : Hid (Below w.heap.size w w2) := W1.out.trans (hb2.mono W1.out.size)
  clear hb2
  go_wp2_with fail
  go_ret
  exact ⟨rfl, W2.out⟩

set_option maxRecDepth 100000 in
set_option maxHeartbeats 8000000 in
theorem bounds_near (x0 : Int) (A : Option Addr) (n c : Nat) (p : Pre) (P : Nat → Pre) (X : Nat → Int) (w0 : World) (hn : n ≤ 120) (h0 : 0 ≤ x0) (h1 : x0 ≤ 255) (hp : p.Ok) (ha : SeenIn w0 A n P X) :
    Calls Try.prog 4 #[.int .u8 x0, .slice A n c, .agg p.cs.toArray] w0 fun e w' => e = .returned (.bool true) ∧ Below w0.heap.size w0 w' := by
  have K0 := Lib.hid (Blk.new w0 25 p.cs)
  have B0 : Hid (Below w0.heap.size w0 (w0.alloc (.cells p.cs.toArray 25))) := (Below.refl _ w0).alloc (Nat.le_refl _) _
  have HA := Lib.hid (ha.far B0.out)
  have HE : Hid (∀ W, Below (w0.alloc (.cells p.cs.toArray 25)).heap.size (w0.alloc (.cells p.cs.toArray 25)) W → Below w0.heap.size w0 W) := fun W hW => B0.out.trans (hW.mono B0.out.size)
  have HPP := Lib.hid hp
  have HPQ := Lib.hid hp
  clear ha hp
  have hd : decide ((120 : Int) < (n : Int)) = false := by simp; omega
  obtain ⟨M, hM⟩ : ∃ M : Nat, 1 + x0 % 64 = (M : Int) := ⟨(1 + x0 % 64).toNat, by omega⟩
  have hM1 : 1 ≤ M := by omega
  have hM2 : M ≤ 64 := by omega
  go_enter Try.func4, Try.ntmps4
  go_upto_region 1 with fail
  generalize (w0.alloc (.cells p.cs.toArray 25)) = w at *
  go_upto_region 4 with (go_at_call 8; (with_reducible refine (awake_any _).mono ?_); rintro e w1 ⟨rfl, hb1⟩; have W1 := Lib.hid hb1; clear hb1)
  try simp only [hM]
  go_upto_region 5 with (go_at_call 9; (with_reducible refine (new_x (M : Int) M _ rfl hM1 hM2).mono ?_); rintro e w2 ⟨g, q, rfl, hs, hg1, hq1, hb2⟩; have R2 : Hid (Ran w g q M P X 0 w2) := ⟨hs, W1.out.trans (hb2.mono W1.out.size)⟩; have hg : w.heap.size ≤ g := Nat.le_trans W1.out.size hg1; have hq : w.heap.size ≤ q := Nat.le_trans W1.out.size hq1; clear hs hb2 W1 hg1 hq1)
  clear hM h0 h1
  go_wp2_with fail
  go_loop [10, 11, 12, 42] (fun t _ _ i => ∃ k : Nat, k ≤ n ∧ i = .int .i64 k ∧ t = .int .i64 (sumX X k) ∧ Hid (∀ i, i < k → 0 ≤ X i ∧ X i ≤ 4294967296)) (fun _ _ _ i => n - (intOf i).toNat)
  case atStart => exact ⟨0, by omega, rfl, rfl, Lib.hid (fun i hi => absurd hi (by omega))⟩
  case round =>
    obtain ⟨k, hk, rfl, rfl, HX⟩ := hrel
    by_cases hlt : k < n
    · obtain ⟨b, o, rfl, hra, hok, hx0, hx1⟩ := HA.out k hlt
      have HR : Hid (∀ W, Below w.heap.size w W → W.rangeAt b (o + k * 9) ((P k).cs ++ [.int .i64 (X k)])) := fun W hW j v hv => (hW.cell (World.block_lt_of_cell? w _ (hra j v hv))).trans (hra j v hv)
      clear hra
      have hc := seen_num (HR.out _ R2.out.be)
      have hb := sumX_bd HX.out
      by_cases hx2 : X k < 0
      · have hd1 : decide (X k < 0) = true := by simpa using hx2
        go_wp2
        go_ret
        exact ⟨rfl, HE.out _ R2.out.be⟩
      · have hd1 : decide (X k < 0) = false := by simpa using hx2
        by_cases hx3 : 4294967296 < X k
        · have hd2 : decide (4294967296 < X k) = true := by simpa using hx3
          go_wp2
          go_ret
          exact ⟨rfl, HE.out _ R2.out.be⟩
        · have hd2 : decide (4294967296 < X k) = false := by simpa using hx3
          have HX2 : Hid (∀ i, i < k + 1 → 0 ≤ X i ∧ X i ≤ 4294967296) := fun i hi => by
            by_cases e : i = k
            · subst e; omega
            · exact HX.out i (by omega)
          have E1 : Hid (sumX X (k + 1) = sumX X k + X k) := rfl
          generalize sumX X k = u at *
          go_wp2
          go_round
          case rel => exact ⟨k + 1, by omega, by go_num, by rw [E1.out], HX2⟩
          case measure => simp [intOf]; omega
    · obtain rfl : n = k := by omega
      have HX1 := HX
      clear HX hlt hk
      go_wp2_with fail
      go_loopw [13, 62] (fun _ i w' => ∃ k : Nat, k ≤ n ∧ i = .int .i64 k ∧ Ran w g q M P X k w') (fun _ i _ => n - (intOf i).toNat)
      case atStart => exact ⟨0, by omega, rfl, R2.out⟩
      case round =>
        clear R2
        obtain ⟨k, hk, rfl, hr⟩ := hrel
        have R3 := Lib.hid hr
        clear hr
        by_cases hlt : k < n
        · obtain ⟨b, o, rfl, hra, hok, hx0, hx1⟩ := HA.out k hlt
          have HR : Hid (∀ W, Below w.heap.size w W → W.rangeAt b (o + k * 9) ((P k).cs ++ [.int .i64 (X k)])) := fun W hW j v hv => (hW.cell (World.block_lt_of_cell? w _ (hra j v hv))).trans (hra j v hv)
          clear hra
          go_upto_region 17 with fail
          refine wp_region_held_drew (S := fun W => W.rangeAt b (o + k * 9) ((P k).cs ++ [.int .i64 (X k)])) (by kernel_rfl) ?_ (fun _ => ?_)
          · exact HR.out _ (below_drewN R3.out.be 1)
          have HS0 : Hid (wr.drew.rangeAt b (o + k * 9) ((P k).cs ++ [.int .i64 (X k)])) := HR.out _ (below_drewN R3.out.be 1)
          have R30 : Hid (Ran w g q M P X k wr.drew) := ⟨R3.out.at_, below_drewN R3.out.be 1⟩
          generalize wr.drew = x0 at *
          refine wpAnyH_take (i := 0) (oi := ⟨some 65, _, _, _, _, _⟩) (v := ?_) rfl (by kernel_rfl) (by kernel_rfl) (by kernel_rfl) (fun _ _ _ h => h) (Or.inl ⟨by rfl, ?_⟩) HS0.out ?_
          rotate_left
          · (intro W hSW; clear hSW; go_simp)
            first | done | (with_reducible rfl)
          try simp only [Act.put, List.setIfInBounds_toArray, List.set_cons_zero, List.set_cons_succ]
          refine wpAnyH_take (i := 1) (oi := ⟨some 66, _, _, _, _, _⟩) (v := ?_) rfl (by kernel_rfl) (by kernel_rfl) (by kernel_rfl) (fun _ _ _ h => h) (Or.inl ⟨by rfl, ?_⟩) HS0.out ?_
          rotate_left
          · (intro W hSW; clear hSW; go_simp)
            first | done | (with_reducible rfl)
          try simp only [Act.put, List.setIfInBounds_toArray, List.set_cons_zero, List.set_cons_succ]
          refine wpAnyH_take (i := 2) (oi := ⟨some 67, _, _, _, _, _⟩) (v := ?_) rfl (by kernel_rfl) (by kernel_rfl) (by kernel_rfl) (fun _ _ _ h => h) (Or.inl ⟨by rfl, ?_⟩) HS0.out ?_
          rotate_left
          · (intro W hSW; clear hSW; go_simp)
            first | done | (with_reducible rfl)
          try simp only [Act.put, List.setIfInBounds_toArray, List.set_cons_zero, List.set_cons_succ]
          refine wpAnyH_take (i := 3) (oi := ⟨some 68, _, _, _, _, _⟩) (v := ?_) rfl (by kernel_rfl) (by kernel_rfl) (by kernel_rfl) (fun _ _ _ h => h) (Or.inl ⟨by rfl, ?_⟩) HS0.out ?_
          rotate_left
          · (intro W hSW; clear hSW; go_simp)
            first | done | (with_reducible rfl)
          try simp only [Act.put, List.setIfInBounds_toArray, List.set_cons_zero, List.set_cons_succ]
          refine wpAnyH_take (i := 4) (oi := ⟨some 69, _, _, _, _, _⟩) (v := ?_) rfl (by kernel_rfl) (by kernel_rfl) (by kernel_rfl) (fun _ _ _ h => h) (Or.inl ⟨by rfl, ?_⟩) HS0.out ?_
          rotate_left
          · (intro W hSW; clear hSW; go_simp)
            first | done | (with_reducible rfl)
          try simp only [Act.put, List.setIfInBounds_toArray, List.set_cons_zero, List.set_cons_succ]
          refine wpAnyH_take (i := 5) (oi := ⟨some 70, _, _, _, _, _⟩) (v := .agg (P k).cs.toArray) rfl (by kernel_rfl) (by kernel_rfl) (by kernel_rfl) (fun _ _ _ h => h) (yields_pre (by rfl) (.tmp 69) rfl b (o + k * 9) rfl (P k) (fun _ h => seen_pre h)) HS0.out ?_
          try simp only [Act.put, List.setIfInBounds_toArray, List.set_cons_zero, List.set_cons_succ]
          refine wpAnyH_take (i := 6) (oi := ⟨some 71, _, _, _, _, _⟩) (v := ?_) rfl (by kernel_rfl) (by kernel_rfl) (by kernel_rfl) (fun _ _ _ h => h) (Or.inl ⟨by rfl, ?_⟩) HS0.out ?_
          rotate_left
          · (intro W hSW; clear hSW; go_simp)
            first | done | (with_reducible rfl)
          try simp only [Act.put, List.setIfInBounds_toArray, List.set_cons_zero, List.set_cons_succ]
          refine wpAnyH_take (i := 7) (oi := ⟨some 72, _, _, _, _, _⟩) (v := ?_) rfl (by kernel_rfl) (by kernel_rfl) (by kernel_rfl) (fun _ _ _ h => h) (Or.inl ⟨by rfl, ?_⟩) HS0.out ?_
          rotate_left
          · (intro W hSW; clear hSW; go_simp)
            first | done | (with_reducible rfl)
          try simp only [Act.put, List.setIfInBounds_toArray, List.set_cons_zero, List.set_cons_succ]
          refine wpAnyH_take (i := 8) (oi := ⟨some 73, _, _, _, _, _⟩) (v := ?_) rfl (by kernel_rfl) (by kernel_rfl) (by kernel_rfl) (fun _ _ _ h => h) (Or.inl ⟨by rfl, ?_⟩) HS0.out ?_
          rotate_left
          · (intro W hSW; clear hSW; go_simp)
            first | done | (with_reducible rfl)
          try simp only [Act.put, List.setIfInBounds_toArray, List.set_cons_zero, List.set_cons_succ]
          refine wpAnyH_take (i := 9) (oi := ⟨some 74, _, _, _, _, _⟩) (v := ?_) rfl (by kernel_rfl) (by kernel_rfl) (by kernel_rfl) (fun _ _ _ h => h) (Or.inl ⟨by rfl, ?_⟩) HS0.out ?_
          rotate_left
          · (intro W hSW; clear hSW; go_simp)
            first | done | (with_reducible rfl)
          try simp only [Act.put, List.setIfInBounds_toArray, List.set_cons_zero, List.set_cons_succ]
          refine wpAnyH_take (i := 10) (oi := ⟨some 75, _, _, _, _, _⟩) (v := .int .i64 (X k)) rfl (by kernel_rfl) (by kernel_rfl) (by kernel_rfl) (fun _ _ _ h => h) (Or.inl ⟨by rfl, ?_⟩) HS0.out ?_
          · (intro W hSW; have hc := seen_num hSW; clear hSW; go_simp)
          try simp only [Act.put, List.setIfInBounds_toArray, List.set_cons_zero, List.set_cons_succ]
          refine wpAnyH_ready (rs := [11]) (by kernel_rfl) (by simp) ?_
          refine AllReadyH.cons (o := ⟨some 76, _, _, _, _, _⟩) rfl (fun K hK => ?_) AllReadyH.nil
          go_simp
          refine (add_ g q M (ran M P X k) (tot X k) (P k) (X k) x0 R30.out.at_ hok).mono ?_
          rintro e x1 ⟨rfl, hs, hf⟩
          have R4 : Hid (Ran w g q M P X (k + 1) x1) := R30.out.next hs hf hg hq
          have HS1 : Hid (x1.rangeAt b (o + k * 9) ((P k).cs ++ [.int .i64 (X k)])) := HR.out _ R4.out.be
          clear hs hf
          go_simp
          refine hK.out _ _ ?_ (fun _ => ?_)
          · exact HS1.out
          clear hK K
          try simp only [Act.put, List.setIfInBounds_toArray, List.set_cons_zero, List.set_cons_succ]
          refine wpAnyH_done (by kernel_rfl) ?_ _
          go_wp2_with fail
          go_roundw
          case rel => exact ⟨k + 1, by omega, by go_num, R4.out⟩
          case measure => simp [intOf]; omega
        · obtain rfl : n = k := by omega
          obtain ⟨hi1, hi2⟩ := inv_ran (P := P) (M := M) HX1.out (by omega) hM1
          have hb := sumX_bd HX1.out
          have HI := Lib.hid hi1
          have S4 := R3.out.at_
          rw [hi2] at S4
          have S5 := Lib.hid S4
          have W5 := Lib.hid R3.out.be
          clear hi1 hi2 S4 R3
          have HTJ : Hid (∀ r j, j ≤ n → 0 ≤ tru P X r j ∧ tru P X r j ≤ 524288000000) := fun r j hj => by
            have h1 := tru_nat (P := P) (p := r) (fun i hi => (HX1.out i (by omega)).1 : ∀ i, i < j → 0 ≤ X i)
            have h2 := tru_le (P := P) (p := r) (fun i hi => (HX1.out i (by omega)).1 : ∀ i, i < j → 0 ≤ X i)
            have h3 := sumX_bd (fun i hi => HX1.out i (by omega) : ∀ i, i < j → 0 ≤ X i ∧ X i ≤ 4294967296)
            omega
          have HLR := Lib.hid (fun r (hr : has (ran M P X n) r = false) => least_not HI.out HX1.out hn hr)
          have HLN := Lib.hid (fun r (hr : has (ran M P X n) r = false) (hm : (ran M P X n).length < M) => HI.out.room hm r hr)
          obtain ⟨T, hT⟩ : ∃ T, sumX X n = T := ⟨_, rfl⟩
          have HT := Lib.hid hT
          rw [hT] at hb S5
          have HERR := Lib.hid HI.out.err
          rw [hT] at HERR
          have HHI := Lib.hid HI.out.hi
          have HLO := Lib.hid HI.out.lo
          have HE0 := Lib.hid HI.out.e0
          have HC0 := Lib.hid HI.out.c0
          have hlenM := HI.out.len
          clear HI hT
          generalize ran M P X n = L at *
          have HOK := Lib.hid S5.out.oks
          obtain ⟨m, hm⟩ : ∃ m, L.length = m := ⟨_, rfl⟩
          have HM := Lib.hid hm
          have CS := Lib.hid (fun W (h : SAt W g q M L T) => slots_ g q M L T W h)
          unfold RowOut at CS
          have CP := Lib.hid (fun A c W (h : RowAt 0 A c L W) => prefixes_ 0 A c L W h (by omega))
          have HLM : Hid ((L.map (·.p)).length = m) := by show _ = _; rw [List.length_map]; exact hm
          rw [hm] at CS CP HLR HLN hlenM
          clear hm
          have hT0 : 0 ≤ T := hb.1
          have hT1 : T ≤ 524288000000 := by omega
          clear hb hk hlt
          go_upto_region 19 with fail
          go_cut [14] from 78 to 83 (fun v wx => ∃ A2 c2, v = .slice A2 (m + 1 : Nat) c2 ∧ PAt A2 ([p] ++ L.map (·.p)) wx ∧ SAt wx g q M L T ∧ Below w.heap.size w wx)
          case first =>
            refine wp_region_held_drew (S := fun W => Blk W w0.heap.size 25 p.cs ∧ SAt W g q M L T) (by kernel_rfl) ?_ (fun _ => ?_)
            · exact ⟨Blk.drew (K0.out.below W5.out), S5.out⟩
            have HS_x10 : Hid (Blk wr.drew w0.heap.size 25 p.cs ∧ SAt wr.drew g q M L T) := ⟨Blk.drew (K0.out.below W5.out), S5.out⟩
            have B_x10 : Hid (Below w.heap.size w wr.drew) := below_drewN W5.out 1
            clear S5 W5
            generalize wr.drew = x10 at *
            refine wpAnyH_take (i := 0) (oi := ⟨some 78, _, _, _, _, _⟩) (v := .agg p.cs.toArray) rfl (by kernel_rfl) (by kernel_rfl) (by kernel_rfl) (fun _ _ _ h => h) (yields_pre (by rfl) (.tmp 5) rfl w0.heap.size 0 rfl p (fun _ h => whole_at h.1)) HS_x10.out ?_
            try simp only [Act.put, List.setIfInBounds_toArray, List.set_cons_zero, List.set_cons_succ]
            refine wpAnyH_take (i := 2) (oi := ⟨some 80, _, _, _, _, _⟩) (v := ?_) rfl (by kernel_rfl) (by kernel_rfl) (by kernel_rfl) (fun _ _ _ h => h) (Or.inl ⟨by rfl, ?_⟩) HS_x10.out ?_
            rotate_left
            · (intro W hSW; clear hSW; go_simp)
              first | done | (with_reducible rfl)
            try simp only [Act.put, List.setIfInBounds_toArray, List.set_cons_zero, List.set_cons_succ]
            refine wpAnyH_ready (rs := [1, 3]) (by kernel_rfl) (by simp) ?_
            refine AllReadyH.cons (o := ⟨some 79, _, _, _, _, _⟩) rfl (fun K hK => ?_) (AllReadyH.cons (o := ⟨some 81, _, _, _, _, _⟩) rfl (fun K hK => ?_) (AllReadyH.nil))
            · skip
              refine step_onep (by rfl) (.tmp 78) (by rfl) p (by rfl) ?_
              refine hK.out _ _ ?_ (fun _ => ?_)
              · exact ⟨HS_x10.out.1.below ((Below.refl _ x10).alloc (Nat.le_refl _) _), HS_x10.out.2.below ((Below.refl _ x10).alloc (Nat.le_refl _) _)⟩
              clear hK K
              try simp only [Act.put, List.setIfInBounds_toArray, List.set_cons_zero, List.set_cons_succ]
              have hb := (Below.refl _ x10).alloc (Nat.le_refl _) (.cells p.cs.toArray 25)
              obtain ⟨O0, hO0⟩ : ∃ h, x10.heap.size = h := ⟨_, rfl⟩
              have O_new := Lib.hid (POwn.new x10 p 0 (Nat.zero_le _))
              rw [hO0] at O_new
              simp only [hO0]
              have NO : Hid (O0 ≠ w0.heap.size ∧ O0 ≠ g ∧ O0 ≠ q ∧ w.heap.size ≤ O0) := by have h1 := HS_x10.out.1.lt; have h2 := HS_x10.out.2.lt; have h3 := B_x10.out.size; show _ ∧ _ ∧ _ ∧ _; omega
              generalize x10.alloc (.cells p.cs.toArray 25) = x11 at *
              have HS_x11 : Hid (Blk x11 w0.heap.size 25 p.cs ∧ SAt x11 g q M L T) := ⟨HS_x10.out.1.below hb, HS_x10.out.2.below hb⟩
              have B_x11 : Hid (Below w.heap.size w x11) := B_x10.out.trans (hb.mono B_x10.out.size)
              have O_x11 := O_new
              clear hb O_new hO0
              refine wpAnyH_ready (rs := [3]) (by kernel_rfl) (by simp) ?_
              refine AllReadyH.cons (o := ⟨some 81, _, _, _, _, _⟩) rfl (fun K hK => ?_) (AllReadyH.nil)
              go_simp
              refine (CS.out _ HS_x11.out.2).mono ?_
              rintro e x12 ⟨A1, c1, rfl, hb, hr3⟩
              have Y_new : Hid (RowAt 0 A1 c1 L x12) := hr3.imp id (fun ⟨q3, e, _, h⟩ => ⟨q3, e, Nat.zero_le _, h⟩)
              have HS_x12 : Hid (Blk x12 w0.heap.size 25 p.cs ∧ SAt x12 g q M L T) := ⟨HS_x11.out.1.below hb, HS_x11.out.2.below hb⟩
              have B_x12 : Hid (Below w.heap.size w x12) := B_x11.out.trans (hb.mono B_x11.out.size)
              have O_x12 := Lib.hid (O_x11.out.below hb)
              have Y_x12 := Y_new
              clear hb Y_new hr3
              go_simp
              refine hK.out _ _ ?_ (fun _ => ?_)
              · exact HS_x12.out
              clear hK K
              try simp only [Act.put, List.setIfInBounds_toArray, List.set_cons_zero, List.set_cons_succ]
              refine wpAnyH_ready (rs := [4]) (by kernel_rfl) (by simp) ?_
              refine AllReadyH.cons (o := ⟨some 82, _, _, _, _, _⟩) rfl (fun K hK => ?_) (AllReadyH.nil)
              go_simp
              refine (CP.out A1 c1 _ Y_x12.out).mono ?_
              rintro e x13 ⟨v3, rfl, ho3, hb⟩
              obtain ⟨A3, c3, rfl, hv3, hn3, ha3⟩ := ho3.shape
              rw [HLM.out]
              have V_x13 : Hid (PAt A3 (L.map (·.p)) x13) := hv3
              have HN3 := Lib.hid hn3
              have HA3 := Lib.hid ha3
              have HS_x13 : Hid (Blk x13 w0.heap.size 25 p.cs ∧ SAt x13 g q M L T) := ⟨HS_x12.out.1.below hb, HS_x12.out.2.below hb⟩
              have B_x13 : Hid (Below w.heap.size w x13) := B_x12.out.trans (hb.mono B_x12.out.size)
              have O_x13 := Lib.hid (O_x12.out.below hb)
              clear hb hv3 hn3 ha3 ho3
              go_simp
              refine hK.out _ _ ?_ (fun _ => ?_)
              · exact HS_x13.out
              clear hK K
              try simp only [Act.put, List.setIfInBounds_toArray, List.set_cons_zero, List.set_cons_succ]
              refine wpAnyH_ready (rs := [5]) (by kernel_rfl) (by simp) ?_
              refine AllReadyH.cons (o := ⟨some 83, _, _, _, _, _⟩) rfl (fun K hK => ?_) (AllReadyH.nil)
              obtain ⟨v9, x14, hrun, ho9, hg9, _⟩ := run_append_ps x13 0 _ [p] (L.map (·.p)) O_x13.out A3 c3 V_x13.out HN3.out HA3.out (by rw [HLM.out]; simp; omega) (Nat.zero_le _)
              rw [HLM.out] at hrun
              obtain ⟨A4, c4, rfl, hv9, _⟩ := ho9.shape
              have hb9 := all_grown hg9 HS_x13.out.1 HS_x13.out.2 B_x13.out NO.out
              have V9 := Lib.hid hv9
              have H9 := Lib.hid hb9
              rw [show ([p] ++ L.map (·.p)).length = m + 1 by rw [List.length_append, HLM.out]; simp; omega] at hrun
              clear hv9 hb9 ho9 hg9
              refine step_app (by rfl) 50 (.tmp 79) (.tmp 82) (by rfl) _ _ _ (by rfl) (by rfl) hrun ?_
              refine hK.out _ _ ?_ (fun _ => ?_)
              · exact ⟨H9.out.1, H9.out.2.1⟩
              clear hK K hrun
              try simp only [Act.put, List.setIfInBounds_toArray, List.set_cons_zero, List.set_cons_succ]
              have HQ9 : Hid (Blk x14 w0.heap.size 25 p.cs ∧ SAt x14 g q M L T) := ⟨H9.out.1, H9.out.2.1⟩
              refine wpAnyH_take (i := 6) (oi := ⟨some 14, _, _, _, _, _⟩) (v := ?_) rfl (by kernel_rfl) (by kernel_rfl) (by kernel_rfl) (fun _ _ _ h => h) (Or.inl ⟨by rfl, ?_⟩) HQ9.out ?_
              rotate_left
              · (intro W hSW; clear hSW; go_simp)
                first | done | (with_reducible rfl)
              try simp only [Act.put, List.setIfInBounds_toArray, List.set_cons_zero, List.set_cons_succ]
              refine wpAnyH_done (by kernel_rfl) ?_ _
              go_wp2_with fail
              go_meet
              case rel => exact ⟨A4, c4, rfl, V9.out, H9.out.2.1, H9.out.2.2⟩
            · skip
              go_simp
              refine (CS.out _ HS_x10.out.2).mono ?_
              rintro e x15 ⟨A1, c1, rfl, hb, hr3⟩
              have Y_new : Hid (RowAt 0 A1 c1 L x15) := hr3.imp id (fun ⟨q3, e, _, h⟩ => ⟨q3, e, Nat.zero_le _, h⟩)
              have HS_x15 : Hid (Blk x15 w0.heap.size 25 p.cs ∧ SAt x15 g q M L T) := ⟨HS_x10.out.1.below hb, HS_x10.out.2.below hb⟩
              have B_x15 : Hid (Below w.heap.size w x15) := B_x10.out.trans (hb.mono B_x10.out.size)
              have Y_x15 := Y_new
              clear hb Y_new hr3
              go_simp
              refine hK.out _ _ ?_ (fun _ => ?_)
              · exact HS_x15.out
              clear hK K
              try simp only [Act.put, List.setIfInBounds_toArray, List.set_cons_zero, List.set_cons_succ]
              refine wpAnyH_ready (rs := [1, 4]) (by kernel_rfl) (by simp) ?_
              refine AllReadyH.cons (o := ⟨some 79, _, _, _, _, _⟩) rfl (fun K hK => ?_) (AllReadyH.cons (o := ⟨some 82, _, _, _, _, _⟩) rfl (fun K hK => ?_) (AllReadyH.nil))
              · skip
                refine step_onep (by rfl) (.tmp 78) (by rfl) p (by rfl) ?_
                refine hK.out _ _ ?_ (fun _ => ?_)
                · exact ⟨HS_x15.out.1.below ((Below.refl _ x15).alloc (Nat.le_refl _) _), HS_x15.out.2.below ((Below.refl _ x15).alloc (Nat.le_refl _) _)⟩
                clear hK K
                try simp only [Act.put, List.setIfInBounds_toArray, List.set_cons_zero, List.set_cons_succ]
                have hb := (Below.refl _ x15).alloc (Nat.le_refl _) (.cells p.cs.toArray 25)
                obtain ⟨O0, hO0⟩ : ∃ h, x15.heap.size = h := ⟨_, rfl⟩
                have O_new := Lib.hid (POwn.new x15 p 0 (Nat.zero_le _))
                rw [hO0] at O_new
                simp only [hO0]
                have NO : Hid (O0 ≠ w0.heap.size ∧ O0 ≠ g ∧ O0 ≠ q ∧ w.heap.size ≤ O0) := by have h1 := HS_x15.out.1.lt; have h2 := HS_x15.out.2.lt; have h3 := B_x15.out.size; show _ ∧ _ ∧ _ ∧ _; omega
                generalize x15.alloc (.cells p.cs.toArray 25) = x16 at *
                have HS_x16 : Hid (Blk x16 w0.heap.size 25 p.cs ∧ SAt x16 g q M L T) := ⟨HS_x15.out.1.below hb, HS_x15.out.2.below hb⟩
                have B_x16 : Hid (Below w.heap.size w x16) := B_x15.out.trans (hb.mono B_x15.out.size)
                have Y_x16 := Lib.hid (Y_x15.out.below hb)
                have O_x16 := O_new
                clear hb O_new hO0
                refine wpAnyH_ready (rs := [4]) (by kernel_rfl) (by simp) ?_
                refine AllReadyH.cons (o := ⟨some 82, _, _, _, _, _⟩) rfl (fun K hK => ?_) (AllReadyH.nil)
                go_simp
                refine (CP.out A1 c1 _ Y_x16.out).mono ?_
                rintro e x17 ⟨v3, rfl, ho3, hb⟩
                obtain ⟨A3, c3, rfl, hv3, hn3, ha3⟩ := ho3.shape
                rw [HLM.out]
                have V_x17 : Hid (PAt A3 (L.map (·.p)) x17) := hv3
                have HN3 := Lib.hid hn3
                have HA3 := Lib.hid ha3
                have HS_x17 : Hid (Blk x17 w0.heap.size 25 p.cs ∧ SAt x17 g q M L T) := ⟨HS_x16.out.1.below hb, HS_x16.out.2.below hb⟩
                have B_x17 : Hid (Below w.heap.size w x17) := B_x16.out.trans (hb.mono B_x16.out.size)
                have O_x17 := Lib.hid (O_x16.out.below hb)
                clear hb hv3 hn3 ha3 ho3
                go_simp
                refine hK.out _ _ ?_ (fun _ => ?_)
                · exact HS_x17.out
                clear hK K
                try simp only [Act.put, List.setIfInBounds_toArray, List.set_cons_zero, List.set_cons_succ]
                refine wpAnyH_ready (rs := [5]) (by kernel_rfl) (by simp) ?_
                refine AllReadyH.cons (o := ⟨some 83, _, _, _, _, _⟩) rfl (fun K hK => ?_) (AllReadyH.nil)
                obtain ⟨v9, x18, hrun, ho9, hg9, _⟩ := run_append_ps x17 0 _ [p] (L.map (·.p)) O_x17.out A3 c3 V_x17.out HN3.out HA3.out (by rw [HLM.out]; simp; omega) (Nat.zero_le _)
                rw [HLM.out] at hrun
                obtain ⟨A4, c4, rfl, hv9, _⟩ := ho9.shape
                have hb9 := all_grown hg9 HS_x17.out.1 HS_x17.out.2 B_x17.out NO.out
                have V9 := Lib.hid hv9
                have H9 := Lib.hid hb9
                rw [show ([p] ++ L.map (·.p)).length = m + 1 by rw [List.length_append, HLM.out]; simp; omega] at hrun
                clear hv9 hb9 ho9 hg9
                refine step_app (by rfl) 50 (.tmp 79) (.tmp 82) (by rfl) _ _ _ (by rfl) (by rfl) hrun ?_
                refine hK.out _ _ ?_ (fun _ => ?_)
                · exact ⟨H9.out.1, H9.out.2.1⟩
                clear hK K hrun
                try simp only [Act.put, List.setIfInBounds_toArray, List.set_cons_zero, List.set_cons_succ]
                have HQ9 : Hid (Blk x18 w0.heap.size 25 p.cs ∧ SAt x18 g q M L T) := ⟨H9.out.1, H9.out.2.1⟩
                refine wpAnyH_take (i := 6) (oi := ⟨some 14, _, _, _, _, _⟩) (v := ?_) rfl (by kernel_rfl) (by kernel_rfl) (by kernel_rfl) (fun _ _ _ h => h) (Or.inl ⟨by rfl, ?_⟩) HQ9.out ?_
                rotate_left
                · (intro W hSW; clear hSW; go_simp)
                  first | done | (with_reducible rfl)
                try simp only [Act.put, List.setIfInBounds_toArray, List.set_cons_zero, List.set_cons_succ]
                refine wpAnyH_done (by kernel_rfl) ?_ _
                go_wp2_with fail
                go_meet
                case rel => exact ⟨A4, c4, rfl, V9.out, H9.out.2.1, H9.out.2.2⟩
              · skip
                go_simp
                refine (CP.out A1 c1 _ Y_x15.out).mono ?_
                rintro e x19 ⟨v3, rfl, ho3, hb⟩
                obtain ⟨A3, c3, rfl, hv3, hn3, ha3⟩ := ho3.shape
                rw [HLM.out]
                have V_x19 : Hid (PAt A3 (L.map (·.p)) x19) := hv3
                have HN3 := Lib.hid hn3
                have HA3 := Lib.hid ha3
                have HS_x19 : Hid (Blk x19 w0.heap.size 25 p.cs ∧ SAt x19 g q M L T) := ⟨HS_x15.out.1.below hb, HS_x15.out.2.below hb⟩
                have B_x19 : Hid (Below w.heap.size w x19) := B_x15.out.trans (hb.mono B_x15.out.size)
                clear hb hv3 hn3 ha3 ho3
                go_simp
                refine hK.out _ _ ?_ (fun _ => ?_)
                · exact HS_x19.out
                clear hK K
                try simp only [Act.put, List.setIfInBounds_toArray, List.set_cons_zero, List.set_cons_succ]
                refine wpAnyH_ready (rs := [1]) (by kernel_rfl) (by simp) ?_
                refine AllReadyH.cons (o := ⟨some 79, _, _, _, _, _⟩) rfl (fun K hK => ?_) (AllReadyH.nil)
                refine step_onep (by rfl) (.tmp 78) (by rfl) p (by rfl) ?_
                refine hK.out _ _ ?_ (fun _ => ?_)
                · exact ⟨HS_x19.out.1.below ((Below.refl _ x19).alloc (Nat.le_refl _) _), HS_x19.out.2.below ((Below.refl _ x19).alloc (Nat.le_refl _) _)⟩
                clear hK K
                try simp only [Act.put, List.setIfInBounds_toArray, List.set_cons_zero, List.set_cons_succ]
                have hb := (Below.refl _ x19).alloc (Nat.le_refl _) (.cells p.cs.toArray 25)
                obtain ⟨O0, hO0⟩ : ∃ h, x19.heap.size = h := ⟨_, rfl⟩
                have O_new := Lib.hid (POwn.new x19 p 0 (Nat.zero_le _))
                rw [hO0] at O_new
                simp only [hO0]
                have NO : Hid (O0 ≠ w0.heap.size ∧ O0 ≠ g ∧ O0 ≠ q ∧ w.heap.size ≤ O0) := by have h1 := HS_x19.out.1.lt; have h2 := HS_x19.out.2.lt; have h3 := B_x19.out.size; show _ ∧ _ ∧ _ ∧ _; omega
                generalize x19.alloc (.cells p.cs.toArray 25) = x20 at *
                have HS_x20 : Hid (Blk x20 w0.heap.size 25 p.cs ∧ SAt x20 g q M L T) := ⟨HS_x19.out.1.below hb, HS_x19.out.2.below hb⟩
                have B_x20 : Hid (Below w.heap.size w x20) := B_x19.out.trans (hb.mono B_x19.out.size)
                have V_x20 := Lib.hid (V_x19.out.below hb)
                have O_x20 := O_new
                clear hb O_new hO0
                refine wpAnyH_ready (rs := [5]) (by kernel_rfl) (by simp) ?_
                refine AllReadyH.cons (o := ⟨some 83, _, _, _, _, _⟩) rfl (fun K hK => ?_) (AllReadyH.nil)
                obtain ⟨v9, x21, hrun, ho9, hg9, _⟩ := run_append_ps x20 0 _ [p] (L.map (·.p)) O_x20.out A3 c3 V_x20.out HN3.out HA3.out (by rw [HLM.out]; simp; omega) (Nat.zero_le _)
                rw [HLM.out] at hrun
                obtain ⟨A4, c4, rfl, hv9, _⟩ := ho9.shape
                have hb9 := all_grown hg9 HS_x20.out.1 HS_x20.out.2 B_x20.out NO.out
                have V9 := Lib.hid hv9
                have H9 := Lib.hid hb9
                rw [show ([p] ++ L.map (·.p)).length = m + 1 by rw [List.length_append, HLM.out]; simp; omega] at hrun
                clear hv9 hb9 ho9 hg9
                refine step_app (by rfl) 50 (.tmp 79) (.tmp 82) (by rfl) _ _ _ (by rfl) (by rfl) hrun ?_
                refine hK.out _ _ ?_ (fun _ => ?_)
                · exact ⟨H9.out.1, H9.out.2.1⟩
                clear hK K hrun
                try simp only [Act.put, List.setIfInBounds_toArray, List.set_cons_zero, List.set_cons_succ]
                have HQ9 : Hid (Blk x21 w0.heap.size 25 p.cs ∧ SAt x21 g q M L T) := ⟨H9.out.1, H9.out.2.1⟩
                refine wpAnyH_take (i := 6) (oi := ⟨some 14, _, _, _, _, _⟩) (v := ?_) rfl (by kernel_rfl) (by kernel_rfl) (by kernel_rfl) (fun _ _ _ h => h) (Or.inl ⟨by rfl, ?_⟩) HQ9.out ?_
                rotate_left
                · (intro W hSW; clear hSW; go_simp)
                  first | done | (with_reducible rfl)
                try simp only [Act.put, List.setIfInBounds_toArray, List.set_cons_zero, List.set_cons_succ]
                refine wpAnyH_done (by kernel_rfl) ?_ _
                go_wp2_with fail
                go_meet
                case rel => exact ⟨A4, c4, rfl, V9.out, H9.out.2.1, H9.out.2.2⟩
          case rest =>
            clear S5 W5 K0 B0 CP HLM HPP
            obtain ⟨A2, c2, rfl, hv, hs, hb2⟩ := hcut
            have V6 := Lib.hid hv
            have S6 := Lib.hid hs
            have W6 := Lib.hid hb2
            clear hv hs hb2
            go_upto_if 88 with (go_at_call 11; (with_reducible refine (CS.out _ S6.out).mono ?_); rintro e w7 ⟨A3, c3, rfl, hb3, _⟩; have V7 := Lib.hid (V6.out.below hb3); have S7 := Lib.hid (S6.out.below hb3); have W7 : Hid (Below w.heap.size w w7) := W6.out.trans (hb3.mono W6.out.size); clear hb3 V6 S6 W6)
            go_cut [15, 17, 88] from 89 to 100 (fun l _ _ wx => ∃ Z : Int, l = .int .i64 Z ∧ Hid (∀ r, has L r = false → tru P X r n ≤ Z) ∧ PAt A2 ([p] ++ L.map (·.p)) wx ∧ SAt wx g q M L T ∧ Below w.heap.size w wx)
            case first =>
              by_cases hjm : m = M
              · subst hjm
                go_upto_region 24 with (go_at_call 11; (with_reducible refine (CS.out _ S7.out).mono ?_); rintro e w8 ⟨A4, c4, rfl, hb3, hr4⟩; have V8 := Lib.hid (V7.out.below hb3); have S8 := Lib.hid (S7.out.below hb3); have W8 : Hid (Below w.heap.size w w8) := W7.out.trans (hb3.mono W7.out.size); have Y8 : Hid (RowAt 0 A4 c4 L w8) := hr4.imp id (fun ⟨q3, e, _, h⟩ => ⟨q3, e, Nat.zero_le _, h⟩); clear hb3 hr4 V7 S7 W7)
                go_loopw [15, 17, 92] (fun l _ i w' => ∃ j : Nat, j ≤ m ∧ i = .int .i64 j ∧ l = .int .i64 (least L 1152921504606846976 j) ∧ PAt A2 ([p] ++ L.map (·.p)) w' ∧ SAt w' g q m L T ∧ Below w.heap.size w w' ∧ RowAt 0 A4 c4 L w') (fun _ _ i _ => m - (intOf i).toNat)
                case atStart => exact ⟨0, by omega, rfl, rfl, V8.out, S8.out, W8.out, Y8.out⟩
                case round =>
                  clear V8 S8 W8 Y8
                  obtain ⟨j, hj, rfl, rfl, h1, h2, h3, h4⟩ := hrel
                  have V9 := Lib.hid h1
                  have S9 := Lib.hid h2
                  have W9 := Lib.hid h3
                  have Y9 := Lib.hid h4
                  clear h1 h2 h3 h4
                  by_cases hjl : j < m
                  · have hjL : j < L.length := by rw [HM.out]; exact hjl
                    obtain ⟨q1, rfl, _, hy⟩ := Y9.out.at_ hjL
                    have HY := Lib.hid (hy.slot (at_some hjL))
                    have E2 : Hid (least L 1152921504606846976 (j + 1) = min (least L 1152921504606846976 j) (at_ L j).c) := rfl
                    clear hy hjL
                    generalize least L 1152921504606846976 j = v at *
                    generalize at_ L j = s at *
                    go_wp2_with (first | (refine wpList_slo (by rfl) (.tmp 94) rfl _ _ rfl s HY.out ?_) | (refine wpList_new rfl (.tmp 17) (.tmp 95) rfl wr s rfl rfl ?_; intro w10 K10 hb8; have W10 : Hid (Below w.heap.size w w10) := W9.out.trans (hb8.out.mono W9.out.size); have Y10 := Lib.hid (Y9.out.below hb8.out); have S10 := Lib.hid (S9.out.below hb8.out); have V10 := Lib.hid (V9.out.below hb8.out); clear hb8; have c8 : w10.cell? ⟨wr.heap.size, 8, none⟩ = some (.int .i64 s.c) := K10.out.cell 8))
                    go_roundw
                    case rel => exact ⟨j + 1, by omega, by go_num, by rw [E2.out], V10.out, S10.out, W10.out, Y10.out⟩
                    case measure => simp [intOf]; omega
                  · obtain rfl : m = j := by omega
                    go_wp2
                    go_meet
                    case rel => exact ⟨_, rfl, Lib.hid (fun r hr => HLR.out r hr), V9.out, S9.out, W9.out⟩
              · have he : ((m : Int) == (M : Int)) = false := by simp; omega
                go_wp2_with fail
                go_meet
                case rel => exact ⟨0, rfl, Lib.hid (fun r hr => by rw [HLN.out r hr (by omega)]; exact Int.le_refl 0), V7.out, S7.out, W7.out⟩
            case rest =>
              clear S7 V7 W7 CS HLR HLN
              obtain ⟨Z, rfl, HZ, hv, hs, hb2⟩ := hcut
              have V8 := Lib.hid hv
              have S8 := Lib.hid hs
              have W8 := Lib.hid hb2
              clear hv hs hb2
              have HPL : Hid (([p] ++ L.map (·.p)).length = m + 1) := by show _ = _; rw [List.length_append, List.length_map, HM.out]; simp; omega
              have HPO : Hid (∀ r ∈ [p] ++ L.map (·.p), r.Ok) := fun r hr => by
                rcases List.mem_append.1 hr with hr | hr
                · simp at hr
                  subst hr
                  exact HPQ.out
                · obtain ⟨s, hs, rfl⟩ := List.mem_map.1 hr
                  exact (HOK.out s hs).p
              generalize [p] ++ L.map (·.p) = ps at *
              go_wp2_with fail
              go_loopw [18, 19, 20, 21, 22, 103] (fun _ _ _ _ _ i w' => ∃ a : Nat, a ≤ m + 1 ∧ i = .int .i64 a ∧ PAt A2 ps w' ∧ SAt w' g q M L T ∧ Below w.heap.size w w') (fun _ _ _ _ _ i _ => m + 1 - (intOf i).toNat)
              case atStart => exact ⟨0, by omega, rfl, V8.out, S8.out, W8.out⟩
              case round =>
                clear V8 S8 W8
                obtain ⟨a, hal, rfl, h1, h2, h3⟩ := hrel
                have V9 := Lib.hid h1
                have S9 := Lib.hid h2
                have W9 := Lib.hid h3
                clear h1 h2 h3
                by_cases hlt : a < m + 1
                · obtain ⟨r, hr⟩ : ∃ r, ps[a]? = some r := ⟨_, List.getElem?_eq_getElem (by rw [HPL.out]; exact hlt)⟩
                  have HR1 := Lib.hid hr
                  have OKR := Lib.hid (HPO.out r (List.mem_of_getElem? hr))
                  obtain ⟨b2, rfl, _⟩ := V9.out a r hr
                  have HPR : Hid (∀ W, PAt (some ⟨b2, 0, none⟩) ps W → W.rangeAt b2 (a * 8) r.cs) := fun W hW => by obtain ⟨b3, e, h⟩ := hW a r HR1.out; cases e; exact h
                  clear hr
                  obtain ⟨y0, hy0⟩ : ∃ z, z = wr := ⟨_, rfl⟩
                  subst hy0
                  go_wp2_with fail
                  go_loopw [19, 20, 108] (fun t _ i w' => ∃ j : Nat, j ≤ n ∧ i = .int .i64 j ∧ t = .int .i64 (tru P X r j) ∧ PAt (some ⟨b2, 0, none⟩) ps w' ∧ SAt w' g q M L T ∧ Below w.heap.size w w') (fun _ _ i _ => n - (intOf i).toNat)
                  case atStart => exact ⟨0, by omega, rfl, rfl, V9.out, S9.out, W9.out⟩
                  case round =>
                    clear V9 S9 W9
                    obtain ⟨i, hi, rfl, rfl, h1, h2, h3⟩ := hrel
                    have V10 := Lib.hid h1
                    have S10 := Lib.hid h2
                    have W10 := Lib.hid h3
                    clear h1 h2 h3
                    by_cases hil : i < n
                    · obtain ⟨b, o, rfl, hra, hok, hx0, hx1⟩ := HA.out i hil
                      have HR : Hid (∀ W, Below w.heap.size w W → W.rangeAt b (o + i * 9) ((P i).cs ++ [.int .i64 (X i)])) := fun W hW j v hv => (hW.cell (World.block_lt_of_cell? w _ (hra j v hv))).trans (hra j v hv)
                      have HQ := Lib.hid (fun W => eq_pre hok OKR.out W)
                      have W11 : Hid (Below w.heap.size w wr.drew) := below_drewN W10.out 1
                      have S11 : Hid (SAt wr.drew g q M L T) := S10.out
                      have V11 : Hid (PAt (some ⟨b2, 0, none⟩) ps wr.drew) := V10.out
                      have R8 := Lib.hid (HR.out _ W11.out)
                      have K8 := Lib.hid (HPR.out _ V11.out)
                      have t1 := HTJ.out r i (by omega)
                      have t2 := HTJ.out r (i + 1) (by omega)
                      clear hra HR
                      rcases hp : decide (P i = r) with _ | _
                      · have HTT : Hid (tru P X r (i + 1) = tru P X r i) := tru_other (of_decide_eq_false hp)
                        rw [hp] at HQ
                        go_upto_region 35 with fail
                        clear W10 S10 V10
                        refine wp_region_held_drew (S := fun W => W.rangeAt b (o + i * 9) ((P i).cs ++ [.int .i64 (X i)]) ∧ W.rangeAt b2 (a * 8) r.cs) (by kernel_rfl) ?_ (fun _ => ?_)
                        · exact ⟨R8.out, K8.out⟩
                        have HS0 : Hid (wr.drew.rangeAt b (o + i * 9) ((P i).cs ++ [.int .i64 (X i)]) ∧ wr.drew.rangeAt b2 (a * 8) r.cs) := ⟨R8.out, K8.out⟩
                        refine wpAnyH_take (i := 0) (oi := ⟨some 111, _, _, _, _, _⟩) (v := ?_) rfl (by kernel_rfl) (by kernel_rfl) (by kernel_rfl) (fun _ _ _ h => h) (Or.inl ⟨by rfl, ?_⟩) HS0.out ?_
                        rotate_left
                        · (intro W hSW; clear hSW; go_simp)
                          first | done | (with_reducible rfl)
                        try simp only [Act.put, List.setIfInBounds_toArray, List.set_cons_zero, List.set_cons_succ]
                        refine wpAnyH_take (i := 1) (oi := ⟨some 112, _, _, _, _, _⟩) (v := ?_) rfl (by kernel_rfl) (by kernel_rfl) (by kernel_rfl) (fun _ _ _ h => h) (Or.inl ⟨by rfl, ?_⟩) HS0.out ?_
                        rotate_left
                        · (intro W hSW; clear hSW; go_simp)
                          first | done | (with_reducible rfl)
                        try simp only [Act.put, List.setIfInBounds_toArray, List.set_cons_zero, List.set_cons_succ]
                        refine wpAnyH_take (i := 2) (oi := ⟨some 113, _, _, _, _, _⟩) (v := ?_) rfl (by kernel_rfl) (by kernel_rfl) (by kernel_rfl) (fun _ _ _ h => h) (Or.inl ⟨by rfl, ?_⟩) HS0.out ?_
                        rotate_left
                        · (intro W hSW; clear hSW; go_simp)
                          first | done | (with_reducible rfl)
                        try simp only [Act.put, List.setIfInBounds_toArray, List.set_cons_zero, List.set_cons_succ]
                        refine wpAnyH_take (i := 3) (oi := ⟨some 114, _, _, _, _, _⟩) (v := ?_) rfl (by kernel_rfl) (by kernel_rfl) (by kernel_rfl) (fun _ _ _ h => h) (Or.inl ⟨by rfl, ?_⟩) HS0.out ?_
                        rotate_left
                        · (intro W hSW; clear hSW; go_simp)
                          first | done | (with_reducible rfl)
                        try simp only [Act.put, List.setIfInBounds_toArray, List.set_cons_zero, List.set_cons_succ]
                        refine wpAnyH_take (i := 4) (oi := ⟨some 115, _, _, _, _, _⟩) (v := .agg (P i).cs.toArray) rfl (by kernel_rfl) (by kernel_rfl) (by kernel_rfl) (fun _ _ _ h => h) (yields_pre (by rfl) (.tmp 114) rfl b (o + i * 9) rfl (P i) (fun _ h => seen_pre h.1)) HS0.out ?_
                        try simp only [Act.put, List.setIfInBounds_toArray, List.set_cons_zero, List.set_cons_succ]
                        refine wpAnyH_take (i := 5) (oi := ⟨some 116, _, _, _, _, _⟩) (v := ?_) rfl (by kernel_rfl) (by kernel_rfl) (by kernel_rfl) (fun _ _ _ h => h) (Or.inl ⟨by rfl, ?_⟩) HS0.out ?_
                        rotate_left
                        · (intro W hSW; clear hSW; go_simp)
                          first | done | (with_reducible rfl)
                        try simp only [Act.put, List.setIfInBounds_toArray, List.set_cons_zero, List.set_cons_succ]
                        refine wpAnyH_take (i := 6) (oi := ⟨some 117, _, _, _, _, _⟩) (v := ?_) rfl (by kernel_rfl) (by kernel_rfl) (by kernel_rfl) (fun _ _ _ h => h) (Or.inl ⟨by rfl, ?_⟩) HS0.out ?_
                        rotate_left
                        · (intro W hSW; clear hSW; go_simp)
                          first | done | (with_reducible rfl)
                        try simp only [Act.put, List.setIfInBounds_toArray, List.set_cons_zero, List.set_cons_succ]
                        refine wpAnyH_take (i := 7) (oi := ⟨some 118, _, _, _, _, _⟩) (v := ?_) rfl (by kernel_rfl) (by kernel_rfl) (by kernel_rfl) (fun _ _ _ h => h) (Or.inl ⟨by rfl, ?_⟩) HS0.out ?_
                        rotate_left
                        · (intro W hSW; clear hSW; go_simp)
                          first | done | (with_reducible rfl)
                        try simp only [Act.put, List.setIfInBounds_toArray, List.set_cons_zero, List.set_cons_succ]
                        refine wpAnyH_take (i := 8) (oi := ⟨some 119, _, _, _, _, _⟩) (v := .agg r.cs.toArray) rfl (by kernel_rfl) (by kernel_rfl) (by kernel_rfl) (fun _ _ _ h => h) (yields_pre (by rfl) (.tmp 118) rfl b2 (a * 8) rfl r (fun _ h => h.2)) HS0.out ?_
                        try simp only [Act.put, List.setIfInBounds_toArray, List.set_cons_zero, List.set_cons_succ]
                        refine wpAnyH_take (i := 9) (oi := ⟨some 120, _, _, _, _, _⟩) (v := .bool false) rfl (by kernel_rfl) (by kernel_rfl) (by kernel_rfl) (fun _ _ _ h => h) (yields_eql (by rfl) 25 (by kernel_rfl) (.tmp 115) (.tmp 119) 25 rfl (P i).cs.toArray r.cs.toArray (by rfl) (by rfl) false HQ.out) HS0.out ?_
                        try simp only [Act.put, List.setIfInBounds_toArray, List.set_cons_zero, List.set_cons_succ]
                        refine wpAnyH_done (by kernel_rfl) ?_ _
                        go_wp2_with fail
                        go_roundw
                        case rel => exact ⟨i + 1, by omega, by go_num, by rw [HTT.out], V11.out, S11.out, W11.out⟩
                        case measure => simp [intOf]; omega
                      · have HTT : Hid (tru P X r (i + 1) = tru P X r i + X i) := tru_same (of_decide_eq_true hp)
                        rw [hp] at HQ
                        rw [HTT.out] at t2
                        go_upto_region 35 with fail
                        clear W10 S10 V10
                        refine wp_region_held_drew (S := fun W => W.rangeAt b (o + i * 9) ((P i).cs ++ [.int .i64 (X i)]) ∧ W.rangeAt b2 (a * 8) r.cs) (by kernel_rfl) ?_ (fun _ => ?_)
                        · exact ⟨R8.out, K8.out⟩
                        have HS0 : Hid (wr.drew.rangeAt b (o + i * 9) ((P i).cs ++ [.int .i64 (X i)]) ∧ wr.drew.rangeAt b2 (a * 8) r.cs) := ⟨R8.out, K8.out⟩
                        refine wpAnyH_take (i := 0) (oi := ⟨some 111, _, _, _, _, _⟩) (v := ?_) rfl (by kernel_rfl) (by kernel_rfl) (by kernel_rfl) (fun _ _ _ h => h) (Or.inl ⟨by rfl, ?_⟩) HS0.out ?_
                        rotate_left
                        · (intro W hSW; clear hSW; go_simp)
                          first | done | (with_reducible rfl)
                        try simp only [Act.put, List.setIfInBounds_toArray, List.set_cons_zero, List.set_cons_succ]
                        refine wpAnyH_take (i := 1) (oi := ⟨some 112, _, _, _, _, _⟩) (v := ?_) rfl (by kernel_rfl) (by kernel_rfl) (by kernel_rfl) (fun _ _ _ h => h) (Or.inl ⟨by rfl, ?_⟩) HS0.out ?_
                        rotate_left
                        · (intro W hSW; clear hSW; go_simp)
                          first | done | (with_reducible rfl)
                        try simp only [Act.put, List.setIfInBounds_toArray, List.set_cons_zero, List.set_cons_succ]
                        refine wpAnyH_take (i := 2) (oi := ⟨some 113, _, _, _, _, _⟩) (v := ?_) rfl (by kernel_rfl) (by kernel_rfl) (by kernel_rfl) (fun _ _ _ h => h) (Or.inl ⟨by rfl, ?_⟩) HS0.out ?_
                        rotate_left
                        · (intro W hSW; clear hSW; go_simp)
                          first | done | (with_reducible rfl)
                        try simp only [Act.put, List.setIfInBounds_toArray, List.set_cons_zero, List.set_cons_succ]
                        refine wpAnyH_take (i := 3) (oi := ⟨some 114, _, _, _, _, _⟩) (v := ?_) rfl (by kernel_rfl) (by kernel_rfl) (by kernel_rfl) (fun _ _ _ h => h) (Or.inl ⟨by rfl, ?_⟩) HS0.out ?_
                        rotate_left
                        · (intro W hSW; clear hSW; go_simp)
                          first | done | (with_reducible rfl)
                        try simp only [Act.put, List.setIfInBounds_toArray, List.set_cons_zero, List.set_cons_succ]
                        refine wpAnyH_take (i := 4) (oi := ⟨some 115, _, _, _, _, _⟩) (v := .agg (P i).cs.toArray) rfl (by kernel_rfl) (by kernel_rfl) (by kernel_rfl) (fun _ _ _ h => h) (yields_pre (by rfl) (.tmp 114) rfl b (o + i * 9) rfl (P i) (fun _ h => seen_pre h.1)) HS0.out ?_
                        try simp only [Act.put, List.setIfInBounds_toArray, List.set_cons_zero, List.set_cons_succ]
                        refine wpAnyH_take (i := 5) (oi := ⟨some 116, _, _, _, _, _⟩) (v := ?_) rfl (by kernel_rfl) (by kernel_rfl) (by kernel_rfl) (fun _ _ _ h => h) (Or.inl ⟨by rfl, ?_⟩) HS0.out ?_
                        rotate_left
                        · (intro W hSW; clear hSW; go_simp)
                          first | done | (with_reducible rfl)
                        try simp only [Act.put, List.setIfInBounds_toArray, List.set_cons_zero, List.set_cons_succ]
                        refine wpAnyH_take (i := 6) (oi := ⟨some 117, _, _, _, _, _⟩) (v := ?_) rfl (by kernel_rfl) (by kernel_rfl) (by kernel_rfl) (fun _ _ _ h => h) (Or.inl ⟨by rfl, ?_⟩) HS0.out ?_
                        rotate_left
                        · (intro W hSW; clear hSW; go_simp)
                          first | done | (with_reducible rfl)
                        try simp only [Act.put, List.setIfInBounds_toArray, List.set_cons_zero, List.set_cons_succ]
                        refine wpAnyH_take (i := 7) (oi := ⟨some 118, _, _, _, _, _⟩) (v := ?_) rfl (by kernel_rfl) (by kernel_rfl) (by kernel_rfl) (fun _ _ _ h => h) (Or.inl ⟨by rfl, ?_⟩) HS0.out ?_
                        rotate_left
                        · (intro W hSW; clear hSW; go_simp)
                          first | done | (with_reducible rfl)
                        try simp only [Act.put, List.setIfInBounds_toArray, List.set_cons_zero, List.set_cons_succ]
                        refine wpAnyH_take (i := 8) (oi := ⟨some 119, _, _, _, _, _⟩) (v := .agg r.cs.toArray) rfl (by kernel_rfl) (by kernel_rfl) (by kernel_rfl) (fun _ _ _ h => h) (yields_pre (by rfl) (.tmp 118) rfl b2 (a * 8) rfl r (fun _ h => h.2)) HS0.out ?_
                        try simp only [Act.put, List.setIfInBounds_toArray, List.set_cons_zero, List.set_cons_succ]
                        refine wpAnyH_take (i := 9) (oi := ⟨some 120, _, _, _, _, _⟩) (v := .bool true) rfl (by kernel_rfl) (by kernel_rfl) (by kernel_rfl) (fun _ _ _ h => h) (yields_eql (by rfl) 25 (by kernel_rfl) (.tmp 115) (.tmp 119) 25 rfl (P i).cs.toArray r.cs.toArray (by rfl) (by rfl) true HQ.out) HS0.out ?_
                        try simp only [Act.put, List.setIfInBounds_toArray, List.set_cons_zero, List.set_cons_succ]
                        refine wpAnyH_done (by kernel_rfl) ?_ _
                        have hc := seen_num R8.out
                        go_wp2_with fail
                        go_roundw
                        case rel => exact ⟨i + 1, by omega, by go_num, by rw [HTT.out], V11.out, S11.out, W11.out⟩
                        case measure => simp [intOf]; omega
                    · obtain rfl : n = i := by omega
                      have HG := Lib.hid (fun W (h : SAt W g q M L T) => get_ g q M L T r W h OKR.out)
                      have HPR2 := Lib.hid (HPR.out _ V10.out)
                      have t1 := HTJ.out r n (Nat.le_refl _)
                      unfold GetOut at HG
                      rcases hh : has L r with _ | _
                      · have hz := HZ.out r hh
                        have hd1 : decide (Z < tru P X r n) = false := by simp; omega
                        rw [hh] at HG
                        generalize get L r = s at *
                        generalize tru P X r n = t at *
                        go_wp2_with (first | (refine wpList_pre (by rfl) (.tmp 133) rfl _ _ rfl r HPR2.out ?_) | (go_at_call 14; (with_reducible refine (HG.out _ S10.out).mono ?_); rintro e w11 ⟨rfl, hb⟩; have S11 := Lib.hid (S10.out.below hb); have V11 := Lib.hid (V10.out.below hb); have W11 : Hid (Below w.heap.size w w11) := W10.out.trans (hb.mono W10.out.size); clear hb S10 V10 W10) | (refine wpList_new rfl (.tmp 21) (.tmp 136) rfl w11 s rfl rfl ?_; intro w12 K12 hb8; have S12 := Lib.hid (S11.out.below hb8.out); have V12 := Lib.hid (V11.out.below hb8.out); have W12 : Hid (Below w.heap.size w w12) := W11.out.trans (hb8.out.mono W11.out.size); clear hb8 S11 V11 W11; have c8 : w12.cell? ⟨w11.heap.size, 8, none⟩ = some (.int .i64 s.c) := K12.out.cell 8; have c9 : w12.cell? ⟨w11.heap.size, 9, none⟩ = some (.int .i64 s.e) := K12.out.cell 9))
                        go_roundw
                        case rel => exact ⟨a + 1, by omega, by go_num, V12.out, S12.out, W12.out⟩
                        case measure => simp [intOf]; omega
                      · have hx := has_iff.1 hh
                        have e1 : get L r = at_ L (idx L r) := by simp [get, hh]
                        have e2 := idx_at hx
                        have g1 := HHI.out _ hx
                        have g2 := HLO.out _ hx
                        have g3 := HERR.out _ hx
                        have g4 := HE0.out _ hx
                        have g5 := HC0.out _ hx
                        have g6 := (HOK.out _ (at_mem hx)).c
                        have g7 := (HOK.out _ (at_mem hx)).e
                        rw [e2] at g1 g2
                        rw [e1, hh] at HG
                        clear e1 e2 hx
                        generalize at_ L (idx L r) = s at *
                        generalize tru P X r n = t at *
                        have g8 := Int.mul_nonneg g4 (Int.natCast_nonneg M)
                        have hd1 : decide (s.c < t) = false := by simp; omega
                        have hd2 : decide (t < s.c - s.e) = false := by simp; omega
                        have hd3 : decide (sumX X n < s.e * (M : Int)) = false := by rw [HT.out]; simp; omega
                        go_wp2_with (first | (refine wpList_pre (by rfl) (.tmp 133) rfl _ _ rfl r HPR2.out ?_) | (go_at_call 14; (with_reducible refine (HG.out _ S10.out).mono ?_); rintro e w11 ⟨rfl, hb⟩; have S11 := Lib.hid (S10.out.below hb); have V11 := Lib.hid (V10.out.below hb); have W11 : Hid (Below w.heap.size w w11) := W10.out.trans (hb.mono W10.out.size); clear hb S10 V10 W10) | (refine wpList_new rfl (.tmp 21) (.tmp 136) rfl w11 s rfl rfl ?_; intro w12 K12 hb8; have S12 := Lib.hid (S11.out.below hb8.out); have V12 := Lib.hid (V11.out.below hb8.out); have W12 : Hid (Below w.heap.size w w12) := W11.out.trans (hb8.out.mono W11.out.size); clear hb8 S11 V11 W11; have c8 : w12.cell? ⟨w11.heap.size, 8, none⟩ = some (.int .i64 s.c) := K12.out.cell 8; have c9 : w12.cell? ⟨w11.heap.size, 9, none⟩ = some (.int .i64 s.e) := K12.out.cell 9))
                        go_roundw
                        case rel => exact ⟨a + 1, by omega, by go_num, V12.out, S12.out, W12.out⟩
                        case measure => simp [intOf]; omega
                · rw [HT.out]
                  go_wp2_with (first | (go_at_call 19; (with_reducible refine (rcount_k T _ hT0 (by omega)).mono ?_); rintro e w12 ⟨rfl, rfl⟩) | (go_at_call 12; (with_reducible refine (total_ g q M L T _ S9.out).mono ?_); rintro e w12 ⟨rfl, rfl⟩))
                  go_ret
                  exact ⟨ret_bool (by simp), HE.out _ W9.out⟩
end Go.Proofs.Ytgmbkmlnoehomaa
