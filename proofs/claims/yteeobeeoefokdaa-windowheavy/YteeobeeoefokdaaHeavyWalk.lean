/- The walk of WindowHeavy. Conditions: those of each theorem. -/
import Derived.Test.YteeobeeoefokdaaOnes
import Derived.Test.YteeobeeoefokdaaSame
namespace Go.Proofs.Yteeobeeoefokdaa
open Go.RowKit

set_option maxRecDepth 100000 in
set_option maxHeartbeats 2000000 in
theorem heavy_far (a0 a1 : Int) (A : Option Addr) (n c : Nat) (w : World) (hn : 100 < n) :
    Calls Try.prog 4 #[.int .u8 a0, .int .u32 a1, .slice A n c] w fun e w' => e = .returned (.bool true) ∧ Below w.heap.size w w' := by
  have hd : decide ((100 : Int) < (n : Int)) = true := by simp; omega
  go_enter Try.func4, Try.ntmps4
  go_wp2_with fail
  refine (awake_any _).mono ?_
  rintro e w1 ⟨rfl, hb1⟩
  have W1 := Lib.hid hb1
  clear hb1
  go_wp2_with fail
  refine (awake_any _).mono ?_
  rintro e w2 ⟨rfl, hb2⟩
  have W2 : Hid (Below w.heap.size w w2) := W1.out.trans (hb2.mono W1.out.size)
  clear hb2
  go_wp2_with fail
  go_ret
  exact ⟨rfl, W2.out⟩

/-- Where the law stands behind k countings. -/
def HRan (w : World) (g s q : Nat) (t : Int) (M : Nat) (P : Nat → Pre) (X : Nat → Int) (k : Nat) (w' : World) : Prop := WAt w' g s q ⟨1099511627776, t, 0, tot X k, M, ran M P X k⟩ ∧ Below w.heap.size w w'
section
variable {w w' w'' : World} {g s q M k : Nat} {t : Int} {P : Nat → Pre} {X : Nat → Int}
theorem HRan.at_ (h : HRan w g s q t M P X k w') : WAt w' g s q ⟨1099511627776, t, 0, tot X k, M, ran M P X k⟩ := h.1
theorem HRan.be (h : HRan w g s q t M P X k w') : Below w.heap.size w w' := h.2
theorem HRan.drew (h : HRan w g s q t M P X k w') : HRan w g s q t M P X k w'.drew := ⟨h.1.drew, below_drewN h.2 1⟩
theorem to_five (T : Int) (L : List Slo) : Wn.to ⟨1099511627776, t, 0, T, M, L⟩ 5 = ⟨1099511627776, t, 0, T, M, L⟩ := to_same (show tm 5 / 1099511627776 ≤ 0 by decide)
theorem HRan.next (h : HRan w g s q t M P X k w') (hw : WAt w'' g s q ((Wn.to ⟨1099511627776, t, 0, tot X k, M, ran M P X k⟩ 5).cnt (P k) (X k))) (hf : Far (tri g s q) w' w'') (hg : w.heap.size ≤ g ∧ w.heap.size ≤ s ∧ w.heap.size ≤ q) : HRan w g s q t M P X (k + 1) w'' := by
  rw [to_five] at hw
  exact ⟨hw, below_tri h.2 hf hg.1 hg.2.1 hg.2.2 h.2.size⟩
/-- Is the prefix of the k-th counting heavy then? -/
def hvyAt (t : Int) (M : Nat) (P : Nat → Pre) (X : Nat → Int) (k : Nat) : Bool := decide (t ≤ (at_ (ran M P X (k + 1)) (pos M (ran M P X k) (P k))).c - (at_ (ran M P X (k + 1)) (pos M (ran M P X k) (P k))).e)
theorem hran_hvy : (Wn.to ⟨1099511627776, t, 0, tot X k, M, ran M P X k⟩ 5).hvy (P k) (X k) = hvyAt t M P X k := by rw [to_five]; rfl
theorem heavy_law (hX : ∀ i, i < k + 1 → 0 ≤ X i ∧ X i ≤ 1048576) (hk : k < 100) (h1 : 1 ≤ M) (h2 : M ≤ 64) (ht : 1 ≤ t ∧ t ≤ 1048576) :
    (0 ≤ tru P X (P k) (k + 1) ∧ tru P X (P k) (k + 1) ≤ 429496729600) ∧ (0 ≤ sumX X (k + 1) ∧ sumX X (k + 1) ≤ 429496729600) ∧
    (-67108864 ≤ (tru P X (P k) (k + 1) - t) * (M : Int) ∧ (tru P X (P k) (k + 1) - t) * (M : Int) ≤ 27487790694400) ∧
    (hvyAt t M P X k = true → t ≤ tru P X (P k) (k + 1)) ∧ (hvyAt t M P X k = false → (tru P X (P k) (k + 1) - t) * (M : Int) < sumX X (k + 1)) := by
  have hX2 : ∀ i, i < k + 1 → 0 ≤ X i ∧ X i ≤ 4294967296 := fun i hi => by have := hX i hi; omega
  have hI := (inv_ran (P := P) hX2 (by omega) h1).1
  have hl : pos M (ran M P X k) (P k) < (ran M P X (k + 1)).length := by
    show _ < (inc _ _ _).length
    rw [inc_length]
    exact pos_lt h1
  have hp : (at_ (ran M P X (k + 1)) (pos M (ran M P X k) (P k))).p = P k := by
    show (at_ (inc _ _ _) _).p = _
    rw [inc_p]
    exact pos_at h1
  have a1 := hI.hi _ hl
  have a2 := hI.lo _ hl
  have a3 := hI.err _ hl
  rw [hp] at a1 a2
  have b1 := sumX_bd hX2
  have b2 := tru_nat (P := P) (p := P k) (k := k + 1) (fun i hi => (hX i hi).1)
  have b3 := tru_le (P := P) (p := P k) (k := k + 1) (fun i hi => (hX i hi).1)
  have hs : sumX X (k + 1) ≤ 429496729600 := by have := b1.2; rw [Int.natCast_succ] at this; omega
  have hM : (1 : Int) ≤ M ∧ (M : Int) ≤ 64 := by omega
  refine ⟨⟨b2, by omega⟩, ⟨b1.1, hs⟩, ?_, fun h => ?_, fun h => ?_⟩
  · generalize tru P X (P k) (k + 1) = T at *
    constructor
    · have h3 := Int.mul_le_mul_of_nonneg_right (show -1048576 ≤ T - t by omega) (show (0 : Int) ≤ M by omega)
      omega
    · rcases Int.le_total 0 (T - t) with h3 | h3
      · have h4 := Int.mul_le_mul_of_nonneg_left hM.2 h3
        omega
      · have h4 := Int.mul_le_mul_of_nonneg_right h3 (show (0 : Int) ≤ M by omega)
        omega
  · have := of_decide_eq_true h
    omega
  · have h3 := of_decide_eq_false h
    generalize tru P X (P k) (k + 1) = T at *
    generalize (at_ (ran M P X (k + 1)) (pos M (ran M P X k) (P k))).e = e at *
    have h4 := Int.mul_lt_mul_of_pos_right (show T - t < e by omega) (show (0 : Int) < M by omega)
    omega
end

set_option maxRecDepth 100000 in
set_option maxHeartbeats 8000000 in
theorem heavy_near (a0 a1 : Int) (A : Option Addr) (n c : Nat) (O : Nat → Int) (P : Nat → Pre) (X : Nat → Int) (w : World) (hn : n ≤ 100) (b0 : 0 ≤ a0 ∧ a0 ≤ 255) (b1 : 0 ≤ a1 ∧ a1 ≤ 4294967295) (ha : SeenIn w A n O P X) :
    Calls Try.prog 4 #[.int .u8 a0, .int .u32 a1, .slice A n c] w fun e w' => e = .returned (.bool true) ∧ Below w.heap.size w w' := by
  have HA := Lib.hid ha
  clear ha
  have hd : decide ((100 : Int) < (n : Int)) = false := by simp; omega
  go_enter Try.func4, Try.ntmps4
  go_upto_region 4 with (go_at_call 7; (with_reducible refine (awake_any _).mono ?_); rintro e w1 ⟨rfl, hb⟩; have B1 := Lib.hid hb; clear hb)
  have ht : 1 ≤ 1 + a1 % 1048576 ∧ 1 + a1 % 1048576 ≤ 1048576 := by omega
  generalize 1 + a1 % 1048576 = t at *
  obtain ⟨M, hM⟩ : ∃ M : Nat, 1 + a0 % 64 = (M : Int) := ⟨(1 + a0 % 64).toNat, by omega⟩
  have hM1 : 1 ≤ M ∧ M ≤ 64 := by omega
  rw [hM]
  clear hM
  go_upto_region 5 with (go_at_call 8; (with_reducible refine (wnew_ M _ 1099511627776 t _ rfl hM1.1 hM1.2 ⟨by omega, by omega⟩ ⟨ht.1, by omega⟩).mono ?_); rintro e w2 ⟨g, s, q, rfl, hs, hg, hb⟩; have R2 : Hid (HRan w g s q t M P X 0 w2) := ⟨hs, B1.out.trans (hb.mono B1.out.size)⟩; have HG : Hid (w.heap.size ≤ g ∧ w.heap.size ≤ s ∧ w.heap.size ≤ q) := (by have := B1.out.size; show _ ∧ _ ∧ _; omega); clear hs hg hb)
  clear B1
  go_wp2_with fail
  go_loopw [11, 12, 13, 14, 15, 40] (fun v _ _ _ _ i w' => ∃ k : Nat, k ≤ n ∧ i = .int .i64 k ∧ v = .int .i64 (sumX X k) ∧ Hid (∀ i, i < k → 0 ≤ X i ∧ X i ≤ 1048576) ∧ HRan w g s q t M P X k w') (fun _ _ _ _ _ i _ => n - (intOf i).toNat)
  case atStart => exact ⟨0, by omega, rfl, rfl, Lib.hid (fun i hi => absurd hi (by omega)), R2.out⟩
  case round =>
    clear R2
    obtain ⟨k, hk, rfl, rfl, HX, hr⟩ := hrel
    have R3 := Lib.hid hr
    clear hr
    by_cases hlt : k < n
    · obtain ⟨b, o, rfl, hra, hok, ho, hx⟩ := HA.out k hlt
      have HR : Hid (∀ W, Below w.heap.size w W → W.rangeAt b (o + k * 10) (.int .i64 (O k) :: ((P k).cs ++ [.int .i64 (X k)]))) := fun W hW j v hv => (hW.cell (World.block_lt_of_cell? w _ (hra j v hv))).trans (hra j v hv)
      clear hra
      have cx : wr.cell? ⟨b, o + k * 10 + 9, none⟩ = some (.int .i64 (X k)) := seen_num (HR.out _ R3.out.be)
      by_cases hx9 : X k < 0 ∨ 1048576 < X k
      · rcases hx9 with h | h
        · have d1 : decide (X k < 0) = true := by simpa using h
          go_wp2_with fail
          go_ret
          exact ⟨rfl, R3.out.be⟩
        · have d1 : decide (X k < 0) = false := by simp; omega
          have d2 : decide (1048576 < X k) = true := by simpa using h
          go_wp2_with fail
          go_ret
          exact ⟨rfl, R3.out.be⟩
      · have d1 : decide (X k < 0) = false := by simp; omega
        have d2 : decide (1048576 < X k) = false := by simp; omega
        have HX1 : Hid (∀ i, i < k + 1 → 0 ≤ X i ∧ X i ≤ 1048576) := Lib.hid (fun i hi => by
          rcases Nat.lt_or_ge i k with h | h
          · exact HX.out i h
          · obtain rfl : i = k := by omega
            omega)
        have HL := Lib.hid (heavy_law (P := P) HX1.out (by omega) hM1.1 hM1.2 ht)
        go_upto_region 11 with fail
        clear cx d1 d2
        refine wp_region_held_drew (S := fun W => W.rangeAt b (o + k * 10) (.int .i64 (O k) :: ((P k).cs ++ [.int .i64 (X k)]))) (by kernel_rfl) ?_ (fun _ => ?_)
        · exact HR.out _ (below_drewN R3.out.be 1)
        have HS0 : Hid (wr.drew.rangeAt b (o + k * 10) (.int .i64 (O k) :: ((P k).cs ++ [.int .i64 (X k)]))) := HR.out _ (below_drewN R3.out.be 1)
        have R30 : Hid (HRan w g s q t M P X k wr.drew) := R3.out.drew
        generalize wr.drew = x0 at *
        refine wpAnyH_take (i := 0) (oi := ⟨some 57, _, _, _, _, _⟩) (v := ?_) rfl (by kernel_rfl) (by kernel_rfl) (by kernel_rfl) (fun _ _ _ h => h) (Or.inl ⟨by rfl, ?_⟩) HS0.out ?_
        rotate_left
        · (intro W hSW; clear hSW; go_simp)
          first | done | (with_reducible rfl)
        try simp only [Act.put, List.setIfInBounds_toArray, List.set_cons_zero, List.set_cons_succ]
        refine wpAnyH_take (i := 1) (oi := ⟨some 58, _, _, _, _, _⟩) (v := ?_) rfl (by kernel_rfl) (by kernel_rfl) (by kernel_rfl) (fun _ _ _ h => h) (Or.inl ⟨by rfl, ?_⟩) HS0.out ?_
        rotate_left
        · (intro W hSW; clear hSW; go_simp)
          first | done | (with_reducible rfl)
        try simp only [Act.put, List.setIfInBounds_toArray, List.set_cons_zero, List.set_cons_succ]
        refine wpAnyH_take (i := 2) (oi := ⟨some 59, _, _, _, _, _⟩) (v := ?_) rfl (by kernel_rfl) (by kernel_rfl) (by kernel_rfl) (fun _ _ _ h => h) (Or.inl ⟨by rfl, ?_⟩) HS0.out ?_
        rotate_left
        · (intro W hSW; clear hSW; go_simp)
          first | done | (with_reducible rfl)
        try simp only [Act.put, List.setIfInBounds_toArray, List.set_cons_zero, List.set_cons_succ]
        refine wpAnyH_take (i := 3) (oi := ⟨some 60, _, _, _, _, _⟩) (v := ?_) rfl (by kernel_rfl) (by kernel_rfl) (by kernel_rfl) (fun _ _ _ h => h) (Or.inl ⟨by rfl, ?_⟩) HS0.out ?_
        rotate_left
        · (intro W hSW; clear hSW; go_simp)
          first | done | (with_reducible rfl)
        try simp only [Act.put, List.setIfInBounds_toArray, List.set_cons_zero, List.set_cons_succ]
        refine wpAnyH_take (i := 4) (oi := ⟨some 61, _, _, _, _, _⟩) (v := ?_) rfl (by kernel_rfl) (by kernel_rfl) (by kernel_rfl) (fun _ _ _ h => h) (Or.inl ⟨by rfl, ?_⟩) HS0.out ?_
        rotate_left
        · (intro W hSW; clear hSW; go_simp)
          first | done | (with_reducible rfl)
        try simp only [Act.put, List.setIfInBounds_toArray, List.set_cons_zero, List.set_cons_succ]
        refine wpAnyH_take (i := 5) (oi := ⟨some 62, _, _, _, _, _⟩) (v := .agg (P k).cs.toArray) rfl (by kernel_rfl) (by kernel_rfl) (by kernel_rfl) (fun _ _ _ h => h) (yields_pre (by rfl) (.tmp 61) rfl b (o + k * 10 + 1) rfl (P k) (fun _ h => seen_pre h)) HS0.out ?_
        try simp only [Act.put, List.setIfInBounds_toArray, List.set_cons_zero, List.set_cons_succ]
        refine wpAnyH_take (i := 6) (oi := ⟨some 63, _, _, _, _, _⟩) (v := ?_) rfl (by kernel_rfl) (by kernel_rfl) (by kernel_rfl) (fun _ _ _ h => h) (Or.inl ⟨by rfl, ?_⟩) HS0.out ?_
        rotate_left
        · (intro W hSW; clear hSW; go_simp)
          first | done | (with_reducible rfl)
        try simp only [Act.put, List.setIfInBounds_toArray, List.set_cons_zero, List.set_cons_succ]
        refine wpAnyH_take (i := 7) (oi := ⟨some 64, _, _, _, _, _⟩) (v := ?_) rfl (by kernel_rfl) (by kernel_rfl) (by kernel_rfl) (fun _ _ _ h => h) (Or.inl ⟨by rfl, ?_⟩) HS0.out ?_
        rotate_left
        · (intro W hSW; clear hSW; go_simp)
          first | done | (with_reducible rfl)
        try simp only [Act.put, List.setIfInBounds_toArray, List.set_cons_zero, List.set_cons_succ]
        refine wpAnyH_take (i := 8) (oi := ⟨some 65, _, _, _, _, _⟩) (v := ?_) rfl (by kernel_rfl) (by kernel_rfl) (by kernel_rfl) (fun _ _ _ h => h) (Or.inl ⟨by rfl, ?_⟩) HS0.out ?_
        rotate_left
        · (intro W hSW; clear hSW; go_simp)
          first | done | (with_reducible rfl)
        try simp only [Act.put, List.setIfInBounds_toArray, List.set_cons_zero, List.set_cons_succ]
        refine wpAnyH_take (i := 9) (oi := ⟨some 66, _, _, _, _, _⟩) (v := ?_) rfl (by kernel_rfl) (by kernel_rfl) (by kernel_rfl) (fun _ _ _ h => h) (Or.inl ⟨by rfl, ?_⟩) HS0.out ?_
        rotate_left
        · (intro W hSW; clear hSW; go_simp)
          first | done | (with_reducible rfl)
        try simp only [Act.put, List.setIfInBounds_toArray, List.set_cons_zero, List.set_cons_succ]
        refine wpAnyH_take (i := 10) (oi := ⟨some 67, _, _, _, _, _⟩) (v := .int .i64 (X k)) rfl (by kernel_rfl) (by kernel_rfl) (by kernel_rfl) (fun _ _ _ h => h) (Or.inl ⟨by rfl, ?_⟩) HS0.out ?_
        · (intro W hSW; have hc := seen_num hSW; clear hSW; go_simp)
        try simp only [Act.put, List.setIfInBounds_toArray, List.set_cons_zero, List.set_cons_succ]
        refine wpAnyH_ready (rs := [11]) (by kernel_rfl) (by simp) ?_
        refine AllReadyH.cons (o := ⟨some 68, _, _, _, _, _⟩) rfl (fun K hK => ?_) AllReadyH.nil
        go_simp
        refine (wadd_ g s q _ 5 (X k) (P k) x0 R30.out.at_ hok).mono ?_
        rintro e x1 ⟨rfl, hw, hf⟩
        rw [hran_hvy]
        have R4 : Hid (HRan w g s q t M P X (k + 1) x1) := R30.out.next hw hf HG.out
        have HS1 : Hid (x1.rangeAt b (o + k * 10) (.int .i64 (O k) :: ((P k).cs ++ [.int .i64 (X k)]))) := HR.out _ R4.out.be
        clear hw hf
        go_simp
        refine hK.out _ _ ?_ (fun _ => ?_)
        · exact HS1.out
        clear hK K
        try simp only [Act.put, List.setIfInBounds_toArray, List.set_cons_zero, List.set_cons_succ]
        refine wpAnyH_take (i := 12) (oi := ⟨some 13, _, _, _, _, _⟩) (v := ?_) rfl (by kernel_rfl) (by kernel_rfl) (by kernel_rfl) (fun _ _ _ h => h) (Or.inl ⟨by rfl, ?_⟩) HS1.out ?_
        rotate_left
        · (intro W hSW; clear hSW; go_simp)
          first | done | (with_reducible rfl)
        try simp only [Act.put, List.setIfInBounds_toArray, List.set_cons_zero, List.set_cons_succ]
        refine wpAnyH_done (by kernel_rfl) ?_ _
        have cx : x1.cell? ⟨b, o + k * 10 + 9, none⟩ = some (.int .i64 (X k)) := seen_num HS1.out
        have hxk : 0 ≤ X k ∧ X k ≤ 1048576 := by omega
        have hs0 : 0 ≤ sumX X k ∧ sumX X k ≤ 429496729600 := by
          have := sumX_bd (k := k) (X := X) (fun i hi => by have := HX.out i hi; omega)
          omega
        clear HS1 HX hx9
        go_upto_region 13 with fail
        clear cx R3 R30
        have HH := Lib.hid HL.out.2.2.2
        have hT : 0 ≤ tru P X (P k) (k + 1) ∧ tru P X (P k) (k + 1) ≤ 429496729600 := HL.out.1
        have hS : 0 ≤ sumX X k + X k ∧ sumX X k + X k ≤ 429496729600 := HL.out.2.1
        have hP : -67108864 ≤ (tru P X (P k) (k + 1) - t) * (M : Int) ∧ (tru P X (P k) (k + 1) - t) * (M : Int) ≤ 27487790694400 := HL.out.2.2.1
        clear HL
        go_wp2_with fail
        go_loopw [14, 15, 78] (fun v _ i w' => ∃ j : Nat, j ≤ k + 1 ∧ i = .int .i64 j ∧ v = .int .i64 (tru P X (P k) j) ∧ HRan w g s q t M P X (k + 1) w') (fun _ _ i _ => k + 1 - (intOf i).toNat)
        case atStart => exact ⟨0, by omega, rfl, rfl, R4.out⟩
        case round =>
          clear R4
          obtain ⟨j, hj, rfl, rfl, hr5⟩ := hrel
          have R5 := Lib.hid hr5
          clear hr5
          by_cases hlt5 : j < k + 1
          · have ht0 : 0 ≤ tru P X (P k) j ∧ tru P X (P k) j ≤ 429496729600 := by
              have b1 := tru_nat (P := P) (p := P k) (k := j) (X := X) (fun i hi => (HX1.out i (by omega)).1)
              have b2 := tru_le (P := P) (p := P k) (k := j) (X := X) (fun i hi => (HX1.out i (by omega)).1)
              have b3 := sumX_bd (k := j) (X := X) (fun i hi => by have := HX1.out i (by omega); omega)
              omega
            have hxj : 0 ≤ X j ∧ X j ≤ 1048576 := HX1.out j (by omega)
            have hjn : j < n := by omega
            obtain ⟨b', o', e, hraj, hokj, _, _⟩ := HA.out j (by omega)
            cases e
            have HRj : Hid (∀ W, Below w.heap.size w W → W.rangeAt b (o + j * 10) (.int .i64 (O j) :: ((P j).cs ++ [.int .i64 (X j)]))) := fun W hW j v hv => (hW.cell (World.block_lt_of_cell? w _ (hraj j v hv))).trans (hraj j v hv)
            clear hraj
            have HQ := Lib.hid (fun W => eq_pre hokj hok W)
            have cj : wr.drew.cell? ⟨b, o + j * 10 + 9, none⟩ = some (.int .i64 (X j)) := seen_num (HRj.out _ (below_drewN R5.out.be 1))
            rcases hd5 : decide (P j = P k) with _ | _
            · rw [hd5] at HQ
              have HV : Hid (Value.int .i64 (tru P X (P k) j) = .int .i64 (tru P X (P k) (j + 1))) := by show _ = _; rw [tru_other (of_decide_eq_false hd5)]
              go_upto_region 17 with fail
              refine wp_region_held_drew (S := fun W => W.rangeAt b (o + k * 10) (.int .i64 (O k) :: ((P k).cs ++ [.int .i64 (X k)])) ∧ W.rangeAt b (o + j * 10) (.int .i64 (O j) :: ((P j).cs ++ [.int .i64 (X j)]))) (by kernel_rfl) ?_ (fun _ => ?_)
              · exact ⟨HR.out _ (below_drewN R5.out.be 1), HRj.out _ (below_drewN R5.out.be 1)⟩
              have HS0 : Hid (wr.drew.rangeAt b (o + k * 10) (.int .i64 (O k) :: ((P k).cs ++ [.int .i64 (X k)])) ∧ wr.drew.rangeAt b (o + j * 10) (.int .i64 (O j) :: ((P j).cs ++ [.int .i64 (X j)]))) := ⟨HR.out _ (below_drewN R5.out.be 1), HRj.out _ (below_drewN R5.out.be 1)⟩
              have R50 : Hid (HRan w g s q t M P X (k + 1) wr.drew) := R5.out.drew
              refine wpAnyH_take (i := 0) (oi := ⟨some 81, _, _, _, _, _⟩) (v := ?_) rfl (by kernel_rfl) (by kernel_rfl) (by kernel_rfl) (fun _ _ _ h => h) (Or.inl ⟨by rfl, ?_⟩) HS0.out ?_
              rotate_left
              · (intro W hSW; clear hSW; go_simp)
                first | done | (with_reducible rfl)
              try simp only [Act.put, List.setIfInBounds_toArray, List.set_cons_zero, List.set_cons_succ]
              refine wpAnyH_take (i := 1) (oi := ⟨some 82, _, _, _, _, _⟩) (v := ?_) rfl (by kernel_rfl) (by kernel_rfl) (by kernel_rfl) (fun _ _ _ h => h) (Or.inl ⟨by rfl, ?_⟩) HS0.out ?_
              rotate_left
              · (intro W hSW; clear hSW; go_simp)
                first | done | (with_reducible rfl)
              try simp only [Act.put, List.setIfInBounds_toArray, List.set_cons_zero, List.set_cons_succ]
              refine wpAnyH_take (i := 2) (oi := ⟨some 83, _, _, _, _, _⟩) (v := ?_) rfl (by kernel_rfl) (by kernel_rfl) (by kernel_rfl) (fun _ _ _ h => h) (Or.inl ⟨by rfl, ?_⟩) HS0.out ?_
              rotate_left
              · (intro W hSW; clear hSW; go_simp)
                first | done | (with_reducible rfl)
              try simp only [Act.put, List.setIfInBounds_toArray, List.set_cons_zero, List.set_cons_succ]
              refine wpAnyH_take (i := 3) (oi := ⟨some 84, _, _, _, _, _⟩) (v := ?_) rfl (by kernel_rfl) (by kernel_rfl) (by kernel_rfl) (fun _ _ _ h => h) (Or.inl ⟨by rfl, ?_⟩) HS0.out ?_
              rotate_left
              · (intro W hSW; clear hSW; go_simp)
                first | done | (with_reducible rfl)
              try simp only [Act.put, List.setIfInBounds_toArray, List.set_cons_zero, List.set_cons_succ]
              refine wpAnyH_take (i := 4) (oi := ⟨some 85, _, _, _, _, _⟩) (v := .agg (P j).cs.toArray) rfl (by kernel_rfl) (by kernel_rfl) (by kernel_rfl) (fun _ _ _ h => h) (yields_pre (by rfl) (.tmp 84) rfl b (o + j * 10 + 1) rfl (P j) (fun _ h => seen_pre h.2)) HS0.out ?_
              try simp only [Act.put, List.setIfInBounds_toArray, List.set_cons_zero, List.set_cons_succ]
              refine wpAnyH_take (i := 5) (oi := ⟨some 86, _, _, _, _, _⟩) (v := ?_) rfl (by kernel_rfl) (by kernel_rfl) (by kernel_rfl) (fun _ _ _ h => h) (Or.inl ⟨by rfl, ?_⟩) HS0.out ?_
              rotate_left
              · (intro W hSW; clear hSW; go_simp)
                first | done | (with_reducible rfl)
              try simp only [Act.put, List.setIfInBounds_toArray, List.set_cons_zero, List.set_cons_succ]
              refine wpAnyH_take (i := 6) (oi := ⟨some 87, _, _, _, _, _⟩) (v := ?_) rfl (by kernel_rfl) (by kernel_rfl) (by kernel_rfl) (fun _ _ _ h => h) (Or.inl ⟨by rfl, ?_⟩) HS0.out ?_
              rotate_left
              · (intro W hSW; clear hSW; go_simp)
                first | done | (with_reducible rfl)
              try simp only [Act.put, List.setIfInBounds_toArray, List.set_cons_zero, List.set_cons_succ]
              refine wpAnyH_take (i := 7) (oi := ⟨some 88, _, _, _, _, _⟩) (v := ?_) rfl (by kernel_rfl) (by kernel_rfl) (by kernel_rfl) (fun _ _ _ h => h) (Or.inl ⟨by rfl, ?_⟩) HS0.out ?_
              rotate_left
              · (intro W hSW; clear hSW; go_simp)
                first | done | (with_reducible rfl)
              try simp only [Act.put, List.setIfInBounds_toArray, List.set_cons_zero, List.set_cons_succ]
              refine wpAnyH_take (i := 8) (oi := ⟨some 89, _, _, _, _, _⟩) (v := ?_) rfl (by kernel_rfl) (by kernel_rfl) (by kernel_rfl) (fun _ _ _ h => h) (Or.inl ⟨by rfl, ?_⟩) HS0.out ?_
              rotate_left
              · (intro W hSW; clear hSW; go_simp)
                first | done | (with_reducible rfl)
              try simp only [Act.put, List.setIfInBounds_toArray, List.set_cons_zero, List.set_cons_succ]
              refine wpAnyH_take (i := 9) (oi := ⟨some 90, _, _, _, _, _⟩) (v := .agg (P k).cs.toArray) rfl (by kernel_rfl) (by kernel_rfl) (by kernel_rfl) (fun _ _ _ h => h) (yields_pre (by rfl) (.tmp 89) rfl b (o + k * 10 + 1) rfl (P k) (fun _ h => seen_pre h.1)) HS0.out ?_
              try simp only [Act.put, List.setIfInBounds_toArray, List.set_cons_zero, List.set_cons_succ]
              refine wpAnyH_take (i := 10) (oi := ⟨some 91, _, _, _, _, _⟩) (v := .bool false) rfl (by kernel_rfl) (by kernel_rfl) (by kernel_rfl) (fun _ _ _ h => h) (yields_eql (by rfl) 31 (by kernel_rfl) (.tmp 85) (.tmp 90) 31 rfl _ _ (by rfl) (by rfl) false HQ.out) HS0.out ?_
              try simp only [Act.put, List.setIfInBounds_toArray, List.set_cons_zero, List.set_cons_succ]
              refine wpAnyH_done (by kernel_rfl) ?_ _
              go_wp2_with fail
              go_roundw
              case rel => exact ⟨j + 1, by omega, by go_num, HV.out, R50.out⟩
              case measure => simp [intOf]; omega
            · rw [hd5] at HQ
              have HV : Hid (Value.int .i64 (tru P X (P k) j + X j) = .int .i64 (tru P X (P k) (j + 1))) := by show _ = _; rw [tru_same (of_decide_eq_true hd5)]
              go_upto_region 17 with fail
              refine wp_region_held_drew (S := fun W => W.rangeAt b (o + k * 10) (.int .i64 (O k) :: ((P k).cs ++ [.int .i64 (X k)])) ∧ W.rangeAt b (o + j * 10) (.int .i64 (O j) :: ((P j).cs ++ [.int .i64 (X j)]))) (by kernel_rfl) ?_ (fun _ => ?_)
              · exact ⟨HR.out _ (below_drewN R5.out.be 1), HRj.out _ (below_drewN R5.out.be 1)⟩
              have HS0 : Hid (wr.drew.rangeAt b (o + k * 10) (.int .i64 (O k) :: ((P k).cs ++ [.int .i64 (X k)])) ∧ wr.drew.rangeAt b (o + j * 10) (.int .i64 (O j) :: ((P j).cs ++ [.int .i64 (X j)]))) := ⟨HR.out _ (below_drewN R5.out.be 1), HRj.out _ (below_drewN R5.out.be 1)⟩
              have R50 : Hid (HRan w g s q t M P X (k + 1) wr.drew) := R5.out.drew
              refine wpAnyH_take (i := 0) (oi := ⟨some 81, _, _, _, _, _⟩) (v := ?_) rfl (by kernel_rfl) (by kernel_rfl) (by kernel_rfl) (fun _ _ _ h => h) (Or.inl ⟨by rfl, ?_⟩) HS0.out ?_
              rotate_left
              · (intro W hSW; clear hSW; go_simp)
                first | done | (with_reducible rfl)
              try simp only [Act.put, List.setIfInBounds_toArray, List.set_cons_zero, List.set_cons_succ]
              refine wpAnyH_take (i := 1) (oi := ⟨some 82, _, _, _, _, _⟩) (v := ?_) rfl (by kernel_rfl) (by kernel_rfl) (by kernel_rfl) (fun _ _ _ h => h) (Or.inl ⟨by rfl, ?_⟩) HS0.out ?_
              rotate_left
              · (intro W hSW; clear hSW; go_simp)
                first | done | (with_reducible rfl)
              try simp only [Act.put, List.setIfInBounds_toArray, List.set_cons_zero, List.set_cons_succ]
              refine wpAnyH_take (i := 2) (oi := ⟨some 83, _, _, _, _, _⟩) (v := ?_) rfl (by kernel_rfl) (by kernel_rfl) (by kernel_rfl) (fun _ _ _ h => h) (Or.inl ⟨by rfl, ?_⟩) HS0.out ?_
              rotate_left
              · (intro W hSW; clear hSW; go_simp)
                first | done | (with_reducible rfl)
              try simp only [Act.put, List.setIfInBounds_toArray, List.set_cons_zero, List.set_cons_succ]
              refine wpAnyH_take (i := 3) (oi := ⟨some 84, _, _, _, _, _⟩) (v := ?_) rfl (by kernel_rfl) (by kernel_rfl) (by kernel_rfl) (fun _ _ _ h => h) (Or.inl ⟨by rfl, ?_⟩) HS0.out ?_
              rotate_left
              · (intro W hSW; clear hSW; go_simp)
                first | done | (with_reducible rfl)
              try simp only [Act.put, List.setIfInBounds_toArray, List.set_cons_zero, List.set_cons_succ]
              refine wpAnyH_take (i := 4) (oi := ⟨some 85, _, _, _, _, _⟩) (v := .agg (P j).cs.toArray) rfl (by kernel_rfl) (by kernel_rfl) (by kernel_rfl) (fun _ _ _ h => h) (yields_pre (by rfl) (.tmp 84) rfl b (o + j * 10 + 1) rfl (P j) (fun _ h => seen_pre h.2)) HS0.out ?_
              try simp only [Act.put, List.setIfInBounds_toArray, List.set_cons_zero, List.set_cons_succ]
              refine wpAnyH_take (i := 5) (oi := ⟨some 86, _, _, _, _, _⟩) (v := ?_) rfl (by kernel_rfl) (by kernel_rfl) (by kernel_rfl) (fun _ _ _ h => h) (Or.inl ⟨by rfl, ?_⟩) HS0.out ?_
              rotate_left
              · (intro W hSW; clear hSW; go_simp)
                first | done | (with_reducible rfl)
              try simp only [Act.put, List.setIfInBounds_toArray, List.set_cons_zero, List.set_cons_succ]
              refine wpAnyH_take (i := 6) (oi := ⟨some 87, _, _, _, _, _⟩) (v := ?_) rfl (by kernel_rfl) (by kernel_rfl) (by kernel_rfl) (fun _ _ _ h => h) (Or.inl ⟨by rfl, ?_⟩) HS0.out ?_
              rotate_left
              · (intro W hSW; clear hSW; go_simp)
                first | done | (with_reducible rfl)
              try simp only [Act.put, List.setIfInBounds_toArray, List.set_cons_zero, List.set_cons_succ]
              refine wpAnyH_take (i := 7) (oi := ⟨some 88, _, _, _, _, _⟩) (v := ?_) rfl (by kernel_rfl) (by kernel_rfl) (by kernel_rfl) (fun _ _ _ h => h) (Or.inl ⟨by rfl, ?_⟩) HS0.out ?_
              rotate_left
              · (intro W hSW; clear hSW; go_simp)
                first | done | (with_reducible rfl)
              try simp only [Act.put, List.setIfInBounds_toArray, List.set_cons_zero, List.set_cons_succ]
              refine wpAnyH_take (i := 8) (oi := ⟨some 89, _, _, _, _, _⟩) (v := ?_) rfl (by kernel_rfl) (by kernel_rfl) (by kernel_rfl) (fun _ _ _ h => h) (Or.inl ⟨by rfl, ?_⟩) HS0.out ?_
              rotate_left
              · (intro W hSW; clear hSW; go_simp)
                first | done | (with_reducible rfl)
              try simp only [Act.put, List.setIfInBounds_toArray, List.set_cons_zero, List.set_cons_succ]
              refine wpAnyH_take (i := 9) (oi := ⟨some 90, _, _, _, _, _⟩) (v := .agg (P k).cs.toArray) rfl (by kernel_rfl) (by kernel_rfl) (by kernel_rfl) (fun _ _ _ h => h) (yields_pre (by rfl) (.tmp 89) rfl b (o + k * 10 + 1) rfl (P k) (fun _ h => seen_pre h.1)) HS0.out ?_
              try simp only [Act.put, List.setIfInBounds_toArray, List.set_cons_zero, List.set_cons_succ]
              refine wpAnyH_take (i := 10) (oi := ⟨some 91, _, _, _, _, _⟩) (v := .bool true) rfl (by kernel_rfl) (by kernel_rfl) (by kernel_rfl) (fun _ _ _ h => h) (yields_eql (by rfl) 31 (by kernel_rfl) (.tmp 85) (.tmp 90) 31 rfl _ _ (by rfl) (by rfl) true HQ.out) HS0.out ?_
              try simp only [Act.put, List.setIfInBounds_toArray, List.set_cons_zero, List.set_cons_succ]
              refine wpAnyH_done (by kernel_rfl) ?_ _
              go_wp2_with fail
              go_roundw
              case rel => exact ⟨j + 1, by omega, by go_num, HV.out, R50.out⟩
              case measure => simp [intOf]; omega
          · obtain rfl : j = k + 1 := by omega
            have HZ : Hid (Value.int .i64 (sumX X k + X k) = .int .i64 (sumX X (k + 1))) := rfl
            have HH2 : Hid ((hvyAt t M P X k = true → t ≤ tru P X (P k) (k + 1)) ∧ (hvyAt t M P X k = false → (tru P X (P k) (k + 1) - t) * (M : Int) < sumX X k + X k)) := HH.out
            clear HH
            generalize tru P X (P k) (k + 1) = T at *
            generalize sumX X k + X k = Z at *
            rcases hb5 : hvyAt t M P X k with _ | _
            · have h6 := HH2.out.2 hb5
              have d1 : decide (Z ≤ (T - t) * (M : Int)) = false := by simp; omega
              clear HH2
              go_wp2_with fail
              go_roundw
              case rel => exact ⟨k + 1, by omega, by go_num, HZ.out, HX1, R5.out⟩
              case measure => simp [intOf]; omega
            · have h6 := HH2.out.1 hb5
              have d1 : decide (T < t) = false := by simp; omega
              clear HH2
              go_wp2_with fail
              go_roundw
              case rel => exact ⟨k + 1, by omega, by go_num, HZ.out, HX1, R5.out⟩
              case measure => simp [intOf]; omega
    · go_wp2
      go_ret
      exact ⟨rfl, R3.out.be⟩
end Go.Proofs.Yteeobeeoefokdaa
