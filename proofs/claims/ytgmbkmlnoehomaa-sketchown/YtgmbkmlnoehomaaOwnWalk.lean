/- The walk of the law SketchOwn: for whatever countings it returns true and turns nothing that was there. -/
import Derived.Test.YtgmbkmlnoehomaaRans
namespace Go.Proofs.Ytgmbkmlnoehomaa
open Go.RowKit

set_option maxRecDepth 100000 in
set_option maxHeartbeats 2000000 in
theorem own_far (A : Option Addr) (n c : Nat) (w : World) (hn : 60 < n) :
    Calls Try.prog 7 #[.slice A n c] w fun e w' => e = .returned (.bool true) ∧ Below w.heap.size w w' := by
  have hd : decide ((60 : Int) < (n : Int)) = true := by simp; omega
  go_enter Try.func7, Try.ntmps7
  go_wp2_with fail
  refine (awake_any _).mono ?_
  rintro e w1 ⟨rfl, hb1⟩
  have W1 := Lib.hid hb1
  clear hb1
  go_wp2_with fail
  refine (awake_any _).mono ?_
  rintro e w2 ⟨rfl, hb2⟩
  have W2 : Hid (Below w.heap.size w w2) := W1.out.trans (hb2.mono W1.out.size)
  clear hb2
  go_wp2_with fail
  go_ret
  exact ⟨rfl, W2.out⟩

-- MADE BELOW
/-- Where the law stands while it writes into what it was told first. -/
def OwnRel (w : World) (g q : Nat) (L : List Slo) (T : Int) (A1 : Option Addr) (c1 : Nat) (A2 : Option Addr) (c2 : Nat) (w' : World) : Prop :=
  SAt w' g q 4 L T ∧ Below w.heap.size w w' ∧ RowAt w.heap.size A2 c2 L w' ∧ (∃ L', L'.length = L.length ∧ RowAt w.heap.size A1 c1 L' w') ∧
  (∀ q1, A1 = some ⟨q1, 0, none⟩ → q1 ≠ g ∧ q1 ≠ q ∧ ∀ q2, A2 = some ⟨q2, 0, none⟩ → q1 ≠ q2)
theorem own_start {w w2 w3 w4 : World} {g q k : Nat} {P : Nat → Pre} {X : Nat → Int} {A1 A2 : Option Addr} {c1 c2 : Nat} (h : Ran w g q 4 P X k w2)
    (hb3 : Below w2.heap.size w2 w3) (h1 : (A1 = none ∧ ran 4 P X k = []) ∨ ∃ q, A1 = some ⟨q, 0, none⟩ ∧ w2.heap.size ≤ q ∧ Rw w3 32 q c1 (ran 4 P X k))
    (hb4 : Below w3.heap.size w3 w4) (h2 : (A2 = none ∧ ran 4 P X k = []) ∨ ∃ q, A2 = some ⟨q, 0, none⟩ ∧ w3.heap.size ≤ q ∧ Rw w4 32 q c2 (ran 4 P X k)) :
    OwnRel w g q (ran 4 P X k) (tot X k) A1 c1 A2 c2 w4 := by
  have s2 := h.be.size
  have s3 := hb3.size
  have lt := h.at_.lt
  refine ⟨(h.at_.below hb3).below hb4, (h.be.trans (hb3.mono s2)).trans (hb4.mono (by omega)), ?_, ⟨_, rfl, ?_⟩, ?_⟩
  · rcases h2 with h2 | ⟨q', e, hq', hr⟩
    · exact .inl h2
    · exact .inr ⟨q', e, by omega, hr⟩
  · rcases h1 with h1 | ⟨q', e, hq', hr⟩
    · exact .inl h1
    · exact .inr ⟨q', e, by omega, hr.below hb4⟩
  · intro q1 e1
    rcases h1 with ⟨e, _⟩ | ⟨q', e, hq', hr⟩
    · rw [e1] at e; cases e
    · rw [e1] at e
      cases e
      refine ⟨by omega, by omega, fun q2 e2 => ?_⟩
      rcases h2 with ⟨e, _⟩ | ⟨q'', e, hq'', _⟩
      · rw [e2] at e; cases e
      · rw [e2] at e
        cases e
        have := hr.lt
        omega
theorem own_put {w w' w'' : World} {g q : Nat} {L L' : List Slo} {T : Int} {q1 c1 : Nat} {A2 : Option Addr} {c2 : Nat} (h : OwnRel w g q L T (some ⟨q1, 0, none⟩) c1 A2 c2 w') (hb : w.heap.size ≤ q1) (hl : L'.length = L.length) (hr : Rw w'' 32 q1 c1 L') (hf : Far (only q1) w' w'') :
    OwnRel w g q L T (some ⟨q1, 0, none⟩) c1 A2 c2 w'' := by
  obtain ⟨h1, h2, h3, _, h5⟩ := h
  obtain ⟨n1, n2, n3⟩ := h5 q1 rfl
  exact ⟨h1.far hf (fun e => n1 (Eq.symm e)) (fun e => n2 (Eq.symm e)), below_only h2 hf hb h2.size, h3.far hf n3, ⟨L', hl, .inr ⟨q1, rfl, hb, hr⟩⟩, h5⟩

set_option maxRecDepth 100000 in
set_option maxHeartbeats 2000000 in
theorem own_near (A : Option Addr) (n c : Nat) (P : Nat → Pre) (X : Nat → Int) (w : World) (hn : n ≤ 60) (ha : SeenIn w A n P X) :
    Calls Try.prog 7 #[.slice A n c] w fun e w' => e = .returned (.bool true) ∧ Below w.heap.size w w' := by
  have HA := Lib.hid ha
  clear ha
  have hd : decide ((60 : Int) < (n : Int)) = false := by simp; omega
  go_enter Try.func7, Try.ntmps7
  go_upto_region 4 with (first | (go_at_call 8; (with_reducible refine (awake_any _).mono ?_); rintro e w1 ⟨rfl, hb1⟩; have W1 := Lib.hid hb1; clear hb1) | (go_at_call 9; (with_reducible refine (new_x 4 4 _ rfl (by omega) (by omega)).mono ?_); rintro e w2 ⟨g, q, rfl, hs, hg1, hq1, hb2⟩; have R2 : Hid (Ran w g q 4 P X 0 w2) := ⟨hs, W1.out.trans (hb2.mono W1.out.size)⟩; have hg : w.heap.size ≤ g := Nat.le_trans W1.out.size hg1; have hq : w.heap.size ≤ q := Nat.le_trans W1.out.size hq1; clear hs hb2 W1 hg1 hq1))
  go_wp2_with fail
  go_loopw [5, 25] (fun _ i w' => ∃ k : Nat, k ≤ n ∧ i = .int .i64 k ∧ Ran w g q 4 P X k w') (fun _ i _ => n - (intOf i).toNat)
  case atStart => exact ⟨0, by omega, rfl, R2.out⟩
  case round =>
    clear R2
    obtain ⟨k, hk, rfl, hr⟩ := hrel
    have R3 := Lib.hid hr
    clear hr
    by_cases hlt : k < n
    · obtain ⟨b, o, rfl, hra, hok, hx0, hx1⟩ := HA.out k hlt
      have HR : Hid (∀ W, Below w.heap.size w W → W.rangeAt b (o + k * 9) ((P k).cs ++ [.int .i64 (X k)])) := fun W hW j v hv => (hW.cell (World.block_lt_of_cell? w _ (hra j v hv))).trans (hra j v hv)
      clear hra
      go_upto_region 7 with fail
      refine wp_region_held_drew (S := fun W => W.rangeAt b (o + k * 9) ((P k).cs ++ [.int .i64 (X k)])) (by kernel_rfl) ?_ (fun _ => ?_)
      · exact HR.out _ (below_drewN R3.out.be 1)
      have HS0 : Hid (wr.drew.rangeAt b (o + k * 9) ((P k).cs ++ [.int .i64 (X k)])) := HR.out _ (below_drewN R3.out.be 1)
      have R30 : Hid (Ran w g q 4 P X k wr.drew) := ⟨R3.out.at_, below_drewN R3.out.be 1⟩
      generalize wr.drew = x0 at *
      refine wpAnyH_take (i := 0) (oi := ⟨some 28, _, _, _, _, _⟩) (v := ?_) rfl (by kernel_rfl) (by kernel_rfl) (by kernel_rfl) (fun _ _ _ h => h) (Or.inl ⟨by rfl, ?_⟩) HS0.out ?_
      rotate_left
      · (intro W hSW; clear hSW; go_simp)
        first | done | (with_reducible rfl)
      try simp only [Act.put, List.setIfInBounds_toArray, List.set_cons_zero, List.set_cons_succ]
      refine wpAnyH_take (i := 1) (oi := ⟨some 29, _, _, _, _, _⟩) (v := ?_) rfl (by kernel_rfl) (by kernel_rfl) (by kernel_rfl) (fun _ _ _ h => h) (Or.inl ⟨by rfl, ?_⟩) HS0.out ?_
      rotate_left
      · (intro W hSW; clear hSW; go_simp)
        first | done | (with_reducible rfl)
      try simp only [Act.put, List.setIfInBounds_toArray, List.set_cons_zero, List.set_cons_succ]
      refine wpAnyH_take (i := 2) (oi := ⟨some 30, _, _, _, _, _⟩) (v := ?_) rfl (by kernel_rfl) (by kernel_rfl) (by kernel_rfl) (fun _ _ _ h => h) (Or.inl ⟨by rfl, ?_⟩) HS0.out ?_
      rotate_left
      · (intro W hSW; clear hSW; go_simp)
        first | done | (with_reducible rfl)
      try simp only [Act.put, List.setIfInBounds_toArray, List.set_cons_zero, List.set_cons_succ]
      refine wpAnyH_take (i := 3) (oi := ⟨some 31, _, _, _, _, _⟩) (v := ?_) rfl (by kernel_rfl) (by kernel_rfl) (by kernel_rfl) (fun _ _ _ h => h) (Or.inl ⟨by rfl, ?_⟩) HS0.out ?_
      rotate_left
      · (intro W hSW; clear hSW; go_simp)
        first | done | (with_reducible rfl)
      try simp only [Act.put, List.setIfInBounds_toArray, List.set_cons_zero, List.set_cons_succ]
      refine wpAnyH_take (i := 4) (oi := ⟨some 32, _, _, _, _, _⟩) (v := ?_) rfl (by kernel_rfl) (by kernel_rfl) (by kernel_rfl) (fun _ _ _ h => h) (Or.inl ⟨by rfl, ?_⟩) HS0.out ?_
      rotate_left
      · (intro W hSW; clear hSW; go_simp)
        first | done | (with_reducible rfl)
      try simp only [Act.put, List.setIfInBounds_toArray, List.set_cons_zero, List.set_cons_succ]
      refine wpAnyH_take (i := 5) (oi := ⟨some 33, _, _, _, _, _⟩) (v := .agg (P k).cs.toArray) rfl (by kernel_rfl) (by kernel_rfl) (by kernel_rfl) (fun _ _ _ h => h) (yields_pre (by rfl) (.tmp 32) rfl b (o + k * 9) rfl (P k) (fun _ h => seen_pre h)) HS0.out ?_
      try simp only [Act.put, List.setIfInBounds_toArray, List.set_cons_zero, List.set_cons_succ]
      refine wpAnyH_take (i := 6) (oi := ⟨some 34, _, _, _, _, _⟩) (v := ?_) rfl (by kernel_rfl) (by kernel_rfl) (by kernel_rfl) (fun _ _ _ h => h) (Or.inl ⟨by rfl, ?_⟩) HS0.out ?_
      rotate_left
      · (intro W hSW; clear hSW; go_simp)
        first | done | (with_reducible rfl)
      try simp only [Act.put, List.setIfInBounds_toArray, List.set_cons_zero, List.set_cons_succ]
      refine wpAnyH_take (i := 7) (oi := ⟨some 35, _, _, _, _, _⟩) (v := ?_) rfl (by kernel_rfl) (by kernel_rfl) (by kernel_rfl) (fun _ _ _ h => h) (Or.inl ⟨by rfl, ?_⟩) HS0.out ?_
      rotate_left
      · (intro W hSW; clear hSW; go_simp)
        first | done | (with_reducible rfl)
      try simp only [Act.put, List.setIfInBounds_toArray, List.set_cons_zero, List.set_cons_succ]
      refine wpAnyH_take (i := 8) (oi := ⟨some 36, _, _, _, _, _⟩) (v := ?_) rfl (by kernel_rfl) (by kernel_rfl) (by kernel_rfl) (fun _ _ _ h => h) (Or.inl ⟨by rfl, ?_⟩) HS0.out ?_
      rotate_left
      · (intro W hSW; clear hSW; go_simp)
        first | done | (with_reducible rfl)
      try simp only [Act.put, List.setIfInBounds_toArray, List.set_cons_zero, List.set_cons_succ]
      refine wpAnyH_take (i := 9) (oi := ⟨some 37, _, _, _, _, _⟩) (v := ?_) rfl (by kernel_rfl) (by kernel_rfl) (by kernel_rfl) (fun _ _ _ h => h) (Or.inl ⟨by rfl, ?_⟩) HS0.out ?_
      rotate_left
      · (intro W hSW; clear hSW; go_simp)
        first | done | (with_reducible rfl)
      try simp only [Act.put, List.setIfInBounds_toArray, List.set_cons_zero, List.set_cons_succ]
      refine wpAnyH_take (i := 10) (oi := ⟨some 38, _, _, _, _, _⟩) (v := .int .i64 (X k)) rfl (by kernel_rfl) (by kernel_rfl) (by kernel_rfl) (fun _ _ _ h => h) (Or.inl ⟨by rfl, ?_⟩) HS0.out ?_
      · (intro W hSW; have hc := seen_num hSW; clear hSW; go_simp)
      try simp only [Act.put, List.setIfInBounds_toArray, List.set_cons_zero, List.set_cons_succ]
      refine wpAnyH_ready (rs := [11]) (by kernel_rfl) (by simp) ?_
      refine AllReadyH.cons (o := ⟨some 39, _, _, _, _, _⟩) rfl (fun K hK => ?_) AllReadyH.nil
      go_simp
      refine (add_ g q 4 (ran 4 P X k) (tot X k) (P k) (X k) x0 R30.out.at_ hok).mono ?_
      rintro e x1 ⟨rfl, hs, hf⟩
      have R4 : Hid (Ran w g q 4 P X (k + 1) x1) := R30.out.next hs hf hg hq
      have HS1 : Hid (x1.rangeAt b (o + k * 9) ((P k).cs ++ [.int .i64 (X k)])) := HR.out _ R4.out.be
      clear hs hf
      go_simp
      refine hK.out _ _ ?_ (fun _ => ?_)
      · exact HS1.out
      clear hK K
      try simp only [Act.put, List.setIfInBounds_toArray, List.set_cons_zero, List.set_cons_succ]
      refine wpAnyH_done (by kernel_rfl) ?_ _
      go_wp2_with fail
      go_roundw
      case rel => exact ⟨k + 1, by omega, by go_num, R4.out⟩
      case measure => simp [intOf]; omega
    · obtain rfl : k = n := by omega
      have HO := Lib.hid R3.out.at_.oks
      obtain ⟨L, hL⟩ : ∃ L, ran 4 P X k = L := ⟨_, rfl⟩
      obtain ⟨T, hT⟩ : ∃ T, tot X k = T := ⟨_, rfl⟩
      obtain ⟨m, hm⟩ : ∃ m, L.length = m := ⟨_, rfl⟩
      have HL := Lib.hid hL
      have HT := Lib.hid hT
      have HM := Lib.hid hm
      have hm4 : m ≤ 4 := by rw [← hm, ← hL]; exact R3.out.at_.few.1
      rw [hL] at HO
      have CS := Lib.hid (fun W (h : SAt W g q 4 L T) => slots_ g q 4 L T W h)
      have HR3 := R3.out.at_
      rw [hL, hT] at HR3
      have S3 := Lib.hid HR3
      unfold RowOut at CS
      rw [hm] at CS
      clear hL hT hm HR3 HA
      go_upto_region 10 with (first | (go_at_call 11; (with_reducible refine (CS.out _ S3.out).mono ?_); rintro e w3 ⟨A1, c1, rfl, hb3, hr3⟩; have S4 := Lib.hid (S3.out.below hb3); have B3 := Lib.hid hb3; have RR3 := Lib.hid hr3; clear hb3 hr3 S3) | (go_at_call 11; (with_reducible refine (CS.out _ S4.out).mono ?_); rintro e w4 ⟨A2, c2, rfl, hb4, hr4⟩; have O4 : Hid (OwnRel w g q L T A1 c1 A2 c2 w4) := (by have hh := RR3.out; have hh2 := hr4; have hh3 := R3.out; rw [← HL.out] at hh hh2; have := own_start hh3 B3.out hh hb4 hh2; rw [HL.out, HT.out] at this; exact this); clear hb4 hr4 S4 B3 RR3))
      go_wp2_with fail
      go_loopw [8, 47] (fun _ i w' => ∃ j : Nat, j ≤ m ∧ i = .int .i64 j ∧ OwnRel w g q L T A1 c1 A2 c2 w') (fun _ i _ => m - (intOf i).toNat)
      case atStart => exact ⟨0, by omega, rfl, O4.out⟩
      case round =>
        clear O4 R3
        obtain ⟨j, hj, rfl, hr⟩ := hrel
        have O5 := Lib.hid hr
        clear hr
        by_cases hjl : j < m
        · obtain ⟨L', hl', hr'⟩ := O5.out.2.2.2.1
          obtain ⟨q1, rfl, hq1, hrw⟩ := hr'.at_ (k := j) (by rw [hl', HM.out]; exact hjl)
          have RW := Lib.hid hrw
          have HL' := Lib.hid hl'
          clear hr' hrw hl'
          go_wp2_with (first | (refine wpList_build rfl 32 [(1, .const (.int .i64 (-1)))] rfl [(1, .int .i64 (-1))] rfl (Slo.mk pre0 (-1) 0).cs (run_sloM _) ?_) | (refine wpList_put rfl 32 size32 (.tmp 53) (.tmp 52) rfl q1 j (Slo.mk pre0 (-1) 0) rfl rfl 32 c1 L' RW.out (by rw [HL'.out, HM.out]; exact hjl) ?_; intro w6 K6 F6; have O6 := Lib.hid (own_put O5.out hq1 (by rw [List.length_set]; exact HL'.out) K6.out F6.out)))
          go_roundw
          case rel => exact ⟨j + 1, by omega, by go_num, O6.out⟩
          case measure => simp [intOf]; omega
        · obtain rfl : j = m := by omega
          have S5 := Lib.hid O5.out.1
          have RY := Lib.hid O5.out.2.2.1
          have W5 := Lib.hid O5.out.2.1
          clear O5
          go_upto_region 16 with (go_at_call 11; (with_reducible refine (CS.out _ S5.out).mono ?_); rintro e w6 ⟨A3, c3, rfl, hb6, hr6⟩; have W6 : Hid (Below w.heap.size w w6) := W5.out.trans (hb6.mono W5.out.size); have Y6 := Lib.hid (RY.out.below hb6); have Z6 : Hid (RowAt 0 A3 c3 L w6) := hr6.imp id (fun ⟨q3, e, _, h⟩ => ⟨q3, e, Nat.zero_le _, h⟩); clear hb6 hr6)
          clear RY S5 W5 CS
          go_wp2_with fail
          go_loopw [10, 59] (fun _ i w' => ∃ k : Nat, k ≤ j ∧ i = .int .i64 k ∧ Below w.heap.size w w' ∧ RowAt w.heap.size A2 c2 L w' ∧ RowAt 0 A3 c3 L w') (fun _ i _ => j - (intOf i).toNat)
          case atStart => exact ⟨0, by omega, rfl, W6.out, Y6.out, Z6.out⟩
          case round =>
            clear W6 Y6 Z6
            obtain ⟨k, hk, rfl, h1, h2, h3⟩ := hrel
            have W7 := Lib.hid h1
            have Y7 := Lib.hid h2
            have Z7 := Lib.hid h3
            clear h1 h2 h3
            by_cases hlt : k < j
            · have hkL : k < L.length := by rw [HM.out]; exact hlt
              obtain ⟨q2, rfl, _, hy⟩ := Y7.out.at_ hkL
              obtain ⟨q3, rfl, _, hz⟩ := Z7.out.at_ hkL
              have HY := Lib.hid (hy.slot (at_some hkL))
              have HZ := Lib.hid (hz.slot (at_some hkL))
              have HE := Lib.hid (fun W => eq_slo32 (HO.out.at_ hkL) (HO.out.at_ hkL) W)
              rw [decide_eq_true (rfl : at_ L k = at_ L k)] at HE
              clear hy hz
              generalize at_ L k = s at *
              go_upto_region 19 with fail
              refine wp_region_held_drew (S := fun W => W.rangeAt q2 (k * 10) s.cs ∧ W.rangeAt q3 (k * 10) s.cs) (by kernel_rfl) ?_ (fun _ => ?_)
              · exact ⟨HY.out, HZ.out⟩
              have HS0 : Hid (wr.drew.rangeAt q2 (k * 10) s.cs ∧ wr.drew.rangeAt q3 (k * 10) s.cs) := ⟨HY.out, HZ.out⟩
              refine wpAnyH_take (i := 0) (oi := ⟨some 62, _, _, _, _, _⟩) (v := ?_) rfl (by kernel_rfl) (by kernel_rfl) (by kernel_rfl) (fun _ _ _ h => h) (Or.inl ⟨by rfl, ?_⟩) HS0.out ?_
              rotate_left
              · (intro W hSW; clear hSW; go_simp)
                first | done | (with_reducible rfl)
              try simp only [Act.put, List.setIfInBounds_toArray, List.set_cons_zero, List.set_cons_succ]
              refine wpAnyH_take (i := 1) (oi := ⟨some 63, _, _, _, _, _⟩) (v := ?_) rfl (by kernel_rfl) (by kernel_rfl) (by kernel_rfl) (fun _ _ _ h => h) (Or.inl ⟨by rfl, ?_⟩) HS0.out ?_
              rotate_left
              · (intro W hSW; clear hSW; go_simp)
                first | done | (with_reducible rfl)
              try simp only [Act.put, List.setIfInBounds_toArray, List.set_cons_zero, List.set_cons_succ]
              refine wpAnyH_take (i := 2) (oi := ⟨some 64, _, _, _, _, _⟩) (v := ?_) rfl (by kernel_rfl) (by kernel_rfl) (by kernel_rfl) (fun _ _ _ h => h) (Or.inl ⟨by rfl, ?_⟩) HS0.out ?_
              rotate_left
              · (intro W hSW; clear hSW; go_simp)
                first | done | (with_reducible rfl)
              try simp only [Act.put, List.setIfInBounds_toArray, List.set_cons_zero, List.set_cons_succ]
              refine wpAnyH_take (i := 3) (oi := ⟨some 65, _, _, _, _, _⟩) (v := .agg s.cs.toArray) rfl (by kernel_rfl) (by kernel_rfl) (by kernel_rfl) (fun _ _ _ h => h) (yields_slo32 (by rfl) (.tmp 64) rfl q2 (k * 10) rfl s (fun _ h => h.1)) HS0.out ?_
              try simp only [Act.put, List.setIfInBounds_toArray, List.set_cons_zero, List.set_cons_succ]
              refine wpAnyH_take (i := 4) (oi := ⟨some 66, _, _, _, _, _⟩) (v := ?_) rfl (by kernel_rfl) (by kernel_rfl) (by kernel_rfl) (fun _ _ _ h => h) (Or.inl ⟨by rfl, ?_⟩) HS0.out ?_
              rotate_left
              · (intro W hSW; clear hSW; go_simp)
                first | done | (with_reducible rfl)
              try simp only [Act.put, List.setIfInBounds_toArray, List.set_cons_zero, List.set_cons_succ]
              refine wpAnyH_take (i := 5) (oi := ⟨some 67, _, _, _, _, _⟩) (v := ?_) rfl (by kernel_rfl) (by kernel_rfl) (by kernel_rfl) (fun _ _ _ h => h) (Or.inl ⟨by rfl, ?_⟩) HS0.out ?_
              rotate_left
              · (intro W hSW; clear hSW; go_simp)
                first | done | (with_reducible rfl)
              try simp only [Act.put, List.setIfInBounds_toArray, List.set_cons_zero, List.set_cons_succ]
              refine wpAnyH_take (i := 6) (oi := ⟨some 68, _, _, _, _, _⟩) (v := ?_) rfl (by kernel_rfl) (by kernel_rfl) (by kernel_rfl) (fun _ _ _ h => h) (Or.inl ⟨by rfl, ?_⟩) HS0.out ?_
              rotate_left
              · (intro W hSW; clear hSW; go_simp)
                first | done | (with_reducible rfl)
              try simp only [Act.put, List.setIfInBounds_toArray, List.set_cons_zero, List.set_cons_succ]
              refine wpAnyH_take (i := 7) (oi := ⟨some 69, _, _, _, _, _⟩) (v := .agg s.cs.toArray) rfl (by kernel_rfl) (by kernel_rfl) (by kernel_rfl) (fun _ _ _ h => h) (yields_slo32 (by rfl) (.tmp 68) rfl q3 (k * 10) rfl s (fun _ h => h.2)) HS0.out ?_
              try simp only [Act.put, List.setIfInBounds_toArray, List.set_cons_zero, List.set_cons_succ]
              refine wpAnyH_take (i := 8) (oi := ⟨some 70, _, _, _, _, _⟩) (v := .bool (!true)) rfl (by kernel_rfl) (by kernel_rfl) (by kernel_rfl) (fun _ _ _ h => h) (yields_neq (by rfl) 32 (by kernel_rfl) (.tmp 65) (.tmp 69) 32 rfl s.cs.toArray s.cs.toArray (by rfl) (by rfl) true HE.out) HS0.out ?_
              try simp only [Act.put, List.setIfInBounds_toArray, List.set_cons_zero, List.set_cons_succ]
              refine wpAnyH_done (by kernel_rfl) ?_ _
              go_wp2_with fail
              go_roundw
              case rel => exact ⟨k + 1, by omega, by go_num, below_drewN W7.out 1, Y7.out.drewN 1, Z7.out.drewN 1⟩
              case measure => simp [intOf]; omega
            · go_wp2
              go_ret
              exact ⟨rfl, W7.out⟩
end Go.Proofs.Ytgmbkmlnoehomaa
