/- The walk of the law FrameApart: for any two frames it returns true and turns nothing that was there. -/
import Derived.Test.YtebpemknmcgamaaApart1
namespace Go.Proofs.Ytebpemknmcgamaa
open Go.RowKit

set_option maxHeartbeats 1000000 in
theorem apart_far1 (C : Prog) (A B : Option Addr) (n c m k : Nat) (w : World) (hn : 5000 < n) : Calls Try.prog 5 #[.slice A n c, .slice B m k] w fun e w' => e = .returned (.bool true) ∧ Below w.heap.size w w' := by
  have hd : decide ((5000 : Int) < (n : Int)) = true := by simp; omega
  have hd2 : decide (5000 < n) = true := by simpa using hn
  go_enter Try.func5, Try.ntmps5
  go_wp2_with fail
  refine (awake_any C _).mono ?_
  rintro e w1 ⟨rfl, hb⟩
  have HB := Lib.hid hb
  clear hb
  go_wp2_with fail
  refine (awake_any C _).mono ?_
  rintro e w2 ⟨rfl, hb⟩
  have HC := Lib.hid hb
  clear hb
  go_wp2
  go_ret
  exact ⟨rfl, HB.out.trans (HC.out.mono HB.out.size)⟩

set_option maxHeartbeats 1000000 in
theorem apart_far2 (C : Prog) (A B : Option Addr) (n c m k : Nat) (w : World) (hn : n ≤ 5000 ∧ 5000 < m) : Calls Try.prog 5 #[.slice A n c, .slice B m k] w fun e w' => e = .returned (.bool true) ∧ Below w.heap.size w w' := by
  have hd : decide ((5000 : Int) < (n : Int)) = false := by simp; omega
  have hd2 : decide (5000 < n) = false := by simp; omega
  have hdd : decide ((5000 : Int) < (m : Int)) = true := by simp; omega
  have hdd2 : decide (5000 < m) = true := by simp; omega
  go_enter Try.func5, Try.ntmps5
  go_wp2_with fail
  refine (awake_any C _).mono ?_
  rintro e w1 ⟨rfl, hb⟩
  have HB := Lib.hid hb
  clear hb
  go_wp2_with fail
  refine (awake_any C _).mono ?_
  rintro e w2 ⟨rfl, hb⟩
  have HC := Lib.hid hb
  clear hb
  go_wp2
  go_ret
  exact ⟨rfl, HB.out.trans (HC.out.mono HB.out.size)⟩

theorem apart_far (C : Prog) (A B : Option Addr) (n c m k : Nat) (w : World) (hn : 5000 < n ∨ 5000 < m) : Calls Try.prog 5 #[.slice A n c, .slice B m k] w fun e w' => e = .returned (.bool true) ∧ Below w.heap.size w w' := by
  by_cases h : 5000 < n
  · exact apart_far1 C A B n c m k w h
  · exact apart_far2 C A B n c m k w (by omega)

set_option maxRecDepth 100000 in
set_option maxHeartbeats 4000000 in
theorem apart_near (C : Prog) (A B : Option Addr) (n c m k : Nat) (bs ms : List Int) (w : World) (h : Byts w A n bs) (ho : Octs bs) (hc : n ≤ c) (h' : Byts w B m ms) (ho' : Octs ms) (hc' : m ≤ k) (hn : n ≤ 5000) (hm : m ≤ 5000) : Calls Try.prog 5 #[.slice A n c, .slice B m k] w fun e w' => e = .returned (.bool true) ∧ Below w.heap.size w w' := by
  have hd : decide ((5000 : Int) < (n : Int)) = false := by simp; omega
  have hd2 : decide (5000 < n) = false := by simp; omega
  have hdd : decide ((5000 : Int) < (m : Int)) = false := by simp; omega
  have hdd2 : decide (5000 < m) = false := by simp; omega
  obtain ⟨⟨P, r⟩, hP⟩ : ∃ R, pk bs = R := ⟨_, rfl⟩
  obtain ⟨⟨P', r'⟩, hP'⟩ : ∃ R, pk ms = R := ⟨_, rfl⟩
  have hbn := h.1
  have hbm := h'.1
  have HK := Lib.hid (pk_is ho hP).1
  have HK' := Lib.hid (pk_is ho' hP').1
  have LP := Lib.hid HK.out.length
  have LP' := Lib.hid HK'.out.length
  have H := Lib.hid h
  have HO := Lib.hid ho
  have H' := Lib.hid h'
  have HO' := Lib.hid ho'
  have HP := Lib.hid hP
  have HP' := Lib.hid hP'
  clear h ho hP h' ho' hP'
  go_enter Try.func5, Try.ntmps5
  go_upto_region 5 with (first | (go_at_call 9; (with_reducible refine (awake_any C _).mono ?_); rintro e x1 ⟨rfl, hb⟩; have W1 := Lib.hid hb; clear hb) | (go_at_call 10; (with_reducible refine (C.parse A n c r bs P _ (H.out.below W1.out) HO.out (by omega) hc HP.out).mono ?_); rintro e x2 ⟨rfl, hb⟩; have W2 : Hid (Below w.heap.size w x2) := W1.out.trans (hb.mono W1.out.size); clear hb) | (refine wpList_packet rfl (.tmp 5) (.tmp 25) rfl x2 P rfl rfl LP.out (one_all HK.out.each) ?_; intro x3 B3 hb; have W3 : Hid (Below w.heap.size w x3) := W2.out.trans (hb.out.mono W2.out.size); clear hb) | (go_at_call 10; (with_reducible refine (C.parse B m k r' ms P' _ (H'.out.below W3.out) HO'.out (by omega) hc' HP'.out).mono ?_); rintro e x4 ⟨rfl, hb⟩; have W4 : Hid (Below w.heap.size w x4) := W3.out.trans (hb.mono W3.out.size); have B4 := Lib.hid (kept B3.out hb); clear hb) | (refine wpList_packet rfl (.tmp 7) (.tmp 30) rfl x4 P' rfl rfl LP'.out (one_all HK'.out.each) ?_; intro x5 D5 hb; have W5 : Hid (Below w.heap.size w x5) := W4.out.trans (hb.out.mono W4.out.size); have B5 := Lib.hid (kept B4.out hb.out); clear hb))
  by_cases h0 : r = 0
  · subst h0
    by_cases h1 : r' = 0
    · subst h1
      obtain ⟨v, p, s, d, x, y, F1⟩ := pk_tells HO.out HP.out
      obtain ⟨v', p', s', d', x', y', F2⟩ := pk_tells HO'.out HP'.out
      rw [hbn] at F1
      rw [hbm] at F2
      obtain rfl := F1.eq
      obtain rfl := F2.eq
      have CK := Lib.hid (fun W => C.key v p s d x y W F1.s1 F1.s2 F1.o1 F1.o2 F1.hq F1.hx F1.hy)
      have CL := Lib.hid (fun W => C.key v' p' s' d' x' y' W F2.s1 F2.s2 F2.o1 F2.o2 F2.hq F2.hx F2.hy)
      have LF : Hid ((flo v p s d x y).length = 36) := flo_length F1.s1 F1.s2
      have LG : Hid ((flo v' p' s' d' x' y').length = 36) := flo_length F2.s1 F2.s2
      obtain ⟨q, hq⟩ : ∃ q, decide (v = v' ∧ p = p' ∧ s = s' ∧ d = d' ∧ x = x' ∧ y = y') = q := ⟨_, rfl⟩
      have HQ : Hid (∀ W, (Op.equalIn 10000 27 (.agg (flo v p s d x y).toArray) (.agg (flo v' p' s' d' x' y').toArray)).run Try.prog W = .ok q W) := fun W => by
        rw [← hq]
        exact eq_flo F1.s1 F1.s2 F1.o1 F1.o2 F1.hq F1.hx F1.hy F2.s1 F2.s2 F2.o1 F2.o2 F2.hq F2.hx F2.hy W
      have HT : Hid (((strOfNums (key v p s d x y)).toList == (strOfNums (key v' p' s' d' x' y')).toList) = q) := by
        rw [← hq]
        exact keys_same F1 F2
      clear F1 F2 hq HK HK' HP HP' C
      have hG : w.heap.size ≤ x2.heap.size := W2.out.size
      clear W1 W2 W3 W4 B3 B4
      generalize x2.heap.size = G at *
      generalize x4.heap.size = G2 at *
      go_upto_region 7 with (fail)
      refine wp_region_held_drew (S := fun W => Blk W G 32 (pak n v p s d x y) ∧ Blk W G2 32 (pak m v' p' s' d' x' y')) (by kernel_rfl) ?_ (fun _ => ?_)
      · exact ⟨B5.out, D5.out⟩
      have HS0 : Hid (Blk x5.drew G 32 (pak n v p s d x y) ∧ Blk x5.drew G2 32 (pak m v' p' s' d' x' y')) := ⟨B5.out, D5.out⟩
      refine wpAnyH_take (i := 0) (oi := ⟨some 38, _, _, _, _, _⟩) (v := ?_) rfl (by kernel_rfl) (by kernel_rfl) (by kernel_rfl) (fun _ _ _ h => h) (Or.inl ⟨by rfl, ?_⟩) HS0.out ?_
      rotate_left
      · (intro W hSW; go_simp)
        first | done | (with_reducible rfl)
      try simp only [Act.put, List.setIfInBounds_toArray, List.set_cons_zero, List.set_cons_succ]
      refine wpAnyH_take (i := 1) (oi := ⟨some 39, _, _, _, _, _⟩) (v := .agg (flo v p s d x y).toArray) rfl (by kernel_rfl) (by kernel_rfl) (by kernel_rfl) (fun _ _ _ h => h) (yieldsIf_load_mid (by rfl) 27 (.tmp 38) rfl G 1 rfl (flo v p s d x y) _ (fun _ hW => pak_flow hW.1) Try.underlying27 rfl (by rw [LF.out]; exact sizeOfflow)) HS0.out ?_
      try simp only [Act.put, List.setIfInBounds_toArray, List.set_cons_zero, List.set_cons_succ]
      refine wpAnyH_take (i := 4) (oi := ⟨some 42, _, _, _, _, _⟩) (v := ?_) rfl (by kernel_rfl) (by kernel_rfl) (by kernel_rfl) (fun _ _ _ h => h) (Or.inl ⟨by rfl, ?_⟩) HS0.out ?_
      rotate_left
      · (intro W hSW; go_simp)
        first | done | (with_reducible rfl)
      try simp only [Act.put, List.setIfInBounds_toArray, List.set_cons_zero, List.set_cons_succ]
      refine wpAnyH_take (i := 5) (oi := ⟨some 43, _, _, _, _, _⟩) (v := .agg (flo v' p' s' d' x' y').toArray) rfl (by kernel_rfl) (by kernel_rfl) (by kernel_rfl) (fun _ _ _ h => h) (yieldsIf_load_mid (by rfl) 27 (.tmp 42) rfl G2 1 rfl (flo v' p' s' d' x' y') _ (fun _ hW => pak_flow hW.2) Try.underlying27 rfl (by rw [LG.out]; exact sizeOfflow)) HS0.out ?_
      try simp only [Act.put, List.setIfInBounds_toArray, List.set_cons_zero, List.set_cons_succ]
      refine wpAnyH_take (i := 9) (oi := ⟨some 47, _, _, _, _, _⟩) (v := ?_) rfl (by kernel_rfl) (by kernel_rfl) (by kernel_rfl) (fun _ _ _ h => h) (Or.inl ⟨by rfl, ?_⟩) HS0.out ?_
      rotate_left
      · (intro W hSW; go_simp)
        first | done | (with_reducible rfl)
      try simp only [Act.put, List.setIfInBounds_toArray, List.set_cons_zero, List.set_cons_succ]
      refine wpAnyH_take (i := 10) (oi := ⟨some 48, _, _, _, _, _⟩) (v := .agg (flo v p s d x y).toArray) rfl (by kernel_rfl) (by kernel_rfl) (by kernel_rfl) (fun _ _ _ h => h) (yieldsIf_load_mid (by rfl) 27 (.tmp 47) rfl G 1 rfl (flo v p s d x y) _ (fun _ hW => pak_flow hW.1) Try.underlying27 rfl (by rw [LF.out]; exact sizeOfflow)) HS0.out ?_
      try simp only [Act.put, List.setIfInBounds_toArray, List.set_cons_zero, List.set_cons_succ]
      refine wpAnyH_take (i := 11) (oi := ⟨some 49, _, _, _, _, _⟩) (v := ?_) rfl (by kernel_rfl) (by kernel_rfl) (by kernel_rfl) (fun _ _ _ h => h) (Or.inl ⟨by rfl, ?_⟩) HS0.out ?_
      rotate_left
      · (intro W hSW; go_simp)
        first | done | (with_reducible rfl)
      try simp only [Act.put, List.setIfInBounds_toArray, List.set_cons_zero, List.set_cons_succ]
      refine wpAnyH_take (i := 12) (oi := ⟨some 50, _, _, _, _, _⟩) (v := .agg (flo v' p' s' d' x' y').toArray) rfl (by kernel_rfl) (by kernel_rfl) (by kernel_rfl) (fun _ _ _ h => h) (yieldsIf_load_mid (by rfl) 27 (.tmp 49) rfl G2 1 rfl (flo v' p' s' d' x' y') _ (fun _ hW => pak_flow hW.2) Try.underlying27 rfl (by rw [LG.out]; exact sizeOfflow)) HS0.out ?_
      try simp only [Act.put, List.setIfInBounds_toArray, List.set_cons_zero, List.set_cons_succ]
      refine wpAnyH_take (i := 13) (oi := ⟨some 51, _, _, _, _, _⟩) (v := .bool q) rfl (by kernel_rfl) (by kernel_rfl) (by kernel_rfl) (fun _ _ _ h => h) (yields_eql (by rfl) 27 (by kernel_rfl) (.tmp 48) (.tmp 50) 27 rfl (flo v p s d x y).toArray (flo v' p' s' d' x' y').toArray (by rfl) (by rfl) q HQ.out) HS0.out ?_
      try simp only [Act.put, List.setIfInBounds_toArray, List.set_cons_zero, List.set_cons_succ]
      refine wpAnyH_ready (rs := [2]) (by kernel_rfl) (by simp) ?_
      refine AllReadyH.cons (o := ⟨some 40, _, _, _, _, _⟩) rfl (fun K hK => ?_) AllReadyH.nil
      go_simp
      refine (CK.out _).mono ?_
      rintro e x6 ⟨A6, c6, rfl, hb, hy6⟩
      have HS1 : Hid (Blk x6 G 32 (pak n v p s d x y) ∧ Blk x6 G2 32 (pak m v' p' s' d' x' y')) := ⟨kept HS0.out.1 hb, kept HS0.out.2 hb⟩
      have V6 : Hid (Below w.heap.size w x6) := W5.out.drew.trans (hb.mono W5.out.size)
      have Y6 := Lib.hid hy6
      clear hb hy6
      go_simp
      refine hK.out _ _ ?_ (fun _ => ?_)
      · exact HS1.out
      clear hK K
      try simp only [Act.put, List.setIfInBounds_toArray, List.set_cons_zero, List.set_cons_succ]
      refine held_more (S' := fun W => Byts W A6 (key v p s d x y).length (key v p s d x y) ∧ Blk W G 32 (pak n v p s d x y) ∧ Blk W G2 32 (pak m v' p' s' d' x' y')) (fun _ h => h.2) _ _ _ _ ?_
      have HS2 : Hid (Byts x6 A6 (key v p s d x y).length (key v p s d x y) ∧ Blk x6 G 32 (pak n v p s d x y) ∧ Blk x6 G2 32 (pak m v' p' s' d' x' y')) := ⟨Y6.out, HS1.out.1, HS1.out.2⟩
      refine wpAnyH_take (i := 3) (oi := ⟨some 41, _, _, _, _, _⟩) (v := .string (strOfNums (key v p s d x y))) rfl (by kernel_rfl) (by kernel_rfl) (by kernel_rfl) (fun _ _ _ h => h) (Or.inl ⟨by rfl, ?_⟩) HS2.out ?_
      · intro W hSW
        have ht := run_text (P := Try.prog) W 22 5 9 A6 (key v p s d x y).length c6 (key v p s d x y) Try.underlying22 Try.underlying5 Try.underlying9 hSW.1
        clear hSW
        go_simp
      try simp only [Act.put, List.setIfInBounds_toArray, List.set_cons_zero, List.set_cons_succ]
      refine wpAnyH_ready (rs := [6]) (by kernel_rfl) (by simp) ?_
      refine AllReadyH.cons (o := ⟨some 44, _, _, _, _, _⟩) rfl (fun K hK => ?_) AllReadyH.nil
      go_simp
      refine (CL.out _).mono ?_
      rintro e x7 ⟨A7, c7, rfl, hb, hy7⟩
      have HS3 : Hid (Byts x7 A6 (key v p s d x y).length (key v p s d x y) ∧ Blk x7 G 32 (pak n v p s d x y) ∧ Blk x7 G2 32 (pak m v' p' s' d' x' y')) := ⟨HS2.out.1.below hb, kept HS2.out.2.1 hb, kept HS2.out.2.2 hb⟩
      have V7 : Hid (Below w.heap.size w x7) := V6.out.trans (hb.mono V6.out.size)
      have Y7 := Lib.hid hy7
      clear hb hy7
      go_simp
      refine hK.out _ _ ?_ (fun _ => ?_)
      · exact HS3.out
      clear hK K
      try simp only [Act.put, List.setIfInBounds_toArray, List.set_cons_zero, List.set_cons_succ]
      refine held_more (S' := fun W => Byts W A7 (key v' p' s' d' x' y').length (key v' p' s' d' x' y') ∧ Byts W A6 (key v p s d x y).length (key v p s d x y) ∧ Blk W G 32 (pak n v p s d x y) ∧ Blk W G2 32 (pak m v' p' s' d' x' y')) (fun _ h => h.2) _ _ _ _ ?_
      have HS4 : Hid (Byts x7 A7 (key v' p' s' d' x' y').length (key v' p' s' d' x' y') ∧ Byts x7 A6 (key v p s d x y).length (key v p s d x y) ∧ Blk x7 G 32 (pak n v p s d x y) ∧ Blk x7 G2 32 (pak m v' p' s' d' x' y')) := ⟨Y7.out, HS3.out⟩
      refine wpAnyH_take (i := 7) (oi := ⟨some 45, _, _, _, _, _⟩) (v := .string (strOfNums (key v' p' s' d' x' y'))) rfl (by kernel_rfl) (by kernel_rfl) (by kernel_rfl) (fun _ _ _ h => h) (Or.inl ⟨by rfl, ?_⟩) HS4.out ?_
      · intro W hSW
        have ht := run_text (P := Try.prog) W 22 5 9 A7 (key v' p' s' d' x' y').length c7 (key v' p' s' d' x' y') Try.underlying22 Try.underlying5 Try.underlying9 hSW.1
        clear hSW
        go_simp
      try simp only [Act.put, List.setIfInBounds_toArray, List.set_cons_zero, List.set_cons_succ]
      refine wpAnyH_take (i := 8) (oi := ⟨some 46, _, _, _, _, _⟩) (v := .bool q) rfl (by kernel_rfl) (by kernel_rfl) (by kernel_rfl) (fun _ _ _ h => h) (Or.inl ⟨by rfl, ?_⟩) HS4.out ?_
      · intro W hSW
        clear hSW
        have hT := HT.out
        generalize strOfNums (key v p s d x y) = t1 at *
        generalize strOfNums (key v' p' s' d' x' y') = t2 at *
        go_simp
      try simp only [Act.put, List.setIfInBounds_toArray, List.set_cons_zero, List.set_cons_succ]
      refine wpAnyH_take (i := 14) (oi := ⟨some 52, _, _, _, _, _⟩) (v := .bool true) rfl (by kernel_rfl) (by kernel_rfl) (by kernel_rfl) (fun _ _ _ h => h) (Or.inl ⟨by rfl, ?_⟩) HS4.out ?_
      · (intro W hSW; clear hSW; go_simp)
      try simp only [Act.put, List.setIfInBounds_toArray, List.set_cons_zero, List.set_cons_succ]
      refine wpAnyH_take (i := 15) (oi := ⟨some 4, _, _, _, _, _⟩) (v := ?_) rfl (by kernel_rfl) (by kernel_rfl) (by kernel_rfl) (fun _ _ _ h => h) (Or.inl ⟨by rfl, ?_⟩) HS4.out ?_
      rotate_left
      · (intro W hSW; go_simp)
        first | done | (with_reducible rfl)
      try simp only [Act.put, List.setIfInBounds_toArray, List.set_cons_zero, List.set_cons_succ]
      refine wpAnyH_done (by kernel_rfl) ?_ _
      go_wp2
      go_ret
      exact ⟨rfl, V7.out⟩
    · have hne : ((r' : Int) != 0) = true := by simp; omega
      go_wp2
      go_ret
      exact ⟨rfl, W5.out⟩
  · have hne : ((r : Int) != 0) = true := by simp; omega
    go_wp2
    go_ret
    exact ⟨rfl, W5.out⟩
end Go.Proofs.Ytebpemknmcgamaa
