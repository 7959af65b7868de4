/- The contract of the document's Prefix. Conditions: those of each theorem. -/
import Derived.Test.YtebpemknmcgamaaWords
namespace Go.Proofs.Ytebpemknmcgamaa
open Go.RowKit

theorem bool_each (v : Bool) (l : List Int) : ∀ u ∈ Value.bool v :: cel l, u.oneCell' = true := by
  intro u hu
  rcases List.mem_cons.1 hu with rfl | h
  · rfl
  · exact cel_one _ u h
/-- The first k of them. -/
def preK (v : Bool) (s : List Int) (k : Nat) : List Int := (pre v s).take k ++ List.replicate (7 - k) 0
theorem preK_length {v : Bool} {s : List Int} {k : Nat} (hs : Sixteen s) (hk : k ≤ 7) : (preK v s k).length = 7 := by
  simp [preK, pre_length hs]
  omega
theorem preK_all {v : Bool} {s : List Int} (hs : Sixteen s) : preK v s 7 = pre v s := by
  unfold preK
  rw [List.take_of_length_le (by rw [pre_length hs]; omega)]
  simp
theorem preK_set {v : Bool} {s : List Int} {k : Nat} (hs : Sixteen s) (hk : k < 7) : (preK v s k).set k ((pre v s).getD k 0) = preK v s (k + 1) := by
  have hl := pre_length (v := v) hs
  unfold preK
  rw [List.set_append_right _ _ (by simp; omega), show ((pre v s).take k).length = k by simp; omega, Nat.sub_self, show 7 - k = (7 - (k + 1)) + 1 by omega, List.replicate_succ, List.set_cons_zero, List.take_add_one, List.append_assoc, List.getElem?_eq_getElem (show k < (pre v s).length by omega), List.getD_eq_getElem?_getD, List.getElem?_eq_getElem (show k < (pre v s).length by omega)]
  rfl
theorem preK_same {v : Bool} {s : List Int} {k : Nat} (hs : Sixteen s) (hk : k < 7) (h0 : (pre v s).getD k 0 = 0) : preK v s k = preK v s (k + 1) := by
  rw [← preK_set hs hk, h0]
  have hl := preK_length (v := v) (k := k) hs (by omega)
  have e : (preK v s k).getD k 0 = 0 := by
    unfold preK
    rw [List.getD_eq_getElem?_getD, List.getElem?_append_right (by simp; omega)]
    simp [pre_length hs, List.getElem?_replicate]
    split <;> simp
  rw [List.getD_eq_getElem?_getD, List.getElem?_eq_getElem (by omega)] at e
  apply List.ext_getElem?
  intro j
  rw [List.getElem?_set]
  split
  · next hj =>
    subst hj
    rw [if_pos (by omega), List.getElem?_eq_getElem (by omega)]
    exact congrArg some e
  · rfl
theorem pre_at {v : Bool} {s : List Int} {k : Nat} (hk : k < 7) (h : k < 3 ∨ v = true) : (pre v s).getD k 0 = s.getD k 0 := by
  unfold pre
  cases v
  · have h3 : k < 3 := by simpa using h
    by_cases hl : k < s.length
    · rw [if_neg (by simp), List.getD_eq_getElem?_getD, List.getElem?_append_left (by simp; omega), List.getElem?_take_of_lt h3, List.getD_eq_getElem?_getD]
    · rw [if_neg (by simp), List.getD_eq_getElem?_getD, List.getElem?_append_right (by simp; omega), List.getD_eq_getElem?_getD, List.getElem?_eq_none (l := s) (by omega)]
      have : ∀ j : Nat, (([0, 0, 0, 0] : List Int)[j]?).getD 0 = 0 := fun j => by
        rcases j with _ | _ | _ | _ | j <;> simp
      rw [this]
      rfl
  · rw [if_pos rfl, List.getD_eq_getElem?_getD, List.getElem?_take_of_lt hk, List.getD_eq_getElem?_getD]
theorem pre_nought {s : List Int} {k : Nat} (hs : Sixteen s) (h : 3 ≤ k) : (pre false s).getD k 0 = 0 := by
  unfold Sixteen at hs
  unfold pre
  rw [if_neg (by simp), List.getD_eq_getElem?_getD, List.getElem?_append_right (by simp; omega)]
  have : ∀ j : Nat, (([0, 0, 0, 0] : List Int)[j]?).getD 0 = 0 := fun j => by
    rcases j with _ | _ | _ | _ | j <;> simp
  exact this _
theorem prK_set {v : Bool} {s : List Int} {k : Nat} {x : Int} : (Value.bool v :: cel (preK v s k)).set (1 + k) (.int .u8 x) = .bool v :: cel ((preK v s k).set k x) := by
  rw [Nat.add_comm, List.set_cons_succ]
  simp [cel, List.map_set]

set_option maxRecDepth 100000 in
set_option maxHeartbeats 2000000 in
theorem refPrefix_any (v : Bool) (p : Int) (s d : List Int) (a b : Nat) (w : World) (hs : Sixteen s) :
    Calls Try.prog 15 #[.agg (flo v p s d a b).toArray] w fun e w' => e = .returned (.agg (prx v s).toArray) ∧ Below w.heap.size w w' := by
  have L1 : Hid (Blk ((w.alloc (.cells (flo v p s d a b).toArray 27)).alloc (.cells #[.bool false, .int .u8 0, .int .u8 0, .int .u8 0, .int .u8 0, .int .u8 0, .int .u8 0, .int .u8 0] 30)) w.heap.size 27 (flo v p s d a b)) := (Blk.new w 27 _).alloc _
  have R1 : Hid (Blk ((w.alloc (.cells (flo v p s d a b).toArray 27)).alloc (.cells #[.bool false, .int .u8 0, .int .u8 0, .int .u8 0, .int .u8 0, .int .u8 0, .int .u8 0, .int .u8 0] 30)) (w.heap.size + 1) 30 (prx false zz)) := by
    have := Blk.new (w.alloc (.cells (flo v p s d a b).toArray 27)) 30 (prx false zz)
    rwa [show (w.alloc (.cells (flo v p s d a b).toArray 27)).heap.size = w.heap.size + 1 by simp] at this
  have W1 : Hid (Below w.heap.size w ((w.alloc (.cells (flo v p s d a b).toArray 27)).alloc (.cells #[.bool false, .int .u8 0, .int .u8 0, .int .u8 0, .int .u8 0, .int .u8 0, .int .u8 0, .int .u8 0] 30))) := ((Below.refl _ w).alloc (Nat.le_refl _) _).alloc (by simp) _
  have HS := Lib.hid hs
  clear hs
  go_enter Try.func15, Try.ntmps15
  go_upto_region 1 with (fail)
  generalize ((w.alloc (.cells (flo v p s d a b).toArray 27)).alloc (.cells #[.bool false, .int .u8 0, .int .u8 0, .int .u8 0, .int .u8 0, .int .u8 0, .int .u8 0, .int .u8 0] 30)) = w1 at *
  have c0 : w1.cell? ⟨w.heap.size, 0, none⟩ = some (.bool v) := (L1.out.cell 0).trans flo_0
  go_upto_region 2 with (refine wpList_prefix_ rfl (.tmp 3) (.tmp 7) rfl w1 (.bool v :: cel (List.replicate 7 0)) rfl rfl rfl (one_all (bool_each v _)) ?_; intro w2 P2 hb2; have W2 : Hid (Below w.heap.size w w2) := W1.out.trans (hb2.out.mono W1.out.size); have L2 := Lib.hid (L1.out.far (Far.of_below hb2.out nobody) (fun e => e)); have R2 := Lib.hid (R1.out.far (Far.of_below hb2.out nobody) (fun e => e)); clear hb2)
  have hg1 : w.heap.size + 2 ≤ w1.heap.size := by have := R1.out.lt; omega
  clear c0 L1 R1
  obtain ⟨G, hG⟩ : ∃ G, w1.heap.size = G := ⟨_, rfl⟩
  rw [hG] at P2 hg1 ⊢
  clear W1 hG
  go_wp2_with fail
  go_loopw [4, 8] (fun _ y w' => ∃ k : Nat, y = .int .i64 (k : Nat) ∧ k ≤ 7 ∧ Blk w' G 30 (.bool v :: cel (preK v s k)) ∧ Blk w' w.heap.size 27 (flo v p s d a b) ∧ Blk w' (w.heap.size + 1) 30 (prx false zz) ∧ Below w.heap.size w w') (fun _ y _ => 7 - (intOf y).toNat)
  case atStart => exact ⟨0, rfl, by omega, P2.out, L2.out, R2.out, W2.out⟩
  case round =>
    obtain ⟨k, rfl, hk7, hP, hL, hR, hW⟩ := hrel
    clear P2 L2 R2 W2
    have HP := Lib.hid hP
    have HL := Lib.hid hL
    have HR := Lib.hid hR
    have HW := Lib.hid hW
    clear hP hL hR hW
    by_cases hlt : k < 7
    · have hd7 : decide ((k : Int) < 7) = true := by simp; omega
      have cs : wr.cell? ⟨w.heap.size, 2 + k, none⟩ = some (.int .u8 (s.getD k 0)) := flo_src HL.out k _ (cel_at s k (by have := HS.out; unfold Sixteen at this; omega))
      have c0 : wr.cell? ⟨w.heap.size, 0, none⟩ = some (.bool v) := (HL.out.cell 0).trans flo_0
      obtain ⟨u, cp⟩ : ∃ u, wr.cell? ⟨G, 1 + k, none⟩ = some u := ⟨_, (HP.out.cell (1 + k)).trans (List.getElem?_eq_getElem (by rw [List.length_cons, cel_length, preK_length HS.out hk7]; omega))⟩
      have fp := HP.out.frozen (1 + k)
      by_cases h3 : k < 3
      · have hd3 : decide ((k : Int) < 3) = true := by simp; omega
        have HN : Hid (Blk (wr.setCell ⟨G, 1 + k, none⟩ (.int .u8 (s.getD k 0))) G 30 (.bool v :: cel (preK v s (k + 1)))) := by
          have := HP.out.set_ (1 + k) (.int .u8 (s.getD k 0))
          rw [prK_set, ← pre_at (v := v) hlt (.inl h3), preK_set HS.out hlt, pre_at (v := v) hlt (.inl h3)] at this
          exact this
        have HLN : Hid (Blk (wr.setCell ⟨G, 1 + k, none⟩ (.int .u8 (s.getD k 0))) w.heap.size 27 (flo v p s d a b)) := HL.out.other (p := ⟨G, 1 + k, none⟩) (by show w.heap.size ≠ G; omega) _
        have HRN : Hid (Blk (wr.setCell ⟨G, 1 + k, none⟩ (.int .u8 (s.getD k 0))) (w.heap.size + 1) 30 (prx false zz)) := HR.out.other (p := ⟨G, 1 + k, none⟩) (by show w.heap.size + 1 ≠ G; omega) _
        have HWN : Hid (Below w.heap.size w (wr.setCell ⟨G, 1 + k, none⟩ (.int .u8 (s.getD k 0)))) := HW.out.setCell (p := ⟨G, 1 + k, none⟩) (by show w.heap.size ≤ G; omega) _
        have hk16 : k < 16 := by omega
        generalize s.getD k 0 = x at *
        go_wp2
        go_roundw
        case rel => exact ⟨k + 1, by go_num, by omega, HN.out, HLN.out, HRN.out, HWN.out⟩
        case measure => simp [intOf]; omega
      · have hd3 : decide ((k : Int) < 3) = false := by simp; omega
        cases v
        · have HN : Hid (Blk wr G 30 (.bool false :: cel (preK false s (k + 1)))) := by
            have := HP.out
            rw [preK_same HS.out hlt (pre_nought HS.out (by omega))] at this
            exact this
          go_wp2
          go_roundw
          case rel => exact ⟨k + 1, by go_num, by omega, HN.out, HL.out, HR.out, HW.out⟩
          case measure => simp [intOf]; omega
        · skip
          have HN : Hid (Blk (wr.setCell ⟨G, 1 + k, none⟩ (.int .u8 (s.getD k 0))) G 30 (.bool true :: cel (preK true s (k + 1)))) := by
            have := HP.out.set_ (1 + k) (.int .u8 (s.getD k 0))
            rw [prK_set, ← pre_at (v := true) hlt (.inr rfl), preK_set HS.out hlt, pre_at (v := true) hlt (.inr rfl)] at this
            exact this
          have HLN : Hid (Blk (wr.setCell ⟨G, 1 + k, none⟩ (.int .u8 (s.getD k 0))) w.heap.size 27 (flo true p s d a b)) := HL.out.other (p := ⟨G, 1 + k, none⟩) (by show w.heap.size ≠ G; omega) _
          have HRN : Hid (Blk (wr.setCell ⟨G, 1 + k, none⟩ (.int .u8 (s.getD k 0))) (w.heap.size + 1) 30 (prx false zz)) := HR.out.other (p := ⟨G, 1 + k, none⟩) (by show w.heap.size + 1 ≠ G; omega) _
          have HWN : Hid (Below w.heap.size w (wr.setCell ⟨G, 1 + k, none⟩ (.int .u8 (s.getD k 0)))) := HW.out.setCell (p := ⟨G, 1 + k, none⟩) (by show w.heap.size ≤ G; omega) _
          have hk16 : k < 16 := by omega
          generalize s.getD k 0 = x at *
          go_wp2
          go_roundw
          case rel => exact ⟨k + 1, by go_num, by omega, HN.out, HLN.out, HRN.out, HWN.out⟩
          case measure => simp [intOf]; omega
    · have hd7 : decide ((k : Int) < 7) = false := by simp; omega
      have HK : Hid (Blk wr G 30 (prx v s)) := by
        have := HP.out
        rw [show k = 7 by omega, preK_all HS.out] at this
        exact this
      have LP : Hid ((prx v s).length = 8) := prx_length HS.out
      go_wp2_with (first | (refine wpList_whole_prefix (by rfl) (.tmp 3) rfl G rfl (prx v s) HK.out LP.out ?_) | (refine wpList_lay rfl 30 8 sizeOfprefix_ (.tmp 2) (.tmp 25) rfl (w.heap.size + 1) (prx v s) rfl rfl 30 (prx false zz) HR.out rfl LP.out (one_all prx_each) ?_; intro wf BF FF))
      refine bodyPost_ret (v := .agg (prx v s).toArray) (by simp [results, Try.results15, asAddr, Act.put, load_prefix BF.out LP.out]) rfl ⟨rfl, below_only HW.out FF.out (by omega) HW.out.size⟩
end Go.Proofs.Ytebpemknmcgamaa
