/- The walk of the law FramePrefixes: for any two flows it returns true and turns nothing that was there. -/
import Derived.Test.YtebpemknmcgamaaKeysWalk
namespace Go.Proofs.Ytebpemknmcgamaa
open Go.RowKit

/-- Are they of one version, and the first k bytes the same? -/
def alike (va vb : Bool) (s s' : List Int) (k : Nat) : Bool := (va == vb) && decide (s.take k = s'.take k)
theorem alike_next {va vb : Bool} {s s' : List Int} {k : Nat} (h : k < s.length) (h' : k < s'.length) : alike va vb s s' (k + 1) = (alike va vb s s' k && (s.getD k 0 == s'.getD k 0)) := by
  unfold alike
  rw [Bool.and_assoc]
  congr 1
  rw [Bool.eq_iff_iff]
  simp only [decide_eq_true_eq, Bool.and_eq_true, beq_iff_eq]
  rw [List.take_add_one, List.take_add_one, List.getElem?_eq_getElem h, List.getElem?_eq_getElem h', List.getD_eq_getElem?_getD, List.getD_eq_getElem?_getD, List.getElem?_eq_getElem h, List.getElem?_eq_getElem h']
  constructor
  · intro e
    obtain ⟨e1, e2⟩ := List.append_inj e (by simp; omega)
    exact ⟨e1, by simpa using e2⟩
  · rintro ⟨e1, e2⟩
    have e3 : s[k] = s'[k] := e2
    rw [e1, e3]
theorem alike_pre {va vb : Bool} {s s' : List Int} : decide (va = vb ∧ pre va s = pre vb s') = alike va vb s s' (if va then 7 else 3) := by
  unfold alike pre
  rw [Bool.eq_iff_iff]
  cases va <;> cases vb <;> simp

set_option maxRecDepth 100000 in
set_option maxHeartbeats 4000000 in
theorem prefixes_any (C : Prog) (va vb : Bool) (p p' : Int) (s d s' d' : List Int) (a b a' b' : Nat) (w : World) (hs : Sixteen s) (hd : Sixteen d) (os : Octs s) (od : Octs d) (hp : 0 ≤ p ∧ p ≤ 255) (ha : a ≤ 65535) (hb : b ≤ 65535)
    (hs' : Sixteen s') (hd' : Sixteen d') (os' : Octs s') (od' : Octs d') (hp' : 0 ≤ p' ∧ p' ≤ 255) (ha' : a' ≤ 65535) (hb' : b' ≤ 65535) :
    Calls Try.prog 7 #[.agg (flo va p s d a b).toArray, .agg (flo vb p' s' d' a' b').toArray] w fun e w' => e = .returned (.bool true) ∧ Below w.heap.size w w' := by
  have L1 : Hid (Blk ((w.alloc (.cells (flo va p s d a b).toArray 27)).alloc (.cells (flo vb p' s' d' a' b').toArray 27)) w.heap.size 27 (flo va p s d a b)) := (Blk.new w 27 _).alloc _
  have L2 : Hid (Blk ((w.alloc (.cells (flo va p s d a b).toArray 27)).alloc (.cells (flo vb p' s' d' a' b').toArray 27)) (w.heap.size + 1) 27 (flo vb p' s' d' a' b')) := by
    have := Blk.new (w.alloc (.cells (flo va p s d a b).toArray 27)) 27 (flo vb p' s' d' a' b')
    rwa [show (w.alloc (.cells (flo va p s d a b).toArray 27)).heap.size = w.heap.size + 1 by simp] at this
  have W1 : Hid (Below w.heap.size w ((w.alloc (.cells (flo va p s d a b).toArray 27)).alloc (.cells (flo vb p' s' d' a' b').toArray 27))) := ((Below.refl _ w).alloc (Nat.le_refl _) _).alloc (by simp) _
  have LF : Hid ((flo va p s d a b).length = 36) := flo_length hs hd
  have LG : Hid ((flo vb p' s' d' a' b').length = 36) := flo_length hs' hd'
  have CP := Lib.hid (fun W => C.pref va p s d a b W hs hd os od hp ha hb)
  have CQ := Lib.hid (fun W => C.pref vb p' s' d' a' b' W hs' hd' os' od' hp' ha' hb')
  have HE : Hid (∀ W, (Op.equalIn 10000 30 (.agg (prx va s).toArray) (.agg (prx vb s').toArray)).run Try.prog W = .ok (alike va vb s s' (if va then 7 else 3)) W) := fun W => by
    rw [← alike_pre]
    exact eq_prx hs os hs' os' W
  have CA := Lib.hid (awake_any C)
  have hl : s.length = 16 := hs
  have hl' : s'.length = 16 := hs'
  clear hs hd os od hp ha hb hs' hd' os' od' hp' ha' hb' C
  go_enter Try.func7, Try.ntmps7
  go_upto_region 1 with (fail)
  generalize ((w.alloc (.cells (flo va p s d a b).toArray 27)).alloc (.cells (flo vb p' s' d' a' b').toArray 27)) = w1 at *
  have c0 : w1.cell? ⟨w.heap.size, 0, none⟩ = some (.bool va) := (L1.out.cell 0).trans flo_0
  have d0 : w1.cell? ⟨w.heap.size + 1, 0, none⟩ = some (.bool vb) := (L2.out.cell 0).trans flo_0
  have ST : Hid ((va == vb) = alike va vb s s' 0) := by
    refine Lib.hid ?_
    unfold alike
    simp
  cases va
  · go_upto_region 5 with (fail)
    clear c0 d0
    go_wp2_with fail
    go_loopw [6, 7, 16] (fun o _ y w' => ∃ k : Nat, y = .int .i64 (k : Nat) ∧ o = .bool (alike false vb s s' k) ∧ k ≤ 3 ∧ Blk w' w.heap.size 27 (flo false p s d a b) ∧ Blk w' (w.heap.size + 1) 27 (flo vb p' s' d' a' b') ∧ Below w.heap.size w w') (fun _ _ y _ => 3 - (intOf y).toNat)
    case atStart => exact ⟨0, rfl, by rw [← ST.out]; cases vb <;> rfl, by omega, L1.out, L2.out, W1.out⟩
    case round =>
      obtain ⟨k, rfl, rfl, hk, h1, h2, h3⟩ := hrel
      clear L1 L2 W1 ST
      have L1 := Lib.hid h1
      have L2 := Lib.hid h2
      have W1 := Lib.hid h3
      clear h1 h2 h3
      obtain ⟨q, hq⟩ : ∃ q, alike false vb s s' k = q := ⟨_, rfl⟩
      rw [hq]
      by_cases hlt : k < 3
      · have hdn : decide ((k : Int) < 3) = true := by simp; omega
        have hk16 : k < 16 := by omega
        have ca : wr.cell? ⟨w.heap.size, 2 + k, none⟩ = some (.int .u8 (s.getD k 0)) := flo_src L1.out k _ (cel_at s k (by omega))
        have cb : wr.cell? ⟨w.heap.size + 1, 2 + k, none⟩ = some (.int .u8 (s'.getD k 0)) := flo_src L2.out k _ (cel_at s' k (by omega))
        have HN : Hid (alike false vb s s' (k + 1) = (q && (s.getD k 0 == s'.getD k 0))) := by rw [← hq]; exact alike_next (by omega) (by omega)
        clear hq
        generalize s.getD k 0 = x at *
        generalize s'.getD k 0 = y at *
        cases q
        · go_upto_region 8 with (fail)
          go_quiet (fail)
          go_wp2
          go_roundw
          case rel => exact ⟨k + 1, by go_num, by rw [HN.out]; rfl, by omega, L1.out, L2.out, below_drewN W1.out _⟩
          case measure => simp [intOf]; omega
        · go_upto_region 8 with (fail)
          go_quiet (fail)
          go_wp2
          go_roundw
          case rel => exact ⟨k + 1, by go_num, by rw [HN.out]; rfl, by omega, L1.out, L2.out, below_drewN W1.out _⟩
          case measure => simp [intOf]; omega
      · have hdn : decide ((k : Int) < 3) = false := by simp; omega
        have HQ : Hid (∀ W, (Op.equalIn 10000 30 (.agg (prx false s).toArray) (.agg (prx vb s').toArray)).run Try.prog W = .ok q W) := fun W => by
          rw [← hq, show k = 3 by omega]
          exact HE.out W
        clear HE hq
        go_upto_region 10 with (fail)
        refine wp_region_held_drew (S := fun W => Blk W w.heap.size 27 (flo false p s d a b) ∧ Blk W (w.heap.size + 1) 27 (flo vb p' s' d' a' b')) (by kernel_rfl) ?_ (fun _ => ?_)
        · exact ⟨L1.out, L2.out⟩
        refine wpAnyH_ready (rs := [0]) (by kernel_rfl) (by simp) ?_
        refine AllReadyH.cons (o := ⟨some 32, _, _, _, _, _⟩) rfl (fun K hK => ?_) AllReadyH.nil
        go_simp
        refine (CA.out _).mono ?_
        rintro e x1 ⟨rfl, hb⟩
        have HS0 : Hid (Blk x1 w.heap.size 27 (flo false p s d a b) ∧ Blk x1 (w.heap.size + 1) 27 (flo vb p' s' d' a' b')) := ⟨kept (w := wr.drew) L1.out hb, kept (w := wr.drew) L2.out hb⟩
        have V1 : Hid (Below w.heap.size w x1) := W1.out.drew.trans (hb.mono W1.out.size)
        clear hb
        go_simp
        refine hK.out _ _ ?_ (fun _ => ?_)
        · exact HS0.out
        clear hK K
        try simp only [Act.put, List.setIfInBounds_toArray, List.set_cons_zero, List.set_cons_succ]
        refine wpAnyH_take (i := 1) (oi := ⟨some 33, _, _, _, _, _⟩) (v := ?_) rfl (by kernel_rfl) (by kernel_rfl) (by kernel_rfl) (fun _ _ _ h => h) (Or.inl ⟨by rfl, ?_⟩) HS0.out ?_
        rotate_left
        · (intro W hSW; go_simp)
          first | done | (with_reducible rfl)
        try simp only [Act.put, List.setIfInBounds_toArray, List.set_cons_zero, List.set_cons_succ]
        refine wpAnyH_take (i := 2) (oi := ⟨some 34, _, _, _, _, _⟩) (v := .agg (flo false p s d a b).toArray) rfl (by kernel_rfl) (by kernel_rfl) (by kernel_rfl) (fun _ _ _ h => h) (yieldsIf_load_mid (by rfl) 27 (.tmp 2) rfl w.heap.size 0 rfl (flo false p s d a b) _ (fun _ hW => whole_at hW.1) Try.underlying27 rfl (by rw [LF.out]; exact sizeOfflow)) HS0.out ?_
        try simp only [Act.put, List.setIfInBounds_toArray, List.set_cons_zero, List.set_cons_succ]
        refine wpAnyH_take (i := 4) (oi := ⟨some 36, _, _, _, _, _⟩) (v := .agg (flo vb p' s' d' a' b').toArray) rfl (by kernel_rfl) (by kernel_rfl) (by kernel_rfl) (fun _ _ _ h => h) (yieldsIf_load_mid (by rfl) 27 (.tmp 3) rfl (w.heap.size + 1) 0 rfl (flo vb p' s' d' a' b') _ (fun _ hW => whole_at hW.2) Try.underlying27 rfl (by rw [LG.out]; exact sizeOfflow)) HS0.out ?_
        try simp only [Act.put, List.setIfInBounds_toArray, List.set_cons_zero, List.set_cons_succ]
        refine wpAnyH_take (i := 7) (oi := ⟨some 39, _, _, _, _, _⟩) (v := ?_) rfl (by kernel_rfl) (by kernel_rfl) (by kernel_rfl) (fun _ _ _ h => h) (Or.inl ⟨by rfl, ?_⟩) HS0.out ?_
        rotate_left
        · (intro W hSW; go_simp)
          first | done | (with_reducible rfl)
        try simp only [Act.put, List.setIfInBounds_toArray, List.set_cons_zero, List.set_cons_succ]
        refine wpAnyH_ready (rs := [3]) (by kernel_rfl) (by simp) ?_
        refine AllReadyH.cons (o := ⟨some 35, _, _, _, _, _⟩) rfl (fun K hK => ?_) AllReadyH.nil
        go_simp
        refine (CP.out _).mono ?_
        rintro e x2 ⟨rfl, hb⟩
        have HS1 : Hid (Blk x2 w.heap.size 27 (flo false p s d a b) ∧ Blk x2 (w.heap.size + 1) 27 (flo vb p' s' d' a' b')) := ⟨kept HS0.out.1 hb, kept HS0.out.2 hb⟩
        have V2 : Hid (Below w.heap.size w x2) := V1.out.trans (hb.mono V1.out.size)
        clear hb
        go_simp
        refine hK.out _ _ ?_ (fun _ => ?_)
        · exact HS1.out
        clear hK K
        try simp only [Act.put, List.setIfInBounds_toArray, List.set_cons_zero, List.set_cons_succ]
        refine wpAnyH_ready (rs := [5]) (by kernel_rfl) (by simp) ?_
        refine AllReadyH.cons (o := ⟨some 37, _, _, _, _, _⟩) rfl (fun K hK => ?_) AllReadyH.nil
        go_simp
        refine (CQ.out _).mono ?_
        rintro e x3 ⟨rfl, hb⟩
        have HS2 : Hid (Blk x3 w.heap.size 27 (flo false p s d a b) ∧ Blk x3 (w.heap.size + 1) 27 (flo vb p' s' d' a' b')) := ⟨kept HS1.out.1 hb, kept HS1.out.2 hb⟩
        have V3 : Hid (Below w.heap.size w x3) := V2.out.trans (hb.mono V2.out.size)
        clear hb
        go_simp
        refine hK.out _ _ ?_ (fun _ => ?_)
        · exact HS2.out
        clear hK K
        try simp only [Act.put, List.setIfInBounds_toArray, List.set_cons_zero, List.set_cons_succ]
        refine wpAnyH_take (i := 6) (oi := ⟨some 38, _, _, _, _, _⟩) (v := .bool q) rfl (by kernel_rfl) (by kernel_rfl) (by kernel_rfl) (fun _ _ _ h => h) (yields_eql (by rfl) 30 (by kernel_rfl) (.tmp 35) (.tmp 37) 30 rfl (prx false s).toArray (prx vb s').toArray (by rfl) (by rfl) q HQ.out) HS2.out ?_
        try simp only [Act.put, List.setIfInBounds_toArray, List.set_cons_zero, List.set_cons_succ]
        refine wpAnyH_take (i := 8) (oi := ⟨some 40, _, _, _, _, _⟩) (v := .bool true) rfl (by kernel_rfl) (by kernel_rfl) (by kernel_rfl) (fun _ _ _ h => h) (Or.inl ⟨by rfl, ?_⟩) HS2.out ?_
        · (intro W hSW; clear hSW; go_simp)
        try simp only [Act.put, List.setIfInBounds_toArray, List.set_cons_zero, List.set_cons_succ]
        refine wpAnyH_take (i := 9) (oi := ⟨some 41, _, _, _, _, _⟩) (v := ?_) rfl (by kernel_rfl) (by kernel_rfl) (by kernel_rfl) (fun _ _ _ h => h) (Or.inl ⟨by rfl, ?_⟩) HS2.out ?_
        rotate_left
        · (intro W hSW; go_simp)
          first | done | (with_reducible rfl)
        try simp only [Act.put, List.setIfInBounds_toArray, List.set_cons_zero, List.set_cons_succ]
        refine wpAnyH_take (i := 10) (oi := ⟨some 4, _, _, _, _, _⟩) (v := ?_) rfl (by kernel_rfl) (by kernel_rfl) (by kernel_rfl) (fun _ _ _ h => h) (Or.inl ⟨by rfl, ?_⟩) HS2.out ?_
        rotate_left
        · (intro W hSW; go_simp)
          first | done | (with_reducible rfl)
        try simp only [Act.put, List.setIfInBounds_toArray, List.set_cons_zero, List.set_cons_succ]
        refine wpAnyH_done (by kernel_rfl) ?_ _
        go_wp2
        go_ret
        exact ⟨rfl, V3.out⟩
  · go_upto_region 5 with (fail)
    clear c0 d0
    go_wp2_with fail
    go_loopw [6, 7, 16] (fun o _ y w' => ∃ k : Nat, y = .int .i64 (k : Nat) ∧ o = .bool (alike true vb s s' k) ∧ k ≤ 7 ∧ Blk w' w.heap.size 27 (flo true p s d a b) ∧ Blk w' (w.heap.size + 1) 27 (flo vb p' s' d' a' b') ∧ Below w.heap.size w w') (fun _ _ y _ => 7 - (intOf y).toNat)
    case atStart => exact ⟨0, rfl, by rw [← ST.out]; cases vb <;> rfl, by omega, L1.out, L2.out, W1.out⟩
    case round =>
      obtain ⟨k, rfl, rfl, hk, h1, h2, h3⟩ := hrel
      clear L1 L2 W1 ST
      have L1 := Lib.hid h1
      have L2 := Lib.hid h2
      have W1 := Lib.hid h3
      clear h1 h2 h3
      obtain ⟨q, hq⟩ : ∃ q, alike true vb s s' k = q := ⟨_, rfl⟩
      rw [hq]
      by_cases hlt : k < 7
      · have hdn : decide ((k : Int) < 7) = true := by simp; omega
        have hk16 : k < 16 := by omega
        have ca : wr.cell? ⟨w.heap.size, 2 + k, none⟩ = some (.int .u8 (s.getD k 0)) := flo_src L1.out k _ (cel_at s k (by omega))
        have cb : wr.cell? ⟨w.heap.size + 1, 2 + k, none⟩ = some (.int .u8 (s'.getD k 0)) := flo_src L2.out k _ (cel_at s' k (by omega))
        have HN : Hid (alike true vb s s' (k + 1) = (q && (s.getD k 0 == s'.getD k 0))) := by rw [← hq]; exact alike_next (by omega) (by omega)
        clear hq
        generalize s.getD k 0 = x at *
        generalize s'.getD k 0 = y at *
        cases q
        · go_upto_region 8 with (fail)
          go_quiet (fail)
          go_wp2
          go_roundw
          case rel => exact ⟨k + 1, by go_num, by rw [HN.out]; rfl, by omega, L1.out, L2.out, below_drewN W1.out _⟩
          case measure => simp [intOf]; omega
        · go_upto_region 8 with (fail)
          go_quiet (fail)
          go_wp2
          go_roundw
          case rel => exact ⟨k + 1, by go_num, by rw [HN.out]; rfl, by omega, L1.out, L2.out, below_drewN W1.out _⟩
          case measure => simp [intOf]; omega
      · have hdn : decide ((k : Int) < 7) = false := by simp; omega
        have HQ : Hid (∀ W, (Op.equalIn 10000 30 (.agg (prx true s).toArray) (.agg (prx vb s').toArray)).run Try.prog W = .ok q W) := fun W => by
          rw [← hq, show k = 7 by omega]
          exact HE.out W
        clear HE hq
        go_upto_region 10 with (fail)
        refine wp_region_held_drew (S := fun W => Blk W w.heap.size 27 (flo true p s d a b) ∧ Blk W (w.heap.size + 1) 27 (flo vb p' s' d' a' b')) (by kernel_rfl) ?_ (fun _ => ?_)
        · exact ⟨L1.out, L2.out⟩
        refine wpAnyH_ready (rs := [0]) (by kernel_rfl) (by simp) ?_
        refine AllReadyH.cons (o := ⟨some 32, _, _, _, _, _⟩) rfl (fun K hK => ?_) AllReadyH.nil
        go_simp
        refine (CA.out _).mono ?_
        rintro e x1 ⟨rfl, hb⟩
        have HS0 : Hid (Blk x1 w.heap.size 27 (flo true p s d a b) ∧ Blk x1 (w.heap.size + 1) 27 (flo vb p' s' d' a' b')) := ⟨kept (w := wr.drew) L1.out hb, kept (w := wr.drew) L2.out hb⟩
        have V1 : Hid (Below w.heap.size w x1) := W1.out.drew.trans (hb.mono W1.out.size)
        clear hb
        go_simp
        refine hK.out _ _ ?_ (fun _ => ?_)
        · exact HS0.out
        clear hK K
        try simp only [Act.put, List.setIfInBounds_toArray, List.set_cons_zero, List.set_cons_succ]
        refine wpAnyH_take (i := 1) (oi := ⟨some 33, _, _, _, _, _⟩) (v := ?_) rfl (by kernel_rfl) (by kernel_rfl) (by kernel_rfl) (fun _ _ _ h => h) (Or.inl ⟨by rfl, ?_⟩) HS0.out ?_
        rotate_left
        · (intro W hSW; go_simp)
          first | done | (with_reducible rfl)
        try simp only [Act.put, List.setIfInBounds_toArray, List.set_cons_zero, List.set_cons_succ]
        refine wpAnyH_take (i := 2) (oi := ⟨some 34, _, _, _, _, _⟩) (v := .agg (flo true p s d a b).toArray) rfl (by kernel_rfl) (by kernel_rfl) (by kernel_rfl) (fun _ _ _ h => h) (yieldsIf_load_mid (by rfl) 27 (.tmp 2) rfl w.heap.size 0 rfl (flo true p s d a b) _ (fun _ hW => whole_at hW.1) Try.underlying27 rfl (by rw [LF.out]; exact sizeOfflow)) HS0.out ?_
        try simp only [Act.put, List.setIfInBounds_toArray, List.set_cons_zero, List.set_cons_succ]
        refine wpAnyH_take (i := 4) (oi := ⟨some 36, _, _, _, _, _⟩) (v := .agg (flo vb p' s' d' a' b').toArray) rfl (by kernel_rfl) (by kernel_rfl) (by kernel_rfl) (fun _ _ _ h => h) (yieldsIf_load_mid (by rfl) 27 (.tmp 3) rfl (w.heap.size + 1) 0 rfl (flo vb p' s' d' a' b') _ (fun _ hW => whole_at hW.2) Try.underlying27 rfl (by rw [LG.out]; exact sizeOfflow)) HS0.out ?_
        try simp only [Act.put, List.setIfInBounds_toArray, List.set_cons_zero, List.set_cons_succ]
        refine wpAnyH_take (i := 7) (oi := ⟨some 39, _, _, _, _, _⟩) (v := ?_) rfl (by kernel_rfl) (by kernel_rfl) (by kernel_rfl) (fun _ _ _ h => h) (Or.inl ⟨by rfl, ?_⟩) HS0.out ?_
        rotate_left
        · (intro W hSW; go_simp)
          first | done | (with_reducible rfl)
        try simp only [Act.put, List.setIfInBounds_toArray, List.set_cons_zero, List.set_cons_succ]
        refine wpAnyH_ready (rs := [3]) (by kernel_rfl) (by simp) ?_
        refine AllReadyH.cons (o := ⟨some 35, _, _, _, _, _⟩) rfl (fun K hK => ?_) AllReadyH.nil
        go_simp
        refine (CP.out _).mono ?_
        rintro e x2 ⟨rfl, hb⟩
        have HS1 : Hid (Blk x2 w.heap.size 27 (flo true p s d a b) ∧ Blk x2 (w.heap.size + 1) 27 (flo vb p' s' d' a' b')) := ⟨kept HS0.out.1 hb, kept HS0.out.2 hb⟩
        have V2 : Hid (Below w.heap.size w x2) := V1.out.trans (hb.mono V1.out.size)
        clear hb
        go_simp
        refine hK.out _ _ ?_ (fun _ => ?_)
        · exact HS1.out
        clear hK K
        try simp only [Act.put, List.setIfInBounds_toArray, List.set_cons_zero, List.set_cons_succ]
        refine wpAnyH_ready (rs := [5]) (by kernel_rfl) (by simp) ?_
        refine AllReadyH.cons (o := ⟨some 37, _, _, _, _, _⟩) rfl (fun K hK => ?_) AllReadyH.nil
        go_simp
        refine (CQ.out _).mono ?_
        rintro e x3 ⟨rfl, hb⟩
        have HS2 : Hid (Blk x3 w.heap.size 27 (flo true p s d a b) ∧ Blk x3 (w.heap.size + 1) 27 (flo vb p' s' d' a' b')) := ⟨kept HS1.out.1 hb, kept HS1.out.2 hb⟩
        have V3 : Hid (Below w.heap.size w x3) := V2.out.trans (hb.mono V2.out.size)
        clear hb
        go_simp
        refine hK.out _ _ ?_ (fun _ => ?_)
        · exact HS2.out
        clear hK K
        try simp only [Act.put, List.setIfInBounds_toArray, List.set_cons_zero, List.set_cons_succ]
        refine wpAnyH_take (i := 6) (oi := ⟨some 38, _, _, _, _, _⟩) (v := .bool q) rfl (by kernel_rfl) (by kernel_rfl) (by kernel_rfl) (fun _ _ _ h => h) (yields_eql (by rfl) 30 (by kernel_rfl) (.tmp 35) (.tmp 37) 30 rfl (prx true s).toArray (prx vb s').toArray (by rfl) (by rfl) q HQ.out) HS2.out ?_
        try simp only [Act.put, List.setIfInBounds_toArray, List.set_cons_zero, List.set_cons_succ]
        refine wpAnyH_take (i := 8) (oi := ⟨some 40, _, _, _, _, _⟩) (v := .bool true) rfl (by kernel_rfl) (by kernel_rfl) (by kernel_rfl) (fun _ _ _ h => h) (Or.inl ⟨by rfl, ?_⟩) HS2.out ?_
        · (intro W hSW; clear hSW; go_simp)
        try simp only [Act.put, List.setIfInBounds_toArray, List.set_cons_zero, List.set_cons_succ]
        refine wpAnyH_take (i := 9) (oi := ⟨some 41, _, _, _, _, _⟩) (v := ?_) rfl (by kernel_rfl) (by kernel_rfl) (by kernel_rfl) (fun _ _ _ h => h) (Or.inl ⟨by rfl, ?_⟩) HS2.out ?_
        rotate_left
        · (intro W hSW; go_simp)
          first | done | (with_reducible rfl)
        try simp only [Act.put, List.setIfInBounds_toArray, List.set_cons_zero, List.set_cons_succ]
        refine wpAnyH_take (i := 10) (oi := ⟨some 4, _, _, _, _, _⟩) (v := ?_) rfl (by kernel_rfl) (by kernel_rfl) (by kernel_rfl) (fun _ _ _ h => h) (Or.inl ⟨by rfl, ?_⟩) HS2.out ?_
        rotate_left
        · (intro W hSW; go_simp)
          first | done | (with_reducible rfl)
        try simp only [Act.put, List.setIfInBounds_toArray, List.set_cons_zero, List.set_cons_succ]
        refine wpAnyH_done (by kernel_rfl) ?_ _
        go_wp2
        go_ret
        exact ⟨rfl, V3.out⟩
end Go.Proofs.Ytebpemknmcgamaa
