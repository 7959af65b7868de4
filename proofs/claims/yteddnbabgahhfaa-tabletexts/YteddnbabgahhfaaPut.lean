/- The contract of the document's Put. Conditions: those of each theorem. -/
import Derived.Test.YteddnbabgahhfaaPres
namespace Go.Proofs.Yteddnbabgahhfaa
open Go.RowKit

/-- What the document's Put answers. -/
def PRes (A0 : Option Addr) (L : List Ent) (b : Bool) (w : World) (e : Ending) (w' : World) : Prop :=
  ∃ A c, e = .returned (.tuple #[.slice A L.length c, .bool b]) ∧ L.length ≤ c ∧ Els kEnt w' A L ∧ Below w.heap.size w w' ∧ Frm A0 w w' A
theorem run_bent (p : Pre) (v : Int) (w : World) : (Instr.build 43 #[(0, .agg p.cs.toArray), (1, .int .i64 v)]).run Try.prog w = .ok (.agg (Ent.mk p v).cs.toArray) w := run_build w 43 _ _ (by kernel_rfl)
/-- An own row's block. -/
theorem Ow.blk {α : Type} {K : Kin α} {e : TypeId} {base b : Nat} {v : Value} {L : List α} {w : World} (h : Ow K e base v L w) (hb : v.ownBlock = some b) : ∃ q c R, v = .slice (some ⟨q, 0, none⟩) L.length c ∧ base ≤ q ∧ L.length ≤ c ∧ Blk w q e (K.flat L ++ R) := by
  rcases h.2 with ⟨rfl, _⟩ | ⟨g, cap, cur, rfl, hb, hg, hc, _, _, ht⟩
  · simp [Value.ownBlock] at hb
  · refine ⟨g, cap, cur.toList.drop (L.length * K.n), rfl, hb, hc, ?_⟩
    unfold Blk
    rw [hg, ← ht, List.take_append_drop]
theorem flat_num {L : List Ent} {R : List Value} {k : Nat} {x : Int} (h : k < L.length) : (kEnt.flat L ++ R).set (k * 9 + 8) (.int .i64 x) = kEnt.flat (L.set k ⟨(at_ L k).p, x⟩) ++ R := by
  have hk := at_some h
  have hl : (kEnt.flat L).length = L.length * 9 := kEnt.flat_length L
  rw [List.set_append_left _ _ (by omega)]
  congr 1
  have hls : (kEnt.flat (L.take k)).length = k * 9 := Kin.take_len (K := kEnt) (L := L) (k := k) (by omega)
  have e1 : (L.set k ⟨(at_ L k).p, x⟩)[k]? = some (⟨(at_ L k).p, x⟩ : Ent) := by simp [h]
  rw [Kin.flat_split hk, Kin.flat_split e1, List.set_append_right _ _ (by omega), hls, show k * 9 + 8 - k * 9 = 8 by omega]
  have e2 : (L.set k ⟨(at_ L k).p, x⟩).take k = L.take k := by
    apply List.ext_getElem?
    intro i
    simp only [List.getElem?_take, List.getElem?_set]
    split
    · rw [if_neg (by omega)]
    · rfl
  have e3 : (L.set k ⟨(at_ L k).p, x⟩).drop (k + 1) = L.drop (k + 1) := by
    apply List.ext_getElem?
    intro i
    simp only [List.getElem?_drop, List.getElem?_set]
    rw [if_neg (by omega)]
  rw [e2, e3]
  rfl
theorem Els.blk {L : List Ent} {R : List Value} {w : World} {q : Nat} {t : TypeId} (h : Blk w q t (kEnt.flat L ++ R)) : Els kEnt w (some ⟨q, 0, none⟩) L :=
  Els.of_flat fun j u hj => by
    rw [Nat.zero_add, h.cell, List.getElem?_append_left (List.getElem?_eq_some_iff.1 hj).1]
    exact hj
set_option maxHeartbeats 4000000 in
theorem put_ (A : Option Addr) (c : Nat) (L : List Ent) (r v : Int) (p : Pre) (w : World) (h : Els kEnt w A L) (ho : Oks L) (hp : p.Ok) (hc : L.length ≤ c) (hl : L.length ≤ 1000) : Calls Try.prog 15 #[.slice A L.length c, .int .i64 r, .agg p.cs.toArray, .int .i64 v] w (PRes A (put L r p v) (may L r p) w) := by
  have n3 : Below w.heap.size w (w.alloc (.cells p.cs.toArray 31)) := (Below.refl _ w).alloc (Nat.le_refl _) _
  have P1 := Lib.hid (Blk.new w 31 p.cs)
  have W1 := Lib.hid n3
  have H := Lib.hid (fun W (hW : Below w.heap.size w W) => h.below hW)
  have HF := Lib.hid (fun W (hW : Below w.heap.size w W) => find_ A c L p W (h.below hW) ho hp (by omega))
  have hxs : w.heap.size + 1 ≤ (w.alloc (.cells p.cs.toArray 31)).heap.size := P1.out.lt
  have hb2 : Below w.heap.size w ((w.alloc (.cells p.cs.toArray 31)).alloc (.cells #[] 43)) := n3.alloc n3.size _
  have O2 : Ow kEnt 43 (w.heap.size + 1) (.slice (some ⟨(w.alloc (.cells p.cs.toArray 31)).heap.size, 0, none⟩) 0 0) [] ((w.alloc (.cells p.cs.toArray 31)).alloc (.cells #[] 43)) := Ow.new _ hxs
  obtain ⟨v3, w3, hrun, o3, g3, b3⟩ := run_app (P := Try.prog) (R := L) ((w.alloc (.cells p.cs.toArray 31)).alloc (.cells #[] 43)) 36 36 (.agg ent0.cs.toArray) 16 Try.underlying36 info43 rfl (by decide) O2 (H.out _ hb2) c (by simp; omega) (by simp)
  have P3 : Hid (Blk w3 w.heap.size 31 p.cs) := (P1.out.alloc _).grown g3 (by simp [Value.ownBlock])
  have W3 : Hid (Below w.heap.size w w3) := hb2.trans ((Far.grown (S := fun k => w.heap.size < k) (Far.refl _ _) g3 (fun k hk _ => by have := (O2.lt k hk).1; omega)).below hb2.size (fun k hk e => by omega))
  obtain ⟨b0, hb0⟩ : ∃ b0, v3.ownBlock = some b0 := by rcases b3 with b3 | b3 <;> exact ⟨_, b3⟩
  obtain ⟨q3, c3, R3, rfl, hq3, hc3, o4⟩ := Ow.blk o3 hb0
  have O3 : Hid (Blk w3 q3 43 (kEnt.flat L ++ R3)) := o4
  have hrun : (Builtin.append_ #[36, 36] 36 #[.slice (some ⟨(w.alloc (.cells p.cs.toArray 31)).heap.size, 0, none⟩) 0 0, .slice A L.length c]).run Try.prog ((w.alloc (.cells p.cs.toArray 31)).alloc (.cells #[] 43)) = .ok (.slice (some ⟨q3, 0, none⟩) L.length c3) w3 := hrun
  have hc3 : L.length ≤ c3 := hc3
  have HO := Lib.hid ho
  have HP := Lib.hid hp
  have hcL := hc
  obtain ⟨n, hn⟩ : ∃ n, L.length = n := ⟨_, rfl⟩
  have HN := Lib.hid hn
  rw [hn] at hl hc hc3 HF hrun ⊢
  clear n3 hxs hb2 O2 o3 g3 b3 hb0 o4 h ho hp
  rcases hh : has L p with _ | _
  · rw [fnd_not hh] at HF
    have HH := Lib.hid hh
    by_cases hrm : r ≤ (n : Int)
    · have HV : Hid (∀ W, Below w.heap.size w W → PRes A (put L r p v) (may L r p) w (.returned (.tuple #[.slice A n c, .bool false])) W) := fun W hW => by
        have e : put L r p v = L := put_full hh (by rw [hn]; exact hrm)
        have e2 : may L r p = false := by simp [may, hh, hn]; omega
        rw [e, e2]
        exact ⟨A, c, by rw [hn], hcL, H.out _ hW, hW, .inl rfl⟩
      have hd : decide (r ≤ (n : Int)) = true := by simp; omega
      clear hh hrm hn hcL
      go_enter Try.func15, Try.ntmps15
      go_upto_region 1 with fail
      generalize (w.alloc (.cells p.cs.toArray 31)) = x at *
      go_upto_region 3 with (first | (at_builtin; refine wpList_app rfl 36 (.tmp 13) (.tmp 14) rfl _ _ _ rfl rfl hrun ?_; clear hrun) | (refine wpList_pre (by rfl) (.tmp 6) rfl _ _ rfl p (whole_at P3.out) ?_) | (go_at_call 13; (with_reducible refine (HF.out _ W3.out).mono ?_); rintro e w4 ⟨rfl, hb4⟩; have W4 := Lib.hid (W3.out.trans (hb4.mono W3.out.size)); have P4 := Lib.hid (P3.out.below hb4); have O4 := Lib.hid (O3.out.below hb4); clear hb4))
      clear P3 O3 HF

      go_wp2_with fail
      refine bodyPost_ret (v := .tuple #[.slice A n c, .bool false]) (by simp [results, Try.results15]) rfl (HV.out _ W4.out)
    · have hd : decide (r ≤ (n : Int)) = false := by simp; omega
      have HPLC := Lib.hid (plc_le (L := L) (p := p))
      have HMAY : Hid (may L r p = true) := by show _ = _; simp [may, hn]; right; omega
      have HPT : Hid (put L r p v = ins L (plc L p) ⟨p, v⟩) := put_room hh (by rw [hn]; exact hrm)
      clear hh hrm hn
      go_enter Try.func15, Try.ntmps15
      go_upto_region 1 with fail
      generalize (w.alloc (.cells p.cs.toArray 31)) = x at *
      go_upto_region 3 with (first | (at_builtin; refine wpList_app rfl 36 (.tmp 13) (.tmp 14) rfl _ _ _ rfl rfl hrun ?_; clear hrun) | (refine wpList_pre (by rfl) (.tmp 6) rfl _ _ rfl p (whole_at P3.out) ?_) | (go_at_call 13; (with_reducible refine (HF.out _ W3.out).mono ?_); rintro e w4 ⟨rfl, hb4⟩; have W4 := Lib.hid (W3.out.trans (hb4.mono W3.out.size)); have P4 := Lib.hid (P3.out.below hb4); have O4 := Lib.hid (O3.out.below hb4); clear hb4))
      clear P3 O3 HF

      have E4 := Lib.hid (fun W (hW : Below w4.heap.size w4 W) => (Els.blk O4.out).below hW)
      have HLS := Lib.hid (fun k W => less_ (at_ L k).p p W)
      clear O4
      go_upto_region 9 with fail
      go_loopw [12] (fun i w' => ∃ k : Nat, k ≤ plc L p ∧ i = .int .i64 k ∧ Below w4.heap.size w4 w') (fun i _ => n - (intOf i).toNat)
      case atStart => exact ⟨0, by omega, rfl, Below.refl _ _⟩
      case round =>
        obtain ⟨k, hk, rfl, hbe⟩ := hrel
        have hkn : k ≤ n := by have := HPLC.out; have := HN.out; omega
        have HS1_ := Lib.hid (fun W => run_full36 (A := some ⟨q3, 0, none⟩) (n := n) (c := c3) (k := k) W (by omega))
        have HS2 := Lib.hid (fun W => run_from36 (A := A) (n := n) (c := c) (k := k) W (by omega))
        have HZ := Lib.hid (fun W (hW : Els kEnt W A L) => hW.from_ (k := k) (cap := c) hcL)
        generalize hzz : (if c = k then A else A.map (·.add (k * 9))) = Z at HS2
        have HZ2 : Hid (∀ W, Els kEnt W A L → Els kEnt W Z (L.drop k)) := hzz ▸ HZ
        clear hzz HZ
        have W5 : Hid (Below w4.heap.size w4 wr.drew) := Below.drew hbe
        clear hbe
        by_cases hlt : k < n
        · have hkL : k < L.length := by rw [HN.out]; exact hlt
          obtain ⟨q, o, hA, hs0⟩ := H.out _ W4.out k _ (at_some hkL)
          subst hA
          have hs1 : w4.rangeAt q (o + k * 9) (at_ L k).cs := hs0
          have HS : Hid (∀ W, Below w4.heap.size w4 W → W.rangeAt q (o + k * 9) (at_ L k).cs) := fun W hW => range_below hs1 (Nat.le_refl _) hW
          have HLS := Lib.hid (HLS.out k)
          clear hs0 hs1
          rcases hd2 : ltP (at_ L k).p p with _ | _
          · have hkp : k = plc L p := by
              rcases Nat.lt_or_ge k (plc L p) with h1 | h1
              · have := plc_not h1
                rw [hd2] at this
                cases this
              · omega
            have HPUT : Hid (([] ++ (L.take k ++ [Ent.mk p v])) ++ L.drop k = put L r p v) := by show _ = _; rw [HPT.out, ← hkp]; rfl
            have HPUT : Hid ((L.take k ++ [Ent.mk p v]) ++ L.drop k = put L r p v) := HPUT.out
            rw [hd2] at HLS
            clear hkp hd2 hkL
            go_upto_region 9 with fail
            refine wp_region_held_drew (S := fun W => W.rangeAt q (o + k * 9) (at_ L k).cs ∧ Blk W w.heap.size 31 p.cs) (by kernel_rfl) ?_ (fun _ => ?_)
            · exact ⟨HS.out _ W5.out, P4.out.below W5.out⟩
            have HS0 : Hid (wr.drew.rangeAt q (o + k * 9) (at_ L k).cs ∧ Blk wr.drew w.heap.size 31 p.cs) := ⟨HS.out _ W5.out, P4.out.below W5.out⟩
            refine wpAnyH_take (i := 0) (oi := ⟨some 32, _, _, _, _, _⟩) (v := ?_) rfl (by kernel_rfl) (by kernel_rfl) (by kernel_rfl) (fun _ _ _ h => h) (Or.inl ⟨by rfl, ?_⟩) HS0.out ?_
            rotate_left
            · (intro W hSW; clear hSW; go_simp)
              first | done | (with_reducible rfl)
            try simp only [Act.put, List.setIfInBounds_toArray, List.set_cons_zero, List.set_cons_succ]
            refine wpAnyH_take (i := 1) (oi := ⟨some 33, _, _, _, _, _⟩) (v := ?_) rfl (by kernel_rfl) (by kernel_rfl) (by kernel_rfl) (fun _ _ _ h => h) (Or.inl ⟨by rfl, ?_⟩) HS0.out ?_
            rotate_left
            · (intro W hSW; clear hSW; go_simp)
              first | done | (with_reducible rfl)
            try simp only [Act.put, List.setIfInBounds_toArray, List.set_cons_zero, List.set_cons_succ]
            refine wpAnyH_take (i := 2) (oi := ⟨some 34, _, _, _, _, _⟩) (v := ?_) rfl (by kernel_rfl) (by kernel_rfl) (by kernel_rfl) (fun _ _ _ h => h) (Or.inl ⟨by rfl, ?_⟩) HS0.out ?_
            rotate_left
            · (intro W hSW; clear hSW; go_simp)
              first | done | (with_reducible rfl)
            try simp only [Act.put, List.setIfInBounds_toArray, List.set_cons_zero, List.set_cons_succ]
            refine wpAnyH_take (i := 3) (oi := ⟨some 35, _, _, _, _, _⟩) (v := ?_) rfl (by kernel_rfl) (by kernel_rfl) (by kernel_rfl) (fun _ _ _ h => h) (Or.inl ⟨by rfl, ?_⟩) HS0.out ?_
            rotate_left
            · (intro W hSW; clear hSW; go_simp)
              first | done | (with_reducible rfl)
            try simp only [Act.put, List.setIfInBounds_toArray, List.set_cons_zero, List.set_cons_succ]
            refine wpAnyH_take (i := 4) (oi := ⟨some 36, _, _, _, _, _⟩) (v := ?_) rfl (by kernel_rfl) (by kernel_rfl) (by kernel_rfl) (fun _ _ _ h => h) (Or.inl ⟨by rfl, ?_⟩) HS0.out ?_
            rotate_left
            · (intro W hSW; clear hSW; go_simp)
              first | done | (with_reducible rfl)
            try simp only [Act.put, List.setIfInBounds_toArray, List.set_cons_zero, List.set_cons_succ]
            refine wpAnyH_take (i := 5) (oi := ⟨some 37, _, _, _, _, _⟩) (v := ?_) rfl (by kernel_rfl) (by kernel_rfl) (by kernel_rfl) (fun _ _ _ h => h) (Or.inl ⟨by rfl, ?_⟩) HS0.out ?_
            rotate_left
            · (intro W hSW; clear hSW; go_simp)
              first | done | (with_reducible rfl)
            try simp only [Act.put, List.setIfInBounds_toArray, List.set_cons_zero, List.set_cons_succ]
            refine wpAnyH_take (i := 6) (oi := ⟨some 38, _, _, _, _, _⟩) (v := ?_) rfl (by kernel_rfl) (by kernel_rfl) (by kernel_rfl) (fun _ _ _ h => h) (Or.inl ⟨by rfl, ?_⟩) HS0.out ?_
            rotate_left
            · (intro W hSW; clear hSW; go_simp)
              first | done | (with_reducible rfl)
            try simp only [Act.put, List.setIfInBounds_toArray, List.set_cons_zero, List.set_cons_succ]
            refine wpAnyH_take (i := 7) (oi := ⟨some 39, _, _, _, _, _⟩) (v := ?_) rfl (by kernel_rfl) (by kernel_rfl) (by kernel_rfl) (fun _ _ _ h => h) (Or.inl ⟨by rfl, ?_⟩) HS0.out ?_
            rotate_left
            · (intro W hSW; clear hSW; go_simp)
              first | done | (with_reducible rfl)
            try simp only [Act.put, List.setIfInBounds_toArray, List.set_cons_zero, List.set_cons_succ]
            refine wpAnyH_take (i := 8) (oi := ⟨some 40, _, _, _, _, _⟩) (v := ?_) rfl (by kernel_rfl) (by kernel_rfl) (by kernel_rfl) (fun _ _ _ h => h) (Or.inl ⟨by rfl, ?_⟩) HS0.out ?_
            rotate_left
            · (intro W hSW; clear hSW; go_simp)
              first | done | (with_reducible rfl)
            try simp only [Act.put, List.setIfInBounds_toArray, List.set_cons_zero, List.set_cons_succ]
            refine wpAnyH_take (i := 9) (oi := ⟨some 41, _, _, _, _, _⟩) (v := .agg (at_ L k).p.cs.toArray) rfl (by kernel_rfl) (by kernel_rfl) (by kernel_rfl) (fun _ _ _ h => h) (yields_pre (by rfl) (.tmp 40) rfl q (o + k * 9) rfl (at_ L k).p (fun _ h => range_pre h.1)) HS0.out ?_
            try simp only [Act.put, List.setIfInBounds_toArray, List.set_cons_zero, List.set_cons_succ]
            refine wpAnyH_take (i := 10) (oi := ⟨some 42, _, _, _, _, _⟩) (v := .agg p.cs.toArray) rfl (by kernel_rfl) (by kernel_rfl) (by kernel_rfl) (fun _ _ _ h => h) (yields_pre (by rfl) (.tmp 6) rfl w.heap.size 0 rfl p (fun _ h => whole_at h.2)) HS0.out ?_
            try simp only [Act.put, List.setIfInBounds_toArray, List.set_cons_zero, List.set_cons_succ]
            refine wpAnyH_ready (rs := [11]) (by kernel_rfl) (by simp) ?_
            refine AllReadyH.cons (o := ⟨some 43, _, _, _, _, _⟩) rfl (fun K hK => ?_) AllReadyH.nil
            go_simp
            refine (HLS.out _).mono ?_
            rintro e x1 ⟨rfl, hb⟩
            have W6 : Hid (Below w4.heap.size w4 x1) := W5.out.trans (hb.mono W5.out.size)
            have HS1 : Hid (x1.rangeAt q (o + k * 9) (at_ L k).cs ∧ Blk x1 w.heap.size 31 p.cs) := ⟨HS.out _ W6.out, P4.out.below W6.out⟩
            clear hb
            go_simp
            refine hK.out _ _ ?_ (fun _ => ?_)
            · exact HS1.out
            clear hK K
            try simp only [Act.put, List.setIfInBounds_toArray, List.set_cons_zero, List.set_cons_succ]
            refine wpAnyH_take (i := 12) (oi := ⟨some 44, _, _, _, _, _⟩) (v := ?_) rfl (by kernel_rfl) (by kernel_rfl) (by kernel_rfl) (fun _ _ _ h => h) (Or.inl ⟨by rfl, ?_⟩) HS1.out ?_
            rotate_left
            · (intro W hSW; clear hSW; go_simp)
              first | done | (with_reducible rfl)
            try simp only [Act.put, List.setIfInBounds_toArray, List.set_cons_zero, List.set_cons_succ]
            refine wpAnyH_done (by kernel_rfl) ?_ _
            go_upto_region 11 with fail
            have hb7 : Below w4.heap.size w4 x1.drew := W6.out.drew
            have P7 := Lib.hid (P4.out.below hb7)
            have E7 := Lib.hid (E4.out _ hb7)
            have A7 := Lib.hid (H.out _ (W4.out.trans (hb7.mono W4.out.size)))
            have W7 : Hid (Below w.heap.size w x1.drew) := W4.out.trans (hb7.mono W4.out.size)
            have W7z := W7.out.size
            refine wp_region_held_drew (S := fun W => Blk W w.heap.size 31 p.cs) (by kernel_rfl) P7.out (fun _ => ?_)
            generalize x1.drew = w7 at *
            have HS0 := P7
            have hb8 : Below w7.heap.size w7 (w7.alloc (.cells (Ent.mk p v).cs.toArray 43)) := (Below.refl _ w7).alloc (Nat.le_refl _) _
            obtain ⟨v9, w9, hrun9, o9, hb9, b9⟩ := run_app_full (P := Try.prog) (base := w7.heap.size) (R := [Ent.mk p v]) (w7.alloc (.cells (Ent.mk p v).cs.toArray 43)) 36 36 (.agg ent0.cs.toArray) 16 Try.underlying36 info43 rfl (by decide) ((E7.out.upto k).below hb8) (Els.of_blk (Blk.new w7 43 (Ent.mk p v).cs)) 1 (by simp; omega) (by simp) hb8.size
            have hb10 : Below w7.heap.size w7 w9 := hb8.trans (hb9.mono hb8.size)
            obtain ⟨v11, w11, hrun11, o11, g11, b11⟩ := run_app (P := Try.prog) (R := L.drop k) w9 36 36 (.agg ent0.cs.toArray) 16 Try.underlying36 info43 rfl (by decide) o9 ((HZ2.out _ A7.out).below hb10) (c - k) (by have := HN.out; simp; omega) hb10.size
            have hb11 : Below w7.heap.size w7 w11 := hb10.trans ((Far.grown (S := fun k => w7.heap.size ≤ k) (Far.refl _ _) g11 (fun k hk _ => (o9.lt k hk).1)).below hb10.size (fun k hk e => by omega))
            have hlt11 := o11.lt
            obtain ⟨A11, c11, hv11, hc11, _, E11, ho11, _⟩ := o11.els
            have hfrm : Frm (some ⟨q, o, none⟩) w w11 A11 := Frm.own ho11 hlt11 W7z
            clear hlt11 ho11
            subst hv11
            rw [HPUT.out] at hrun11 hc11 E11
            rw [List.length_take, HN.out, Nat.min_eq_left (by omega)] at hrun9
            rw [List.length_drop, HN.out] at hrun11
            have R9 : Hid ((Builtin.append_ #[36, 36] 36 #[.slice (some ⟨q3, 0, none⟩) k k, .slice (some ⟨w7.heap.size, 0, none⟩) 1 1]).run Try.prog (w7.alloc (.cells (Ent.mk p v).cs.toArray 43)) = .ok v9 w9) := hrun9
            have R11 := Lib.hid hrun11
            have FIN : Hid (PRes (some ⟨q, o, none⟩) (put L r p v) (may L r p) w (.returned (.tuple #[.slice A11 (put L r p v).length c11, .bool true])) w11) := ⟨A11, c11, by rw [HMAY.out], hc11, E11, W7.out.trans (hb11.mono W7z), hfrm⟩
            have P8 := Lib.hid (P7.out.below hb8)
            have P9 := Lib.hid (P7.out.below hb10)
            have P11 := Lib.hid (P7.out.below hb11)
            have HB := Lib.hid (fun W => run_bent p v W)
            clear hrun9 hrun11 hc11 E11 o11 o9 g11 b9 b11 hb7 hb8 hb9 hb10 hb11
            refine wpAnyH_take (i := 0) (oi := ⟨some 47, _, _, _, _, _⟩) (v := ?_) rfl (by kernel_rfl) (by kernel_rfl) (by kernel_rfl) (fun _ _ _ h => h) (Or.inl ⟨by rfl, ?_⟩) HS0.out ?_
            rotate_left
            · (intro W hSW; clear hSW; go_simp)
              first | done | (with_reducible rfl)
            try simp only [Act.put, List.setIfInBounds_toArray, List.set_cons_zero, List.set_cons_succ]
            refine wpAnyH_take (i := 1) (oi := ⟨some 48, _, _, _, _, _⟩) (v := ?_) rfl (by kernel_rfl) (by kernel_rfl) (by kernel_rfl) (fun _ _ _ h => h) (Or.inl ⟨by rfl, ?_⟩) HS0.out ?_
            rotate_left
            · (intro W hSW; clear hSW; go_simp)
              first | done | (with_reducible rfl)
            try simp only [Act.put, List.setIfInBounds_toArray, List.set_cons_zero, List.set_cons_succ]
            refine wpAnyH_take (i := 2) (oi := ⟨some 49, _, _, _, _, _⟩) (v := ?_) rfl (by kernel_rfl) (by kernel_rfl) (by kernel_rfl) (fun _ _ _ h => h) (Or.inl ⟨by rfl, ?_⟩) HS0.out ?_
            rotate_left
            · (intro W hSW; clear hSW; go_simp)
              first | done | (with_reducible rfl)
            try simp only [Act.put, List.setIfInBounds_toArray, List.set_cons_zero, List.set_cons_succ]
            refine wpAnyH_take (i := 3) (oi := ⟨some 50, _, _, _, _, _⟩) (v := .slice (some ⟨q3, 0, none⟩) k k) rfl (by kernel_rfl) (by kernel_rfl) (by kernel_rfl) (fun _ _ _ h => h) (yields_slice (by rfl) (.tmp 47) none (some (.tmp 48)) (some (.tmp 49)) rfl (.slice (some ⟨q3, 0, none⟩) n c3) none (some (.int .i64 (k : Nat))) (some (.int .i64 (k : Nat))) (by rfl) (by rfl) (by rfl) (by rfl) _ HS1_.out) HS0.out ?_
            try simp only [Act.put, List.setIfInBounds_toArray, List.set_cons_zero, List.set_cons_succ]
            refine wpAnyH_take (i := 4) (oi := ⟨some 51, _, _, _, _, _⟩) (v := .agg p.cs.toArray) rfl (by kernel_rfl) (by kernel_rfl) (by kernel_rfl) (fun _ _ _ h => h) (yields_pre (by rfl) (.tmp 6) rfl w.heap.size 0 rfl p (fun _ h => whole_at h)) HS0.out ?_
            try simp only [Act.put, List.setIfInBounds_toArray, List.set_cons_zero, List.set_cons_succ]
            refine wpAnyH_take (i := 5) (oi := ⟨some 52, _, _, _, _, _⟩) (v := ?_) rfl (by kernel_rfl) (by kernel_rfl) (by kernel_rfl) (fun _ _ _ h => h) (Or.inl ⟨by rfl, ?_⟩) HS0.out ?_
            rotate_left
            · (intro W hSW; clear hSW; go_simp)
              first | done | (with_reducible rfl)
            try simp only [Act.put, List.setIfInBounds_toArray, List.set_cons_zero, List.set_cons_succ]
            refine wpAnyH_take (i := 6) (oi := ⟨some 53, _, _, _, _, _⟩) (v := .agg (Ent.mk p v).cs.toArray) rfl (by kernel_rfl) (by kernel_rfl) (by kernel_rfl) (fun _ _ _ h => h) (yields_build (by rfl) 43 [(0, .tmp 51), (1, .tmp 52)] rfl [(0, .agg p.cs.toArray), (1, .int .i64 v)] (by rfl) (Ent.mk p v).cs HB.out) HS0.out ?_
            try simp only [Act.put, List.setIfInBounds_toArray, List.set_cons_zero, List.set_cons_succ]
            refine wpAnyH_take (i := 9) (oi := ⟨some 56, _, _, _, _, _⟩) (v := ?_) rfl (by kernel_rfl) (by kernel_rfl) (by kernel_rfl) (fun _ _ _ h => h) (Or.inl ⟨by rfl, ?_⟩) HS0.out ?_
            rotate_left
            · (intro W hSW; clear hSW; go_simp)
              first | done | (with_reducible rfl)
            try simp only [Act.put, List.setIfInBounds_toArray, List.set_cons_zero, List.set_cons_succ]
            refine wpAnyH_take (i := 10) (oi := ⟨some 57, _, _, _, _, _⟩) (v := ?_) rfl (by kernel_rfl) (by kernel_rfl) (by kernel_rfl) (fun _ _ _ h => h) (Or.inl ⟨by rfl, ?_⟩) HS0.out ?_
            rotate_left
            · (intro W hSW; clear hSW; go_simp)
              first | done | (with_reducible rfl)
            try simp only [Act.put, List.setIfInBounds_toArray, List.set_cons_zero, List.set_cons_succ]
            refine wpAnyH_take (i := 11) (oi := ⟨some 58, _, _, _, _, _⟩) (v := .slice Z (n - k) (c - k)) rfl (by kernel_rfl) (by kernel_rfl) (by kernel_rfl) (fun _ _ _ h => h) (yields_slice (by rfl) (.tmp 56) (some (.tmp 57)) none none rfl (.slice (some ⟨q, o, none⟩) n c) (some (.int .i64 (k : Nat))) none none (by rfl) (by rfl) (by rfl) (by rfl) _ HS2.out) HS0.out ?_
            try simp only [Act.put, List.setIfInBounds_toArray, List.set_cons_zero, List.set_cons_succ]
            refine wpAnyH_ready (rs := [7]) (by kernel_rfl) (by simp) ?_
            refine AllReadyH.cons (o := ⟨some 54, _, _, _, _, _⟩) rfl (fun K hK => ?_) AllReadyH.nil
            refine step_onee (by rfl) (.tmp 53) rfl (Ent.mk p v) rfl ?_
            refine hK.out _ _ ?_ (fun _ => ?_)
            · exact P8.out
            clear hK K
            try simp only [Act.put, List.setIfInBounds_toArray, List.set_cons_zero, List.set_cons_succ]
            refine wpAnyH_ready (rs := [8]) (by kernel_rfl) (by simp) ?_
            refine AllReadyH.cons (o := ⟨some 55, _, _, _, _, _⟩) rfl (fun K hK => ?_) AllReadyH.nil
            refine step_app (by rfl) 36 (.tmp 50) (.tmp 54) rfl _ _ _ rfl rfl R9.out ?_
            refine hK.out _ _ ?_ (fun _ => ?_)
            · exact P9.out
            clear hK K
            try simp only [Act.put, List.setIfInBounds_toArray, List.set_cons_zero, List.set_cons_succ]
            refine wpAnyH_ready (rs := [12]) (by kernel_rfl) (by simp) ?_
            refine AllReadyH.cons (o := ⟨some 59, _, _, _, _, _⟩) rfl (fun K hK => ?_) AllReadyH.nil
            refine step_app (by rfl) 36 (.tmp 55) (.tmp 58) rfl _ _ _ rfl rfl R11.out ?_
            refine hK.out _ _ ?_ (fun _ => ?_)
            · exact P11.out
            clear hK K
            try simp only [Act.put, List.setIfInBounds_toArray, List.set_cons_zero, List.set_cons_succ]
            have HS0 := P11
            refine wpAnyH_take (i := 13) (oi := ⟨some 8, _, _, _, _, _⟩) (v := ?_) rfl (by kernel_rfl) (by kernel_rfl) (by kernel_rfl) (fun _ _ _ h => h) (Or.inl ⟨by rfl, ?_⟩) HS0.out ?_
            rotate_left
            · (intro W hSW; clear hSW; go_simp)
              first | done | (with_reducible rfl)
            try simp only [Act.put, List.setIfInBounds_toArray, List.set_cons_zero, List.set_cons_succ]
            refine wpAnyH_take (i := 14) (oi := ⟨some 9, _, _, _, _, _⟩) (v := ?_) rfl (by kernel_rfl) (by kernel_rfl) (by kernel_rfl) (fun _ _ _ h => h) (Or.inl ⟨by rfl, ?_⟩) HS0.out ?_
            rotate_left
            · (intro W hSW; clear hSW; go_simp)
              first | done | (with_reducible rfl)
            try simp only [Act.put, List.setIfInBounds_toArray, List.set_cons_zero, List.set_cons_succ]
            refine wpAnyH_done (by kernel_rfl) ?_ _
            go_wp2_with fail
            refine bodyPost_ret (v := .tuple #[.slice A11 (put L r p v).length c11, .bool true]) (by simp [results, Try.results15]) rfl FIN.out

          · have hkp : k < plc L p := by
              rcases Nat.lt_or_ge k (plc L p) with h1 | h1
              · exact h1
              · have hkp : k = plc L p := by omega
                have := plc_at (L := L) (p := p) (by rw [← hkp]; exact hkL)
                rw [← hkp, hd2] at this
                cases this
            rw [hd2] at HLS
            clear hd2 hkL
            go_upto_region 9 with fail
            refine wp_region_held_drew (S := fun W => W.rangeAt q (o + k * 9) (at_ L k).cs ∧ Blk W w.heap.size 31 p.cs) (by kernel_rfl) ?_ (fun _ => ?_)
            · exact ⟨HS.out _ W5.out, P4.out.below W5.out⟩
            have HS0 : Hid (wr.drew.rangeAt q (o + k * 9) (at_ L k).cs ∧ Blk wr.drew w.heap.size 31 p.cs) := ⟨HS.out _ W5.out, P4.out.below W5.out⟩
            refine wpAnyH_take (i := 0) (oi := ⟨some 32, _, _, _, _, _⟩) (v := ?_) rfl (by kernel_rfl) (by kernel_rfl) (by kernel_rfl) (fun _ _ _ h => h) (Or.inl ⟨by rfl, ?_⟩) HS0.out ?_
            rotate_left
            · (intro W hSW; clear hSW; go_simp)
              first | done | (with_reducible rfl)
            try simp only [Act.put, List.setIfInBounds_toArray, List.set_cons_zero, List.set_cons_succ]
            refine wpAnyH_take (i := 1) (oi := ⟨some 33, _, _, _, _, _⟩) (v := ?_) rfl (by kernel_rfl) (by kernel_rfl) (by kernel_rfl) (fun _ _ _ h => h) (Or.inl ⟨by rfl, ?_⟩) HS0.out ?_
            rotate_left
            · (intro W hSW; clear hSW; go_simp)
              first | done | (with_reducible rfl)
            try simp only [Act.put, List.setIfInBounds_toArray, List.set_cons_zero, List.set_cons_succ]
            refine wpAnyH_take (i := 2) (oi := ⟨some 34, _, _, _, _, _⟩) (v := ?_) rfl (by kernel_rfl) (by kernel_rfl) (by kernel_rfl) (fun _ _ _ h => h) (Or.inl ⟨by rfl, ?_⟩) HS0.out ?_
            rotate_left
            · (intro W hSW; clear hSW; go_simp)
              first | done | (with_reducible rfl)
            try simp only [Act.put, List.setIfInBounds_toArray, List.set_cons_zero, List.set_cons_succ]
            refine wpAnyH_take (i := 3) (oi := ⟨some 35, _, _, _, _, _⟩) (v := ?_) rfl (by kernel_rfl) (by kernel_rfl) (by kernel_rfl) (fun _ _ _ h => h) (Or.inl ⟨by rfl, ?_⟩) HS0.out ?_
            rotate_left
            · (intro W hSW; clear hSW; go_simp)
              first | done | (with_reducible rfl)
            try simp only [Act.put, List.setIfInBounds_toArray, List.set_cons_zero, List.set_cons_succ]
            refine wpAnyH_take (i := 4) (oi := ⟨some 36, _, _, _, _, _⟩) (v := ?_) rfl (by kernel_rfl) (by kernel_rfl) (by kernel_rfl) (fun _ _ _ h => h) (Or.inl ⟨by rfl, ?_⟩) HS0.out ?_
            rotate_left
            · (intro W hSW; clear hSW; go_simp)
              first | done | (with_reducible rfl)
            try simp only [Act.put, List.setIfInBounds_toArray, List.set_cons_zero, List.set_cons_succ]
            refine wpAnyH_take (i := 5) (oi := ⟨some 37, _, _, _, _, _⟩) (v := ?_) rfl (by kernel_rfl) (by kernel_rfl) (by kernel_rfl) (fun _ _ _ h => h) (Or.inl ⟨by rfl, ?_⟩) HS0.out ?_
            rotate_left
            · (intro W hSW; clear hSW; go_simp)
              first | done | (with_reducible rfl)
            try simp only [Act.put, List.setIfInBounds_toArray, List.set_cons_zero, List.set_cons_succ]
            refine wpAnyH_take (i := 6) (oi := ⟨some 38, _, _, _, _, _⟩) (v := ?_) rfl (by kernel_rfl) (by kernel_rfl) (by kernel_rfl) (fun _ _ _ h => h) (Or.inl ⟨by rfl, ?_⟩) HS0.out ?_
            rotate_left
            · (intro W hSW; clear hSW; go_simp)
              first | done | (with_reducible rfl)
            try simp only [Act.put, List.setIfInBounds_toArray, List.set_cons_zero, List.set_cons_succ]
            refine wpAnyH_take (i := 7) (oi := ⟨some 39, _, _, _, _, _⟩) (v := ?_) rfl (by kernel_rfl) (by kernel_rfl) (by kernel_rfl) (fun _ _ _ h => h) (Or.inl ⟨by rfl, ?_⟩) HS0.out ?_
            rotate_left
            · (intro W hSW; clear hSW; go_simp)
              first | done | (with_reducible rfl)
            try simp only [Act.put, List.setIfInBounds_toArray, List.set_cons_zero, List.set_cons_succ]
            refine wpAnyH_take (i := 8) (oi := ⟨some 40, _, _, _, _, _⟩) (v := ?_) rfl (by kernel_rfl) (by kernel_rfl) (by kernel_rfl) (fun _ _ _ h => h) (Or.inl ⟨by rfl, ?_⟩) HS0.out ?_
            rotate_left
            · (intro W hSW; clear hSW; go_simp)
              first | done | (with_reducible rfl)
            try simp only [Act.put, List.setIfInBounds_toArray, List.set_cons_zero, List.set_cons_succ]
            refine wpAnyH_take (i := 9) (oi := ⟨some 41, _, _, _, _, _⟩) (v := .agg (at_ L k).p.cs.toArray) rfl (by kernel_rfl) (by kernel_rfl) (by kernel_rfl) (fun _ _ _ h => h) (yields_pre (by rfl) (.tmp 40) rfl q (o + k * 9) rfl (at_ L k).p (fun _ h => range_pre h.1)) HS0.out ?_
            try simp only [Act.put, List.setIfInBounds_toArray, List.set_cons_zero, List.set_cons_succ]
            refine wpAnyH_take (i := 10) (oi := ⟨some 42, _, _, _, _, _⟩) (v := .agg p.cs.toArray) rfl (by kernel_rfl) (by kernel_rfl) (by kernel_rfl) (fun _ _ _ h => h) (yields_pre (by rfl) (.tmp 6) rfl w.heap.size 0 rfl p (fun _ h => whole_at h.2)) HS0.out ?_
            try simp only [Act.put, List.setIfInBounds_toArray, List.set_cons_zero, List.set_cons_succ]
            refine wpAnyH_ready (rs := [11]) (by kernel_rfl) (by simp) ?_
            refine AllReadyH.cons (o := ⟨some 43, _, _, _, _, _⟩) rfl (fun K hK => ?_) AllReadyH.nil
            go_simp
            refine (HLS.out _).mono ?_
            rintro e x1 ⟨rfl, hb⟩
            have W6 : Hid (Below w4.heap.size w4 x1) := W5.out.trans (hb.mono W5.out.size)
            have HS1 : Hid (x1.rangeAt q (o + k * 9) (at_ L k).cs ∧ Blk x1 w.heap.size 31 p.cs) := ⟨HS.out _ W6.out, P4.out.below W6.out⟩
            clear hb
            go_simp
            refine hK.out _ _ ?_ (fun _ => ?_)
            · exact HS1.out
            clear hK K
            try simp only [Act.put, List.setIfInBounds_toArray, List.set_cons_zero, List.set_cons_succ]
            refine wpAnyH_take (i := 12) (oi := ⟨some 44, _, _, _, _, _⟩) (v := ?_) rfl (by kernel_rfl) (by kernel_rfl) (by kernel_rfl) (fun _ _ _ h => h) (Or.inl ⟨by rfl, ?_⟩) HS1.out ?_
            rotate_left
            · (intro W hSW; clear hSW; go_simp)
              first | done | (with_reducible rfl)
            try simp only [Act.put, List.setIfInBounds_toArray, List.set_cons_zero, List.set_cons_succ]
            refine wpAnyH_done (by kernel_rfl) ?_ _
            go_wp2_with fail
            go_roundw
            case rel => exact ⟨k + 1, by omega, by go_num, W6.out⟩
            case measure => simp [intOf]; omega
        · have hkp : k = plc L p := by have := HPLC.out; have := HN.out; omega
          have HPUT : Hid ((L.take k ++ [Ent.mk p v]) ++ L.drop k = put L r p v) := by show _ = _; rw [HPT.out, ← hkp]; rfl
          clear hkp
          go_upto_region 9 with fail
          refine wp_region_held_drew (S := fun _ => True) (by kernel_rfl) ?_ (fun _ => ?_)
          · exact trivial
          have HS0 : Hid True := Lib.hid trivial
          refine wpAnyH_take (i := 0) (oi := ⟨some 32, _, _, _, _, _⟩) (v := ?_) rfl (by kernel_rfl) (by kernel_rfl) (by kernel_rfl) (fun _ _ _ h => h) (Or.inl ⟨by rfl, ?_⟩) HS0.out ?_
          rotate_left
          · (intro W hSW; clear hSW; go_simp)
            first | done | (with_reducible rfl)
          try simp only [Act.put, List.setIfInBounds_toArray, List.set_cons_zero, List.set_cons_succ]
          refine wpAnyH_take (i := 1) (oi := ⟨some 33, _, _, _, _, _⟩) (v := ?_) rfl (by kernel_rfl) (by kernel_rfl) (by kernel_rfl) (fun _ _ _ h => h) (Or.inl ⟨by rfl, ?_⟩) HS0.out ?_
          rotate_left
          · (intro W hSW; clear hSW; go_simp)
            first | done | (with_reducible rfl)
          try simp only [Act.put, List.setIfInBounds_toArray, List.set_cons_zero, List.set_cons_succ]
          refine wpAnyH_take (i := 2) (oi := ⟨some 34, _, _, _, _, _⟩) (v := ?_) rfl (by kernel_rfl) (by kernel_rfl) (by kernel_rfl) (fun _ _ _ h => h) (Or.inl ⟨by rfl, ?_⟩) HS0.out ?_
          rotate_left
          · (intro W hSW; clear hSW; go_simp)
            first | done | (with_reducible rfl)
          try simp only [Act.put, List.setIfInBounds_toArray, List.set_cons_zero, List.set_cons_succ]
          refine wpAnyH_take (i := 3) (oi := ⟨some 35, _, _, _, _, _⟩) (v := ?_) rfl (by kernel_rfl) (by kernel_rfl) (by kernel_rfl) (fun _ _ _ h => h) (Or.inl ⟨by rfl, ?_⟩) HS0.out ?_
          rotate_left
          · (intro W hSW; clear hSW; go_simp)
            first | done | (with_reducible rfl)
          try simp only [Act.put, List.setIfInBounds_toArray, List.set_cons_zero, List.set_cons_succ]
          refine wpAnyH_take (i := 4) (oi := ⟨some 36, _, _, _, _, _⟩) (v := ?_) rfl (by kernel_rfl) (by kernel_rfl) (by kernel_rfl) (fun _ _ _ h => h) (Or.inl ⟨by rfl, ?_⟩) HS0.out ?_
          rotate_left
          · (intro W hSW; clear hSW; go_simp)
            first | done | (with_reducible rfl)
          try simp only [Act.put, List.setIfInBounds_toArray, List.set_cons_zero, List.set_cons_succ]
          refine wpAnyH_take (i := 5) (oi := ⟨some 37, _, _, _, _, _⟩) (v := undef) rfl (by kernel_rfl) (by kernel_rfl) (by kernel_rfl) (fun _ _ _ h => h) (Or.inr ⟨by rfl, rfl⟩) HS0.out ?_
          try simp only [Act.put, List.setIfInBounds_toArray, List.set_cons_zero, List.set_cons_succ]
          refine wpAnyH_take (i := 6) (oi := ⟨some 38, _, _, _, _, _⟩) (v := undef) rfl (by kernel_rfl) (by kernel_rfl) (by kernel_rfl) (fun _ _ _ h => h) (Or.inr ⟨by rfl, rfl⟩) HS0.out ?_
          try simp only [Act.put, List.setIfInBounds_toArray, List.set_cons_zero, List.set_cons_succ]
          refine wpAnyH_take (i := 7) (oi := ⟨some 39, _, _, _, _, _⟩) (v := undef) rfl (by kernel_rfl) (by kernel_rfl) (by kernel_rfl) (fun _ _ _ h => h) (Or.inr ⟨by rfl, rfl⟩) HS0.out ?_
          try simp only [Act.put, List.setIfInBounds_toArray, List.set_cons_zero, List.set_cons_succ]
          refine wpAnyH_take (i := 8) (oi := ⟨some 40, _, _, _, _, _⟩) (v := undef) rfl (by kernel_rfl) (by kernel_rfl) (by kernel_rfl) (fun _ _ _ h => h) (Or.inr ⟨by rfl, rfl⟩) HS0.out ?_
          try simp only [Act.put, List.setIfInBounds_toArray, List.set_cons_zero, List.set_cons_succ]
          refine wpAnyH_take (i := 9) (oi := ⟨some 41, _, _, _, _, _⟩) (v := undef) rfl (by kernel_rfl) (by kernel_rfl) (by kernel_rfl) (fun _ _ _ h => h) (Or.inr ⟨by rfl, rfl⟩) HS0.out ?_
          try simp only [Act.put, List.setIfInBounds_toArray, List.set_cons_zero, List.set_cons_succ]
          refine wpAnyH_take (i := 10) (oi := ⟨some 42, _, _, _, _, _⟩) (v := undef) rfl (by kernel_rfl) (by kernel_rfl) (by kernel_rfl) (fun _ _ _ h => h) (Or.inr ⟨by rfl, rfl⟩) HS0.out ?_
          try simp only [Act.put, List.setIfInBounds_toArray, List.set_cons_zero, List.set_cons_succ]
          refine wpAnyH_take (i := 11) (oi := ⟨some 43, _, _, _, _, _⟩) (v := undef) rfl (by kernel_rfl) (by kernel_rfl) (by kernel_rfl) (fun _ _ _ h => h) (Or.inr ⟨by rfl, rfl⟩) HS0.out ?_
          try simp only [Act.put, List.setIfInBounds_toArray, List.set_cons_zero, List.set_cons_succ]
          refine wpAnyH_take (i := 12) (oi := ⟨some 44, _, _, _, _, _⟩) (v := ?_) rfl (by kernel_rfl) (by kernel_rfl) (by kernel_rfl) (fun _ _ _ h => h) (Or.inl ⟨by rfl, ?_⟩) HS0.out ?_
          rotate_left
          · (intro W hSW; clear hSW; go_simp)
            first | done | (with_reducible rfl)
          try simp only [Act.put, List.setIfInBounds_toArray, List.set_cons_zero, List.set_cons_succ]
          refine wpAnyH_done (by kernel_rfl) ?_ _
          go_upto_region 11 with fail
          have hb7 : Below w4.heap.size w4 wr.drew.drew := W5.out.drew
          have P7 := Lib.hid (P4.out.below hb7)
          have E7 := Lib.hid (E4.out _ hb7)
          have A7 := Lib.hid (H.out _ (W4.out.trans (hb7.mono W4.out.size)))
          have W7 : Hid (Below w.heap.size w wr.drew.drew) := W4.out.trans (hb7.mono W4.out.size)
          have W7z := W7.out.size
          refine wp_region_held_drew (S := fun W => Blk W w.heap.size 31 p.cs) (by kernel_rfl) P7.out (fun _ => ?_)
          generalize wr.drew.drew = w7 at *
          have HS0 := P7
          have hb8 : Below w7.heap.size w7 (w7.alloc (.cells (Ent.mk p v).cs.toArray 43)) := (Below.refl _ w7).alloc (Nat.le_refl _) _
          obtain ⟨v9, w9, hrun9, o9, hb9, b9⟩ := run_app_full (P := Try.prog) (base := w7.heap.size) (R := [Ent.mk p v]) (w7.alloc (.cells (Ent.mk p v).cs.toArray 43)) 36 36 (.agg ent0.cs.toArray) 16 Try.underlying36 info43 rfl (by decide) ((E7.out.upto k).below hb8) (Els.of_blk (Blk.new w7 43 (Ent.mk p v).cs)) 1 (by simp; omega) (by simp) hb8.size
          have hb10 : Below w7.heap.size w7 w9 := hb8.trans (hb9.mono hb8.size)
          obtain ⟨v11, w11, hrun11, o11, g11, b11⟩ := run_app (P := Try.prog) (R := L.drop k) w9 36 36 (.agg ent0.cs.toArray) 16 Try.underlying36 info43 rfl (by decide) o9 ((HZ2.out _ A7.out).below hb10) (c - k) (by have := HN.out; simp; omega) hb10.size
          have hb11 : Below w7.heap.size w7 w11 := hb10.trans ((Far.grown (S := fun k => w7.heap.size ≤ k) (Far.refl _ _) g11 (fun k hk _ => (o9.lt k hk).1)).below hb10.size (fun k hk e => by omega))
          have hlt11 := o11.lt
          obtain ⟨A11, c11, hv11, hc11, _, E11, ho11, _⟩ := o11.els
          have hfrm : Frm A w w11 A11 := Frm.own ho11 hlt11 W7z
          clear hlt11 ho11
          subst hv11
          rw [HPUT.out] at hrun11 hc11 E11
          rw [List.length_take, HN.out, Nat.min_eq_left (by omega)] at hrun9
          rw [List.length_drop, HN.out] at hrun11
          have R9 : Hid ((Builtin.append_ #[36, 36] 36 #[.slice (some ⟨q3, 0, none⟩) k k, .slice (some ⟨w7.heap.size, 0, none⟩) 1 1]).run Try.prog (w7.alloc (.cells (Ent.mk p v).cs.toArray 43)) = .ok v9 w9) := hrun9
          have R11 := Lib.hid hrun11
          have FIN : Hid (PRes A (put L r p v) (may L r p) w (.returned (.tuple #[.slice A11 (put L r p v).length c11, .bool true])) w11) := ⟨A11, c11, by rw [HMAY.out], hc11, E11, W7.out.trans (hb11.mono W7z), hfrm⟩
          have P8 := Lib.hid (P7.out.below hb8)
          have P9 := Lib.hid (P7.out.below hb10)
          have P11 := Lib.hid (P7.out.below hb11)
          have HB := Lib.hid (fun W => run_bent p v W)
          clear hrun9 hrun11 hc11 E11 o11 o9 g11 b9 b11 hb7 hb8 hb9 hb10 hb11
          refine wpAnyH_take (i := 0) (oi := ⟨some 47, _, _, _, _, _⟩) (v := ?_) rfl (by kernel_rfl) (by kernel_rfl) (by kernel_rfl) (fun _ _ _ h => h) (Or.inl ⟨by rfl, ?_⟩) HS0.out ?_
          rotate_left
          · (intro W hSW; clear hSW; go_simp)
            first | done | (with_reducible rfl)
          try simp only [Act.put, List.setIfInBounds_toArray, List.set_cons_zero, List.set_cons_succ]
          refine wpAnyH_take (i := 1) (oi := ⟨some 48, _, _, _, _, _⟩) (v := ?_) rfl (by kernel_rfl) (by kernel_rfl) (by kernel_rfl) (fun _ _ _ h => h) (Or.inl ⟨by rfl, ?_⟩) HS0.out ?_
          rotate_left
          · (intro W hSW; clear hSW; go_simp)
            first | done | (with_reducible rfl)
          try simp only [Act.put, List.setIfInBounds_toArray, List.set_cons_zero, List.set_cons_succ]
          refine wpAnyH_take (i := 2) (oi := ⟨some 49, _, _, _, _, _⟩) (v := ?_) rfl (by kernel_rfl) (by kernel_rfl) (by kernel_rfl) (fun _ _ _ h => h) (Or.inl ⟨by rfl, ?_⟩) HS0.out ?_
          rotate_left
          · (intro W hSW; clear hSW; go_simp)
            first | done | (with_reducible rfl)
          try simp only [Act.put, List.setIfInBounds_toArray, List.set_cons_zero, List.set_cons_succ]
          refine wpAnyH_take (i := 3) (oi := ⟨some 50, _, _, _, _, _⟩) (v := .slice (some ⟨q3, 0, none⟩) k k) rfl (by kernel_rfl) (by kernel_rfl) (by kernel_rfl) (fun _ _ _ h => h) (yields_slice (by rfl) (.tmp 47) none (some (.tmp 48)) (some (.tmp 49)) rfl (.slice (some ⟨q3, 0, none⟩) n c3) none (some (.int .i64 (k : Nat))) (some (.int .i64 (k : Nat))) (by rfl) (by rfl) (by rfl) (by rfl) _ HS1_.out) HS0.out ?_
          try simp only [Act.put, List.setIfInBounds_toArray, List.set_cons_zero, List.set_cons_succ]
          refine wpAnyH_take (i := 4) (oi := ⟨some 51, _, _, _, _, _⟩) (v := .agg p.cs.toArray) rfl (by kernel_rfl) (by kernel_rfl) (by kernel_rfl) (fun _ _ _ h => h) (yields_pre (by rfl) (.tmp 6) rfl w.heap.size 0 rfl p (fun _ h => whole_at h)) HS0.out ?_
          try simp only [Act.put, List.setIfInBounds_toArray, List.set_cons_zero, List.set_cons_succ]
          refine wpAnyH_take (i := 5) (oi := ⟨some 52, _, _, _, _, _⟩) (v := ?_) rfl (by kernel_rfl) (by kernel_rfl) (by kernel_rfl) (fun _ _ _ h => h) (Or.inl ⟨by rfl, ?_⟩) HS0.out ?_
          rotate_left
          · (intro W hSW; clear hSW; go_simp)
            first | done | (with_reducible rfl)
          try simp only [Act.put, List.setIfInBounds_toArray, List.set_cons_zero, List.set_cons_succ]
          refine wpAnyH_take (i := 6) (oi := ⟨some 53, _, _, _, _, _⟩) (v := .agg (Ent.mk p v).cs.toArray) rfl (by kernel_rfl) (by kernel_rfl) (by kernel_rfl) (fun _ _ _ h => h) (yields_build (by rfl) 43 [(0, .tmp 51), (1, .tmp 52)] rfl [(0, .agg p.cs.toArray), (1, .int .i64 v)] (by rfl) (Ent.mk p v).cs HB.out) HS0.out ?_
          try simp only [Act.put, List.setIfInBounds_toArray, List.set_cons_zero, List.set_cons_succ]
          refine wpAnyH_take (i := 9) (oi := ⟨some 56, _, _, _, _, _⟩) (v := ?_) rfl (by kernel_rfl) (by kernel_rfl) (by kernel_rfl) (fun _ _ _ h => h) (Or.inl ⟨by rfl, ?_⟩) HS0.out ?_
          rotate_left
          · (intro W hSW; clear hSW; go_simp)
            first | done | (with_reducible rfl)
          try simp only [Act.put, List.setIfInBounds_toArray, List.set_cons_zero, List.set_cons_succ]
          refine wpAnyH_take (i := 10) (oi := ⟨some 57, _, _, _, _, _⟩) (v := ?_) rfl (by kernel_rfl) (by kernel_rfl) (by kernel_rfl) (fun _ _ _ h => h) (Or.inl ⟨by rfl, ?_⟩) HS0.out ?_
          rotate_left
          · (intro W hSW; clear hSW; go_simp)
            first | done | (with_reducible rfl)
          try simp only [Act.put, List.setIfInBounds_toArray, List.set_cons_zero, List.set_cons_succ]
          refine wpAnyH_take (i := 11) (oi := ⟨some 58, _, _, _, _, _⟩) (v := .slice Z (n - k) (c - k)) rfl (by kernel_rfl) (by kernel_rfl) (by kernel_rfl) (fun _ _ _ h => h) (yields_slice (by rfl) (.tmp 56) (some (.tmp 57)) none none rfl (.slice A n c) (some (.int .i64 (k : Nat))) none none (by rfl) (by rfl) (by rfl) (by rfl) _ HS2.out) HS0.out ?_
          try simp only [Act.put, List.setIfInBounds_toArray, List.set_cons_zero, List.set_cons_succ]
          refine wpAnyH_ready (rs := [7]) (by kernel_rfl) (by simp) ?_
          refine AllReadyH.cons (o := ⟨some 54, _, _, _, _, _⟩) rfl (fun K hK => ?_) AllReadyH.nil
          refine step_onee (by rfl) (.tmp 53) rfl (Ent.mk p v) rfl ?_
          refine hK.out _ _ ?_ (fun _ => ?_)
          · exact P8.out
          clear hK K
          try simp only [Act.put, List.setIfInBounds_toArray, List.set_cons_zero, List.set_cons_succ]
          refine wpAnyH_ready (rs := [8]) (by kernel_rfl) (by simp) ?_
          refine AllReadyH.cons (o := ⟨some 55, _, _, _, _, _⟩) rfl (fun K hK => ?_) AllReadyH.nil
          refine step_app (by rfl) 36 (.tmp 50) (.tmp 54) rfl _ _ _ rfl rfl R9.out ?_
          refine hK.out _ _ ?_ (fun _ => ?_)
          · exact P9.out
          clear hK K
          try simp only [Act.put, List.setIfInBounds_toArray, List.set_cons_zero, List.set_cons_succ]
          refine wpAnyH_ready (rs := [12]) (by kernel_rfl) (by simp) ?_
          refine AllReadyH.cons (o := ⟨some 59, _, _, _, _, _⟩) rfl (fun K hK => ?_) AllReadyH.nil
          refine step_app (by rfl) 36 (.tmp 55) (.tmp 58) rfl _ _ _ rfl rfl R11.out ?_
          refine hK.out _ _ ?_ (fun _ => ?_)
          · exact P11.out
          clear hK K
          try simp only [Act.put, List.setIfInBounds_toArray, List.set_cons_zero, List.set_cons_succ]
          have HS0 := P11
          refine wpAnyH_take (i := 13) (oi := ⟨some 8, _, _, _, _, _⟩) (v := ?_) rfl (by kernel_rfl) (by kernel_rfl) (by kernel_rfl) (fun _ _ _ h => h) (Or.inl ⟨by rfl, ?_⟩) HS0.out ?_
          rotate_left
          · (intro W hSW; clear hSW; go_simp)
            first | done | (with_reducible rfl)
          try simp only [Act.put, List.setIfInBounds_toArray, List.set_cons_zero, List.set_cons_succ]
          refine wpAnyH_take (i := 14) (oi := ⟨some 9, _, _, _, _, _⟩) (v := ?_) rfl (by kernel_rfl) (by kernel_rfl) (by kernel_rfl) (fun _ _ _ h => h) (Or.inl ⟨by rfl, ?_⟩) HS0.out ?_
          rotate_left
          · (intro W hSW; clear hSW; go_simp)
            first | done | (with_reducible rfl)
          try simp only [Act.put, List.setIfInBounds_toArray, List.set_cons_zero, List.set_cons_succ]
          refine wpAnyH_done (by kernel_rfl) ?_ _
          go_wp2_with fail
          refine bodyPost_ret (v := .tuple #[.slice A11 (put L r p v).length c11, .bool true]) (by simp [results, Try.results15]) rfl FIN.out

  · have HJ := has_iff.1 hh
    rw [fnd_has hh] at HF
    have HPT : Hid (put L r p v = L.set (idx L p) ⟨(at_ L (idx L p)).p, v⟩) := put_has hh
    have HMAY : Hid (may L r p = true) := by show _ = _; simp [may, hh]
    generalize idx L p = j at *
    have hjn : j < n := by rw [← hn]; exact HJ
    have HJ := Lib.hid HJ
    clear hh hn
    go_enter Try.func15, Try.ntmps15
    go_upto_region 1 with fail
    generalize (w.alloc (.cells p.cs.toArray 31)) = x at *
    go_upto_region 3 with (first | (at_builtin; refine wpList_app rfl 36 (.tmp 13) (.tmp 14) rfl _ _ _ rfl rfl hrun ?_; clear hrun) | (refine wpList_pre (by rfl) (.tmp 6) rfl _ _ rfl p (whole_at P3.out) ?_) | (go_at_call 13; (with_reducible refine (HF.out _ W3.out).mono ?_); rintro e w4 ⟨rfl, hb4⟩; have W4 := Lib.hid (W3.out.trans (hb4.mono W3.out.size)); have P4 := Lib.hid (P3.out.below hb4); have O4 := Lib.hid (O3.out.below hb4); clear hb4))
    clear P3 O3 HF

    have c8 : w4.cell? ⟨q3, j * 9 + 8, none⟩ = some (.int .i64 (at_ L j).v) := by
      have := Els.blk O4.out j _ (at_some HJ.out)
      obtain ⟨q', o', e, hr⟩ := this
      cases e
      have := range_num (s := at_ L j) hr
      rwa [Nat.zero_add] at this
    have f8 := O4.out.frozen (j * 9 + 8)
    have FIN : Hid (PRes A (put L r p v) (may L r p) w (.returned (.tuple #[.slice (some ⟨q3, 0, none⟩) n c3, .bool true])) (w4.setCell ⟨q3, j * 9 + 8, none⟩ (.int .i64 v))) := by
      refine ⟨some ⟨q3, 0, none⟩, c3, ?_, ?_, ?_, ?_, .inr fun ad e => by cases e; exact ⟨by show w.heap.size ≤ q3; omega, (O4.out.set_ (j * 9 + 8) (.int .i64 v)).lt⟩⟩
      · rw [HPT.out, HMAY.out, List.length_set, HN.out]
      · rw [HPT.out, List.length_set, HN.out]; exact hc3
      · have := O4.out.set_ (j * 9 + 8) (.int .i64 v)
        rw [flat_num HJ.out, ← HPT.out] at this
        exact Els.blk this
      · exact W4.out.trans (((Far.refl (only q3) w4).set_ (p := ⟨q3, j * 9 + 8, none⟩) (fun _ => rfl) _).below W4.out.size (fun k hk e => by unfold only at e; omega))
    generalize (at_ L j).v = z at *
    clear O4
    go_wp2_with fail
    refine bodyPost_ret (v := .tuple #[.slice (some ⟨q3, 0, none⟩) n c3, .bool true]) (by simp [results, Try.results15]) rfl FIN.out
end Go.Proofs.Yteddnbabgahhfaa
