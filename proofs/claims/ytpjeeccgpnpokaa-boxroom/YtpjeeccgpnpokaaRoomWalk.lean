/- The walk of BoxRoom. Conditions: the program's contracts. -/
import Derived.Test.YtpjeeccgpnpokaaRoomMem
namespace Go.Proofs.Ytpjeeccgpnpokaa
open Go.RowKit

set_option maxRecDepth 100000 in
set_option maxHeartbeats 2000000 in
theorem room_long (T : Tbl) (P : ProgB T) (a0 a1 : Int) (A : Option Addr) (k c : Nat) (w : World) (hk : 100 < k) (hm : k ≤ maxLen) :
    Calls Try.prog 5 #[.int .u8 a0, .int .u32 a1, .slice A k c] w (Ans (.bool true) w) := by
  have HA := Lib.hid (fun W => awake_ T P W)
  unfold maxLen at hm
  clear P
  go_enter Try.func5, Try.ntmps5
  go_wp2_with (first
    | (go_at_call 6; (with_reducible refine (HA.out w).mono ?_); rintro e w1 ⟨rfl, hb⟩; have B1 := Lib.hid hb; clear hb)
    | (go_at_call 6; (with_reducible refine (HA.out w1).mono ?_); rintro e w2 ⟨rfl, hb⟩; have B2 : Hid (Below w.heap.size w w2) := B1.out.trans (hb.mono B1.out.size); clear hb))
  go_ret
  exact ⟨rfl, B2.out⟩
/-- Where p is in R, as far as k. -/
def Pos (R : List Pre) (p : Pre) (k : Nat) (f : Int) : Prop := (f = -1 ∧ p ∉ R.take k) ∨ ∃ i : Nat, i < k ∧ f = (i : Int) ∧ R[i]? = some p
theorem Pos.zero (R : List Pre) (p : Pre) : Pos R p 0 (-1) := .inl ⟨rfl, by simp⟩
theorem Pos.here {R : List Pre} {p : Pre} {k : Nat} (h : R[k]? = some p) : Pos R p (k + 1) k := .inr ⟨k, by omega, rfl, h⟩
theorem Pos.there {R : List Pre} {p q : Pre} {k : Nat} {f : Int} (h : Pos R p k f) (hq : R[k]? = some q) (hne : q ≠ p) : Pos R p (k + 1) f := by
  rcases h with ⟨h1, h2⟩ | ⟨i, h1, h2, h3⟩
  · refine .inl ⟨h1, fun e => ?_⟩
    rw [List.take_add_one, hq] at e
    rcases List.mem_append.1 e with e | e
    · exact h2 e
    · simp at e; exact hne e.symm
  · exact .inr ⟨i, by omega, h2, h3⟩
section
variable {T : Tbl} {w W : World} {g : Nat} {n m t : Int} {L : List Ent} {R : List Pre} {S : List Int} {vr vs : Value} {F : Nat → Prop} {A : Option Addr} {k c i : Nat} {p : Pre}
theorem RR.row (h : RR T w g n m L R S vr vs F W) (hv : vr = .slice A k c) (hi : R[i]? = some p) : ∃ q o, A = some ⟨q, o, none⟩ ∧ W.rangeAt q (o + i * 8) p.cs := by
  obtain ⟨A', c', h1, _, _, h2, _⟩ := h.who.els
  rw [hv] at h1
  injection h1 with a b c
  subst a
  exact h2 i p hi
theorem RR.num (h : RR T w g n m L R S vr vs F W) (hv : vs = .slice A k c) (hi : S[i]? = some t) : ∃ q, A = some ⟨q, 0, none⟩ ∧ W.cell? ⟨q, i, none⟩ = some (.int .i64 t) := by
  have hl := (List.getElem?_eq_some_iff.1 hi).1
  obtain ⟨q, c', e, _⟩ := h.tkn.shape (by omega)
  obtain ⟨A', c2, h1, _, _, h2, _⟩ := h.tkn.els
  rw [e] at h1
  injection h1 with a b c
  subst a
  rw [hv] at e
  injection e with a b c
  obtain ⟨q2, o2, e2, h3⟩ := h2 i t hi
  injection e2 with e2
  injection e2 with e2 e3
  subst e2 e3
  refine ⟨q, a, ?_⟩
  have := h3 0 _ rfl
  rw [show 0 + i * kInt.n + 0 = i by show 0 + i * 1 + 0 = i; omega] at this
  exact this
theorem RR.set_ {q : Nat} (P : ProgB T) (h : RR T w g n m L R S vr (.slice (some ⟨q, 0, none⟩) S.length c) F W) (i : Nat) (z : Int) : RR T w g n m L R (S.set i z) vr (.slice (some ⟨q, 0, none⟩) S.length c) F (W.setCell ⟨q, i, none⟩ (.int .i64 z)) :=
  h.turn P (h.who.far ((Far.refl (only q) W).set_ (p := ⟨q, i, none⟩) (fun _ => rfl) _) (fun k hk e => ow_apart h.tkn h.who (by decide) q rfl (by unfold only at e; exact e ▸ hk))) (ow_set h.tkn z) ((Far.refl _ W).set_ (p := ⟨q, i, none⟩) (fun _ => .inr (.inl rfl)) _) (fun _ e => .inl e) (fun _ e => .inl e)
theorem RR.thaw {q l : Nat} (h : RR T w g n m L R S vr (.slice (some ⟨q, 0, none⟩) l c) F W) (i : Nat) : W.frozen? ⟨q, i, none⟩ = false := by
  obtain ⟨cur, hcur⟩ := ow_blk h.tkn (g := q) rfl
  exact Blk.frozen (t := 2) (cs := cur.toList) (by unfold Blk; simpa using hcur) i
end
set_option maxRecDepth 100000 in
set_option maxHeartbeats 16000000 in
theorem room_near (T : Tbl) (P : ProgB T) (a0 a1 : Int) (A0 : Option Addr) (len c0 : Nat) (O : Nat → Int) (Pf : Nat → Pre) (X Y : Nat → Int) (w : World) (hn : len ≤ 100) (b0 : 0 ≤ a0 ∧ a0 ≤ 255) (b1 : 0 ≤ a1 ∧ a1 ≤ 4294967295) (hin : ActsIn w A0 len O Pf X Y) :
    Calls Try.prog 5 #[.int .u8 a0, .int .u32 a1, .slice A0 len c0] w (Ans (.bool true) w) := by
  have HA := Lib.hid (fun W => awake_ T P W)
  have HP := Lib.hid P
  have HIN := Lib.hid hin
  clear P hin
  go_enter Try.func5, Try.ntmps5
  go_upto_region 4 with (go_at_call 6; (with_reducible refine (HA.out w).mono ?_); rintro e w1 ⟨rfl, hb⟩; have B1 := Lib.hid hb; clear hb)
  have hn0 : 1 ≤ 1 + a0 % 64 ∧ 1 + a0 % 64 ≤ 64 := by omega
  have hm0 : 1 ≤ 1 + a1 % 1073741824 ∧ 1 + a1 % 1073741824 ≤ 1073741824 := by omega
  generalize 1 + a0 % 64 = n at *
  generalize 1 + a1 % 1073741824 = m at *
  go_upto_region 5 with (go_at_call 7; (with_reducible refine (room_new HP.out B1.out hn0 hm0).mono ?_); rintro e w2 ⟨g, rfl, ha⟩; have A2 := Lib.hid ha; clear ha)
  have R0 : Hid (RB T w g n m [] [] [] (.slice none 0 0) (.slice none 0 0) nobody w2) := ⟨⟨A2.out.less (fun j e => by
    rcases e with e | e | e
    · simp [ob, Value.ownBlock] at e
    · simp [ob, Value.ownBlock] at e
    · exact e), Ow.nil, Ow.nil⟩, Rm.none_ hn0.1⟩
  clear A2 B1 HA
  go_wp2_with fail
  go_loopw [11, 12, 13, 14, 15, 16, 17, 18, 43] (fun vr vs _ _ _ _ _ _ i w' => ∃ (k : Nat) (L : List Ent) (R : List Pre) (S : List Int), k ≤ len ∧ i = .int .i64 k ∧ RB T w g n m L R S vr vs nobody w') (fun _ _ _ _ _ _ _ _ i _ => len - (intOf i).toNat)
  case atStart => exact ⟨0, [], [], [], by omega, rfl, R0.out⟩
  case round =>
    clear R0
    obtain ⟨k, L, R, S, hk, rfl, hrb⟩ := hrel
    have R1 := Lib.hid hrb
    clear hrb
    by_cases hlt : k < len
    · obtain ⟨b, o, hA0, hs0, hp, hO, hX, hY⟩ := HIN.out k hlt
      subst hA0
      have hs1 : w.rangeAt b (o + k * 11) (ac (O k) (Pf k) (X k) (Y k)) := hs0
      have HS : Hid (wr.rangeAt b (o + k * 11) (ac (O k) (Pf k) (X k) (Y k))) := range_below hs1 (Nat.le_refl _) R1.out.tab.be
      generalize Pf k = p at *
      generalize O k = K0 at *
      generalize X k = N1 at *
      generalize Y k = N0 at *
      have HOK := Lib.hid hp
      have HV : Hid (i64 N0) := hY
      have hb0 : Hid (Blk (wr.alloc (.cells (ac 0 pre0 0 0).toArray 39)) wr.heap.size 39 (ac 0 pre0 0 0)) := Blk.new wr 39 _
      have hall : (ac K0 p N1 N0).toArray.all (·.oneCell') = true := all_oneCell_toArray (ac_each _ _ _ _)
      clear hs0 hs1 hp
      go_upto_region 10 with fail
      go_upto_region 11 with (first | (refine wpList_loadE (by rfl) 39 _ Try.underlying39 rfl (.tmp 48) rfl b (o + k * 11) rfl _ HS.out (size39 _ _ _ _) ?_) | (refine wpList_lay rfl 39 11 (size39 K0 p N1 N0) (.tmp 14) (.tmp 49) rfl _ (ac K0 p N1 N0) rfl rfl 39 (ac 0 pre0 0 0) hb0.out rfl rfl hall ?_; intro w4 hB4 hF4; have X4 : Hid (Blk w4 wr.heap.size 39 (ac K0 p N1 N0)) := hB4; have R4 : Hid (RB T w g n m L R S u11 u12 (only wr.heap.size) w4) := R1.out.more HP.out (below_only ((Below.refl _ wr).alloc (Nat.le_refl _) _) hF4.out (Nat.le_refl _) (by simp)) hB4.out.lt; clear hB4 hF4))
      clear hb0 hall HS R1
      generalize wr.heap.size = bx at *
      have R5 := R4
      obtain ⟨Ar, cr, hvr, _, _, _, _, _⟩ := R4.out.who.els
      obtain ⟨As, cs, hvs, _, _, _, _, _⟩ := R4.out.tkn.els
      have HVR := Lib.hid hvr
      have HVS := Lib.hid hvs
      have hfit := R4.out.rm.fit
      have hlen := Lib.hid R4.out.rm.len
      obtain ⟨vr, hvr0⟩ : ∃ v, u11 = v := ⟨_, rfl⟩
      obtain ⟨vs, hvs0⟩ : ∃ v, u12 = v := ⟨_, rfl⟩
      rw [hvr0] at HVR R5
      rw [hvs0] at HVS R5
      rw [hvr]
      rw [hvs]
      clear R4 hvr0 hvs0
      clear hvr hvs
      go_wp2_with fail
      go_loopw [15, 16, 52] (fun f _ j w' => ∃ (i : Nat) (z : Int), i ≤ R.length ∧ j = .int .i64 i ∧ f = .int .i64 z ∧ Pos R p i z ∧ RB T w g n m L R S vr vs (only bx) w' ∧ Blk w' bx 39 (ac K0 p N1 N0)) (fun _ _ j _ => R.length - (intOf j).toNat)
      case atStart => exact ⟨0, -1, by omega, rfl, rfl, Pos.zero R p, R5.out, X4.out⟩
      case round =>
        clear R5 X4
        obtain ⟨i, z, hi, rfl, rfl, hpos, hrb, hx⟩ := hrel
        have HPOS := Lib.hid hpos
        have R1 := Lib.hid hrb
        have X1 := Lib.hid hx
        clear hpos hrb hx
        by_cases hil : i < R.length
        · obtain ⟨pj, hgi⟩ : ∃ q, R[i]? = some q := ⟨R[i], by simp [hil]⟩
          have hpok := R1.out.rm.ok pj (List.mem_of_getElem? hgi)
          obtain ⟨q, o, hAq, hrg⟩ := R1.out.row HVR.out hgi
          subst hAq
          have HPJ : Hid (∀ W, Below wr.heap.size wr W → W.rangeAt q (o + i * 8) pj.cs) := fun W hW => range_below hrg (Nat.le_refl _) hW
          have HPX : Hid (∀ W, Below wr.heap.size wr W → W.rangeAt bx 1 p.cs) := fun W hW => ac_pre (X1.out.below hW)
          have HQ := Lib.hid (fun W => eq_pre hpok HOK.out W)
          clear hrg hpok
          by_cases hpk : pj = p
          · rw [decide_eq_true hpk] at HQ
            obtain rfl := hpk.symm
            have HPS := Lib.hid (Pos.here hgi)
            clear hgi HPOS
            go_upto_region 15 with fail
            refine wp_region_held_drew (S := fun W => Below wr.heap.size wr W) (by kernel_rfl) ?_ (fun _ => ?_)
            · exact (Below.refl _ _).drew
            have HS0 : Hid (Below wr.heap.size wr wr.drew) := (Below.refl _ _).drew
            have R2 : Hid (RB T w g n m L R S vr vs (only bx) wr.drew) := R1.out.below HP.out (Below.refl _ wr).drew
            have X2 : Hid (Blk wr.drew bx 39 (ac K0 p N1 N0)) := X1.out
            generalize wr.drew = x2 at *
            refine wpAnyH_take (i := 0) (oi := ⟨some 55, _, _, _, _, _⟩) (v := ?_) rfl (by kernel_rfl) (by kernel_rfl) (by kernel_rfl) (fun _ _ _ h => h) (Or.inl ⟨by rfl, ?_⟩) HS0.out ?_
            rotate_left
            · (intro W hSW; clear hSW; go_simp)
              first | done | (with_reducible rfl)
            try simp only [Act.put, List.setIfInBounds_toArray, List.set_cons_zero, List.set_cons_succ]
            refine wpAnyH_take (i := 1) (oi := ⟨some 56, _, _, _, _, _⟩) (v := ?_) rfl (by kernel_rfl) (by kernel_rfl) (by kernel_rfl) (fun _ _ _ h => h) (Or.inl ⟨by rfl, ?_⟩) HS0.out ?_
            rotate_left
            · (intro W hSW; clear hSW; go_simp)
              first | done | (with_reducible rfl)
            try simp only [Act.put, List.setIfInBounds_toArray, List.set_cons_zero, List.set_cons_succ]
            refine wpAnyH_take (i := 2) (oi := ⟨some 57, _, _, _, _, _⟩) (v := ?_) rfl (by kernel_rfl) (by kernel_rfl) (by kernel_rfl) (fun _ _ _ h => h) (Or.inl ⟨by rfl, ?_⟩) HS0.out ?_
            rotate_left
            · (intro W hSW; clear hSW; go_simp)
              first | done | (with_reducible rfl)
            try simp only [Act.put, List.setIfInBounds_toArray, List.set_cons_zero, List.set_cons_succ]
            refine wpAnyH_take (i := 3) (oi := ⟨some 58, _, _, _, _, _⟩) (v := .agg p.cs.toArray) rfl (by kernel_rfl) (by kernel_rfl) (by kernel_rfl) (fun _ _ _ h => h) (yields_pre (by rfl) (.tmp 57) rfl q (o + i * 8) rfl p HPJ.out) HS0.out ?_
            try simp only [Act.put, List.setIfInBounds_toArray, List.set_cons_zero, List.set_cons_succ]
            refine wpAnyH_take (i := 4) (oi := ⟨some 59, _, _, _, _, _⟩) (v := ?_) rfl (by kernel_rfl) (by kernel_rfl) (by kernel_rfl) (fun _ _ _ h => h) (Or.inl ⟨by rfl, ?_⟩) HS0.out ?_
            rotate_left
            · (intro W hSW; clear hSW; go_simp)
              first | done | (with_reducible rfl)
            try simp only [Act.put, List.setIfInBounds_toArray, List.set_cons_zero, List.set_cons_succ]
            refine wpAnyH_take (i := 5) (oi := ⟨some 60, _, _, _, _, _⟩) (v := .agg p.cs.toArray) rfl (by kernel_rfl) (by kernel_rfl) (by kernel_rfl) (fun _ _ _ h => h) (yields_pre (by rfl) (.tmp 59) rfl bx 1 rfl p HPX.out) HS0.out ?_
            try simp only [Act.put, List.setIfInBounds_toArray, List.set_cons_zero, List.set_cons_succ]
            refine wpAnyH_take (i := 6) (oi := ⟨some 61, _, _, _, _, _⟩) (v := .bool true) rfl (by kernel_rfl) (by kernel_rfl) (by kernel_rfl) (fun _ _ _ h => h) (yields_eql (by rfl) 31 (by kernel_rfl) (.tmp 58) (.tmp 60) 31 rfl _ _ rfl rfl _ HQ.out) HS0.out ?_
            try simp only [Act.put, List.setIfInBounds_toArray, List.set_cons_zero, List.set_cons_succ]
            refine wpAnyH_done (by kernel_rfl) ?_ _
            go_wp2_with fail
            go_roundw
            case rel => exact ⟨i + 1, i, by omega, by go_num, rfl, HPS.out, R2.out, X2.out⟩
            case measure => simp [intOf]; omega
          · rw [decide_eq_false hpk] at HQ
            have HPS := Lib.hid (Pos.there HPOS.out hgi hpk)
            clear hgi HPOS hpk
            go_upto_region 15 with fail
            refine wp_region_held_drew (S := fun W => Below wr.heap.size wr W) (by kernel_rfl) ?_ (fun _ => ?_)
            · exact (Below.refl _ _).drew
            have HS0 : Hid (Below wr.heap.size wr wr.drew) := (Below.refl _ _).drew
            have R2 : Hid (RB T w g n m L R S vr vs (only bx) wr.drew) := R1.out.below HP.out (Below.refl _ wr).drew
            have X2 : Hid (Blk wr.drew bx 39 (ac K0 p N1 N0)) := X1.out
            generalize wr.drew = x2 at *
            refine wpAnyH_take (i := 0) (oi := ⟨some 55, _, _, _, _, _⟩) (v := ?_) rfl (by kernel_rfl) (by kernel_rfl) (by kernel_rfl) (fun _ _ _ h => h) (Or.inl ⟨by rfl, ?_⟩) HS0.out ?_
            rotate_left
            · (intro W hSW; clear hSW; go_simp)
              first | done | (with_reducible rfl)
            try simp only [Act.put, List.setIfInBounds_toArray, List.set_cons_zero, List.set_cons_succ]
            refine wpAnyH_take (i := 1) (oi := ⟨some 56, _, _, _, _, _⟩) (v := ?_) rfl (by kernel_rfl) (by kernel_rfl) (by kernel_rfl) (fun _ _ _ h => h) (Or.inl ⟨by rfl, ?_⟩) HS0.out ?_
            rotate_left
            · (intro W hSW; clear hSW; go_simp)
              first | done | (with_reducible rfl)
            try simp only [Act.put, List.setIfInBounds_toArray, List.set_cons_zero, List.set_cons_succ]
            refine wpAnyH_take (i := 2) (oi := ⟨some 57, _, _, _, _, _⟩) (v := ?_) rfl (by kernel_rfl) (by kernel_rfl) (by kernel_rfl) (fun _ _ _ h => h) (Or.inl ⟨by rfl, ?_⟩) HS0.out ?_
            rotate_left
            · (intro W hSW; clear hSW; go_simp)
              first | done | (with_reducible rfl)
            try simp only [Act.put, List.setIfInBounds_toArray, List.set_cons_zero, List.set_cons_succ]
            refine wpAnyH_take (i := 3) (oi := ⟨some 58, _, _, _, _, _⟩) (v := .agg pj.cs.toArray) rfl (by kernel_rfl) (by kernel_rfl) (by kernel_rfl) (fun _ _ _ h => h) (yields_pre (by rfl) (.tmp 57) rfl q (o + i * 8) rfl pj HPJ.out) HS0.out ?_
            try simp only [Act.put, List.setIfInBounds_toArray, List.set_cons_zero, List.set_cons_succ]
            refine wpAnyH_take (i := 4) (oi := ⟨some 59, _, _, _, _, _⟩) (v := ?_) rfl (by kernel_rfl) (by kernel_rfl) (by kernel_rfl) (fun _ _ _ h => h) (Or.inl ⟨by rfl, ?_⟩) HS0.out ?_
            rotate_left
            · (intro W hSW; clear hSW; go_simp)
              first | done | (with_reducible rfl)
            try simp only [Act.put, List.setIfInBounds_toArray, List.set_cons_zero, List.set_cons_succ]
            refine wpAnyH_take (i := 5) (oi := ⟨some 60, _, _, _, _, _⟩) (v := .agg p.cs.toArray) rfl (by kernel_rfl) (by kernel_rfl) (by kernel_rfl) (fun _ _ _ h => h) (yields_pre (by rfl) (.tmp 59) rfl bx 1 rfl p HPX.out) HS0.out ?_
            try simp only [Act.put, List.setIfInBounds_toArray, List.set_cons_zero, List.set_cons_succ]
            refine wpAnyH_take (i := 6) (oi := ⟨some 61, _, _, _, _, _⟩) (v := .bool false) rfl (by kernel_rfl) (by kernel_rfl) (by kernel_rfl) (fun _ _ _ h => h) (yields_eql (by rfl) 31 (by kernel_rfl) (.tmp 58) (.tmp 60) 31 rfl _ _ rfl rfl _ HQ.out) HS0.out ?_
            try simp only [Act.put, List.setIfInBounds_toArray, List.set_cons_zero, List.set_cons_succ]
            refine wpAnyH_done (by kernel_rfl) ?_ _
            go_wp2_with fail
            go_roundw
            case rel => exact ⟨i + 1, z, by omega, by go_num, rfl, HPS.out, R2.out, X2.out⟩
            case measure => simp [intOf]; omega
        · obtain rfl : i = R.length := by omega
          have c0 := ac_kind X1.out
          have hk2 : K0.tmod 2 = K0 % 2 := by rw [Int.tmod_eq_emod_of_nonneg hO.1]
          rcases HPOS.out with ⟨rfl, hnot⟩ | ⟨j, hjl, rfl, hj⟩
          · clear HPOS
            rw [List.take_length] at hnot
            by_cases hpar : K0 % 2 = 0
            · rw [hpar] at hk2
              by_cases hfull : n ≤ R.length
              · have hc := R1.out.put_ HP.out hn0 hm0 HOK.out
                simp only [if_neg hnot, if_pos hfull] at hc
                have HC := Lib.hid hc
                clear hc
                go_upto_region 20 with (first
                  | (refine wpList_pre (by rfl) (.tmp 69) rfl bx 1 rfl p (ac_pre X1.out) ?_)
                  | (go_at_call 8; (with_reducible refine HC.out.mono ?_); rintro e w5 ⟨rfl, L', hr, hm, hf⟩))
                have X5 := Lib.hid (RR.blk X1.out hf)
                have hvr := HVR.out
                have hvs := HVS.out
                rw [hvr, hvs] at hr
                clear HC hf X1 R1 c0
                have R6 : Hid (RB T w g n m L' R S (.slice Ar R.length cr) (.slice As S.length cs) nobody w5) := RB.fewer ⟨hr, hm⟩
                clear hr hm hvr hvs
                go_wp2_with fail
                go_roundw
                case rel => exact ⟨k + 1, L', R, S, by omega, by go_num, R6.out⟩
                case measure => simp [intOf]; omega
              · have hc := R1.out.put_ HP.out hn0 hm0 HOK.out
                simp only [if_neg hnot, if_neg hfull] at hc
                have HC := Lib.hid hc
                clear hc
                go_upto_region 20 with (first
                  | (refine wpList_pre (by rfl) (.tmp 69) rfl bx 1 rfl p (ac_pre X1.out) ?_)
                  | (go_at_call 8; (with_reducible refine HC.out.mono ?_); rintro e w5 ⟨rfl, L', hr, hm, hf⟩))
                have X5 := Lib.hid (RR.blk X1.out hf)
                have hvr := HVR.out
                have hvs := HVS.out
                rw [hvr, hvs] at hr
                clear HC hf X1 R1 c0
                have hsl : S.length = R.length := hlen.out.symm
                obtain ⟨v6, w6, v8, w8, run1, run2, h8, hf8⟩ := RR.two HP.out hr (by omega) (by omega) p
                have R6 : Hid (RB T w g n m L' (R ++ [p]) (S ++ [0]) v6 v8 nobody w8) := RB.fewer ⟨h8, hm⟩
                clear hr hm hvr hvs h8 hf8 hsl
                go_upto_region 23 with fail
                go_upto_region 24 with (first
                  | (refine wpList_pre (by rfl) (.tmp 94) rfl bx 1 rfl p (ac_pre X5.out) ?_)
                  | (refine wpList_onep rfl (.tmp 95) rfl p rfl ?_)
                  | (at_builtin; refine wpList_app rfl 33 (.tmp 93) (.tmp 96) rfl _ _ _ rfl rfl run1 ?_; clear run1)
                  | (at_builtin; refine wpList_app rfl 53 (.tmp 98) (.tmp 99) rfl _ _ _ rfl rfl run2 ?_; clear run2))
                go_wp2_with fail
                go_roundw
                case rel => exact ⟨k + 1, L', R ++ [p], S ++ [0], by omega, by go_num, R6.out⟩
                case measure => simp [intOf]; omega
            · have hpar1 : K0 % 2 = 1 := by omega
              rw [hpar1] at hk2
              clear hpar hpar1
              have c3 := ac_num X1.out
              have HC := Lib.hid (R1.out.take_no HP.out hn0 hm0 HOK.out HV.out hnot)
              go_upto_region 25 with (first
                | (refine wpList_pre (by rfl) (.tmp 102) rfl bx 1 rfl p (ac_pre X1.out) ?_)
                | (go_at_call 14; (with_reducible refine HC.out.mono ?_); rintro e w5 ⟨rfl, L', hr, hm, hf⟩))
              have X5 := Lib.hid (RR.blk X1.out hf)
              have hvr := HVR.out
              have hvs := HVS.out
              rw [hvr, hvs] at hr
              have c5 : ∀ N, (w5.drewN N).cell? ⟨bx, 10, none⟩ = some (.int .i64 N0) := fun N => ac_num X5.out
              clear HC hf X1 R1 c0 c3
              go_quiet (fail)
              have R6 : Hid (RB T w g n m L' R S (.slice Ar R.length cr) (.slice As S.length cs) nobody (w5.drewN nq)) := (RB.fewer ⟨hr, hm⟩).below HP.out (below_drewN (Below.refl _ _) nq)
              clear hr hm hvr hvs
              go_wp2_with fail
              go_roundw
              case rel => exact ⟨k + 1, L', R, S, by omega, by go_num, R6.out⟩
              case measure => simp [intOf]; omega
          · have hp : p ∈ R := List.mem_of_getElem? hj
            clear HPOS
            by_cases hpar : K0 % 2 = 0
            · rw [hpar] at hk2
              have hc := R1.out.put_ HP.out hn0 hm0 HOK.out
              simp only [if_pos hp] at hc
              have HC := Lib.hid hc
              clear hc
              go_upto_region 20 with (first
                | (refine wpList_pre (by rfl) (.tmp 69) rfl bx 1 rfl p (ac_pre X1.out) ?_)
                | (go_at_call 8; (with_reducible refine HC.out.mono ?_); rintro e w5 ⟨rfl, L', hr, hm, hf⟩))
              have X5 := Lib.hid (RR.blk X1.out hf)
              have hvr := HVR.out
              have hvs := HVS.out
              rw [hvr, hvs] at hr
              clear HC hf X1 R1 c0
              have R6 : Hid (RB T w g n m L' R S (.slice Ar R.length cr) (.slice As S.length cs) nobody w5) := RB.fewer ⟨hr, hm⟩
              clear hr hm hvr hvs
              go_wp2_with fail
              go_roundw
              case rel => exact ⟨k + 1, L', R, S, by omega, by go_num, R6.out⟩
              case measure => simp [intOf]; omega
            · have hpar1 : K0 % 2 = 1 := by omega
              rw [hpar1] at hk2
              clear hpar hpar1
              have c3 := ac_num X1.out
              have hjs : j < S.length := by rw [← hlen.out]; exact hjl
              obtain ⟨t, ht⟩ : ∃ t, S[j]? = some t := ⟨S[j], by simp [hjs]⟩
              have hbd := R1.out.rm.bd t (List.mem_of_getElem? ht)
              obtain ⟨qs, hAs, _⟩ := R1.out.num HVS.out ht
              subst hAs
              have hc := R1.out.take_ HP.out hn0 hm0 HOK.out HV.out hj ht
              have hy := HV.out
              unfold i64 at hy
              have hd1 : decide ((j : Int) < 0) = false := decide_eq_false (by omega)
              have hd2 : decide ((0 : Int) ≤ (j : Int)) = true := decide_eq_true (by omega)
              by_cases hy0 : 0 ≤ N0
              · have hd3 : decide (0 ≤ N0) = true := decide_eq_true hy0
                by_cases hy1 : N0 ≤ m - t
                · have hd4 : decide (N0 ≤ m - t) = true := decide_eq_true hy1
                  simp only [hy0, hy1, and_self, decide_true, if_true] at hc
                  have HC := Lib.hid hc
                  clear hc
                  go_upto_region 25 with (first
                    | (refine wpList_pre (by rfl) (.tmp 102) rfl bx 1 rfl p (ac_pre X1.out) ?_)
                    | (go_at_call 14; (with_reducible refine HC.out.mono ?_); rintro e w5 ⟨rfl, L', hr, hm, hf⟩))
                  have X5 := Lib.hid (RR.blk X1.out hf)
                  have hvr := HVR.out
                  have hvs := HVS.out
                  rw [hvr, hvs] at hr
                  have c5 : ∀ N, (w5.drewN N).cell? ⟨bx, 10, none⟩ = some (.int .i64 N0) := fun N => ac_num X5.out
                  clear HC hf X1 R1 c0 c3
                  have c6 : ∀ N, (w5.drewN N).cell? ⟨qs, j, none⟩ = some (.int .i64 t) := fun N => by
                    obtain ⟨q', e, h⟩ := RR.num hr rfl ht
                    injection e with e
                    injection e with e
                    subst e
                    exact h
                  go_quiet (fail)
                  go_upto_region 28 with fail
                  have hr7 : Hid (RR T w g n m L' R S (.slice Ar R.length cr) (.slice (some ⟨qs, 0, none⟩) S.length cs) (only bx) (w5.drewN nq).drew) := ⟨hr.tab.below HP.out (below_drewN (Below.refl _ _) nq).drew, hr.who, hr.tkn⟩
                  have c7 : (w5.drewN nq).drew.cell? ⟨bx, 10, none⟩ = some (.int .i64 N0) := c5 nq
                  have c8 : (w5.drewN nq).drew.cell? ⟨qs, j, none⟩ = some (.int .i64 t) := c6 nq
                  clear hr hvr hvs c5 c6 X5
                  have hfr : (w5.drewN nq).drew.frozen? ⟨qs, j, none⟩ = false := hr7.out.thaw j
                  generalize w5.drewN nq = x6 at *
                  go_region
                  have R8 : Hid (RB T w g n m L' R (S.set j (t + N0)) (.slice Ar R.length cr) (.slice (some ⟨qs, 0, none⟩) S.length cs) nobody (x6.drew.setCell ⟨qs, j, none⟩ (.int .i64 (t + N0)))) := RB.fewer ⟨hr7.out.set_ HP.out j (t + N0), hm⟩
                  clear hm hr7 c7 c8 hfr
                  go_wp2_with fail
                  go_roundw
                  case rel => exact ⟨k + 1, L', R, S.set j (t + N0), by omega, by go_num, R8.out⟩
                  case measure => simp [intOf]; omega
                · have hd4 : decide (N0 ≤ m - t) = false := decide_eq_false hy1
                  simp only [hy0, hy1, and_false, decide_false, if_false] at hc
                  have HC := Lib.hid hc
                  clear hc
                  go_upto_region 25 with (first
                    | (refine wpList_pre (by rfl) (.tmp 102) rfl bx 1 rfl p (ac_pre X1.out) ?_)
                    | (go_at_call 14; (with_reducible refine HC.out.mono ?_); rintro e w5 ⟨rfl, L', hr, hm, hf⟩))
                  have X5 := Lib.hid (RR.blk X1.out hf)
                  have hvr := HVR.out
                  have hvs := HVS.out
                  rw [hvr, hvs] at hr
                  have c5 : ∀ N, (w5.drewN N).cell? ⟨bx, 10, none⟩ = some (.int .i64 N0) := fun N => ac_num X5.out
                  clear HC hf X1 R1 c0 c3
                  have c6 : ∀ N, (w5.drewN N).cell? ⟨qs, j, none⟩ = some (.int .i64 t) := fun N => by
                    obtain ⟨q', e, h⟩ := RR.num hr rfl ht
                    injection e with e
                    injection e with e
                    subst e
                    exact h
                  go_quiet (fail)
                  have R6 : Hid (RB T w g n m L' R S (.slice Ar R.length cr) (.slice (some ⟨qs, 0, none⟩) S.length cs) nobody (w5.drewN nq)) := (RB.fewer ⟨hr, hm⟩).below HP.out (below_drewN (Below.refl _ _) nq)
                  clear hr hm hvr hvs
                  go_wp2_with fail
                  go_roundw
                  case rel => exact ⟨k + 1, L', R, S, by omega, by go_num, R6.out⟩
                  case measure => simp [intOf]; omega
              · have hd3 : decide (0 ≤ N0) = false := decide_eq_false hy0
                simp only [hy0, false_and, decide_false, if_false] at hc
                have HC := Lib.hid hc
                clear hc
                go_upto_region 25 with (first
                  | (refine wpList_pre (by rfl) (.tmp 102) rfl bx 1 rfl p (ac_pre X1.out) ?_)
                  | (go_at_call 14; (with_reducible refine HC.out.mono ?_); rintro e w5 ⟨rfl, L', hr, hm, hf⟩))
                have X5 := Lib.hid (RR.blk X1.out hf)
                have hvr := HVR.out
                have hvs := HVS.out
                rw [hvr, hvs] at hr
                have c5 : ∀ N, (w5.drewN N).cell? ⟨bx, 10, none⟩ = some (.int .i64 N0) := fun N => ac_num X5.out
                clear HC hf X1 R1 c0 c3
                go_quiet (fail)
                have R6 : Hid (RB T w g n m L' R S (.slice Ar R.length cr) (.slice (some ⟨qs, 0, none⟩) S.length cs) nobody (w5.drewN nq)) := (RB.fewer ⟨hr, hm⟩).below HP.out (below_drewN (Below.refl _ _) nq)
                clear hr hm hvr hvs
                go_wp2_with fail
                go_roundw
                case rel => exact ⟨k + 1, L', R, S, by omega, by go_num, R6.out⟩
                case measure => simp [intOf]; omega
    · have hkn : k = len := by omega
      clear hlt
      obtain ⟨Ar, cr, hvr, _, _, _, _, _⟩ := R1.out.who.els
      have hfit := R1.out.rm.fit
      have hl : (pres L).length = R.length := R1.out.rm.pres.length_eq
      have hc := R1.out.tab.all HP.out (cfR_ok hn0 hm0) (R1.out.rm.oks hm0) (x := 5) ⟨by omega, by omega⟩
      rw [R1.out.rm.swp, hl] at hc
      have HC := Lib.hid hc
      clear hc R1
      rw [hvr]
      clear hvr hl
      go_wp2_with (go_at_call 10; (with_reducible refine HC.out.mono ?_); rintro e w5 ⟨A, c, hA, hcl, rfl, ha, hf⟩; have A5 := Lib.hid ha.be; clear hA hcl ha hf)
      go_ret
      exact ⟨rfl, A5.out⟩
end Go.Proofs.Ytpjeeccgpnpokaa
