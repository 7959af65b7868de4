/- The walk of GensPlay. Conditions: those of each theorem. -/
import Derived.Test.YtfhlgmmfknfamaaDocSame
import Derived.Test.YtfhlgmmfknfamaaDocNews
import Derived.Test.YtfhlgmmfknfamaaPlayEnds
import Derived.Lib.MinMax
namespace Go.Proofs.Ytfhlgmmfknfamaa
open Go.RowKit

/-- The program's gens as S, the document's as D. -/
structure Pl (T : Gbl) (w1 : World) (g gd : Nat) (S D : St) (W : World) : Prop where
  a : At T w1 g S (only gd) W
  d : Blk W gd 34 (dcs D)
  lo : w1.heap.size ≤ gd
section
variable {T : Gbl} {K : Ks} {w1 W W' : World} {g gd : Nat} {S S' D D' : St} {v : Value} {e : Ending} {f : Flo} {l n : Int}
theorem Pl.below (P : ProgG T K) (h : Pl T w1 g gd S D W) (hb : Below W.heap.size W W') : Pl T w1 g gd S D W' := ⟨h.a.below P hb, h.d.below hb, h.lo⟩
theorem Pl.drew (P : ProgG T K) (h : Pl T w1 g gd S D W) : Pl T w1 g gd S D W.drew := h.below P (Below.refl _ W).drew
theorem Pl.act (h : Pl T w1 g gd S D W) (x : Act1 T w1 g S' (only gd) v W e W') : Pl T w1 g gd S' D W' := ⟨x.2.1, h.d.far x.2.2 (fun k => k.2 rfl), h.lo⟩
theorem Pl.put (P : ProgG T K) (h : Pl T w1 g gd S D W) (hd : Blk W' gd 34 (dcs D')) (hf : Far (only gd) W W') : Pl T w1 g gd S D' W' := ⟨h.a.far P hf (fun j hj => ⟨hj, by have e : j = gd := hj; rw [e]; exact h.lo⟩), hd, h.lo⟩
theorem Pl.same (P : ProgG T K) (R : RefK K) (h : Pl T w1 g gd S S W) (hS : S.Ok) (hf : f.Ok) (hl : i64 l) (hn : i64 n) :
    Calls Try.prog 16 #[.pointer (some ⟨g, 0, none⟩), .agg (dcs S).toArray, .agg f.cs.toArray, .int .i64 l, .int .i64 n] W (Ans (.bool true) W) := by
  obtain ⟨b, h1, _⟩ := h.a
  exact same_ T K P R b g S f l n W h1 hS hf hl hn
end
theorem stp_ep (S : St) : (stp S).ep ≤ S.ep + 1 := by
  unfold stp
  split
  · omega
  · split
    · exact Nat.le_refl _
    · exact Nat.le_succ _
theorem rek_ep (S : St) (k : Key) : (rek S k).ep = S.ep := by
  unfold rek
  split
  · rfl
  · split <;> rfl
/-- Into a variable, in a region that draws. -/
theorem step_lay {ops : Array Oper} {o : Oper} {a : Act} {w : World} {K : Act → World → Prop} {Q : Exit → Act → World → Prop} {E : Prop} (hw : Region.wanted o (yielded ops a.tmps) = true) (ty : TypeId) (k : Nat) (hty : (Try.prog.info? ty).map (·.size) = some k) (x y : Operand) (ho : o.op = .store ty x y)
    (g : Nat) (xs : List Value) (hx : a.eval x = .pointer (some ⟨g, 0, none⟩)) (hy : a.eval y = .agg xs.toArray) (t : TypeId) (old : List Value) (hb : Blk w g t old) (hl : old.length = k) (hxl : xs.length = k) (h1 : xs.toArray.all (·.oneCell') = true)
    (h : ∀ w', Hid (Blk w' g t xs) → Hid (Far (only g) w w') → K (a.put o.dst undef) w') : if Region.wanted o (yielded ops a.tmps) = true then Oper.wp Try.prog o a w K Q else E := by
  rw [if_pos hw]
  exact wp_store_row ty x y ho g xs.toArray hx hy t old.toArray hb (by rw [List.size_toArray, hxl]; exact hty) (by rw [List.size_toArray, List.size_toArray, hl, hxl]) h1 (h _ (setRow_blk hb xs) (setRow_far w g _))
/-- A load of the document's, in a region that draws. -/
theorem step_doc {ops : Array Oper} {o : Oper} {a : Act} {w : World} {K : Act → World → Prop} {Q : Exit → Act → World → Prop} {E : Prop} (hw : Region.wanted o (yielded ops a.tmps) = true) (x : Operand) (ho : o.op = .load 34 x)
    (b : Nat) (hx : a.eval x = .pointer (some ⟨b, 0, none⟩)) (S : St) (hc : Blk w b 34 (dcs S)) (hK : K (a.put o.dst (.agg (dcs S).toArray)) w) : if Region.wanted o (yielded ops a.tmps) = true then Oper.wp Try.prog o a w K Q else E := by
  rw [if_pos hw]
  exact wp_load_mid 34 x ho b 0 hx (dcs S) _ (whole_at hc) Try.underlying34 rfl (by rw [dcs_len]; exact size34) hK
set_option maxRecDepth 100000 in
set_option maxHeartbeats 8000000 in
theorem plays_near (T : Gbl) (K : Ks) (P : ProgG T K) (RF : RefK K) (n : Nat) (k0 : Key) (A B : Option Addr) (La : List Key) (Lf : List Flo) (c c2 : Nat) (y : Int) (w : World) (hl : La.length ≤ 60) (hm : Lf.length ≤ 10) (hk : k0.Ok) (hn1 : 1 ≤ n) (hn64 : n ≤ 64) (hEA : Els kKey w A La) (hLA : ∀ x ∈ La, x.Ok) (hEF : Els kFlo w B Lf) (hLF : ∀ x ∈ Lf, x.Ok) (hy : i64 y) :
    Calls Try.prog 3 #[.int .i64 (n : Nat), .agg k0.cs.toArray, .slice A La.length c, .slice B Lf.length c2, .int .i64 y] w (Ans (.bool true) w) := by
  have HP := Lib.hid P
  have HRF := Lib.hid RF
  have HA := Lib.hid (fun W => awake_ T K P W)
  have HK := Lib.hid hk
  have HEA := Lib.hid hEA
  have HLA := Lib.hid hLA
  have HEF := Lib.hid hEF
  have HLF := Lib.hid hLF
  have HY := Lib.hid hy
  have HDN := Lib.hid (fun W => dnew_ n k0 W)
  have h2 : i64 2 := by constructor <;> decide
  have X1 : Hid (Below w.heap.size w (w.alloc (.cells k0.cs.toArray 22))) := (Below.refl _ w).alloc (Nat.le_refl _) _
  have Y1 := Lib.hid (Blk.new w 22 k0.cs)
  obtain ⟨l, hll⟩ : ∃ l, La.length = l := ⟨_, rfl⟩
  have HLL := Lib.hid hll
  obtain ⟨m, hmm⟩ : ∃ m, Lf.length = m := ⟨_, rfl⟩
  have HLM := Lib.hid hmm
  rw [hll] at hl ⊢
  rw [hmm] at hm ⊢
  clear P RF hk hEA hLA hEF hLF hy hll hmm
  go_enter Try.func3, Try.ntmps3
  go_upto_region 1 with fail
  generalize (w.alloc (.cells k0.cs.toArray 22)) = w0 at *
  go_upto_region 3 with (go_at_call 7; (with_reducible refine (HA.out w0).mono ?_); rintro e w1 ⟨rfl, hb⟩; have WB : Hid (Below w.heap.size w w1) := X1.out.trans (hb.mono X1.out.size); have Y2 := Lib.hid (Y1.out.below hb); clear hb)
  clear X1 Y1 HA
  have HNEW := Lib.hid (At.newF (w := w1) (F := nobody) HP.out (Below.refl _ w1) (m := n) hn1 hn64 HK.out (fun _ h => absurd h (fun e => e)))
  go_upto_region 4 with (first
    | (refine wpList_key (by rfl) (.tmp 6) rfl _ 0 rfl k0 (whole_at Y2.out) ?_)
    | (go_at_call 8; (with_reducible refine HNEW.out.mono ?_); rintro e w2 ⟨g, rfl, ha, hb⟩; have A2 := Lib.hid ha; have Y3 := Lib.hid (Y2.out.below hb); clear ha hb))
  clear HNEW Y2
  have hS0 := st0_ok (k := k0) (n := n) hn1 hn64 HK.out
  go_upto_region 6 with fail
  go_upto_region 7 with (first
    | (refine wpList_key (by rfl) (.tmp 6) rfl _ 0 rfl k0 (whole_at Y3.out) ?_)
    | (go_at_call 12; (with_reducible refine (HDN.out w2).mono ?_); rintro e w3 ⟨rfl, hb⟩; have A3 := Lib.hid (A2.out.below HP.out hb); clear hb)
    | (refine wpList_new34 rfl rfl ?_; intro w4 B4 W4; have A4 := Lib.hid ((A3.out.grow HP.out W4.out).less (F' := only w3.heap.size) (fun j hj => .inr (by have e : j = w3.heap.size := hj; rw [e]; exact ⟨Nat.le_refl _, B4.out.lt⟩))); have P4 : Hid (Pl T w1 g w3.heap.size (st0 n k0) stz w4) := ⟨A4.out, B4.out, A3.out.be.size⟩)
    | (refine wpList_lay rfl 34 36 size34 (.tmp 13) (.tmp 69) rfl w3.heap.size (dcs (st0 n k0)) rfl rfl 34 _ P4.out.d (dcs_len _) (dcs_len _) (all_oneCell_toArray (dcs_each _)) ?_; intro w5 hB5 hF5; have P5 := Lib.hid (P4.out.put HP.out hB5.out hF5.out)))
  clear A2 A3 A4 B4 W4 P4 Y3 HDN hF5 hB5
  generalize w3.heap.size = gd at *
  go_wp2_with fail
  go_loopw [12, 14, 15, 16, 17, 18, 19, 72] (fun _ _ _ _ _ _ _ v w' => ∃ (k : Nat) (S : St), k ≤ l ∧ v = .int .i64 k ∧ Pl T w1 g gd S S w' ∧ S.Ok ∧ S.ep ≤ k) (fun _ _ _ _ _ _ _ v _ => l - (intOf v).toNat)
  case atStart => exact ⟨0, st0 n k0, by omega, rfl, P5.out, hS0, Nat.le_refl _⟩
  case round =>
    clear P5 hS0
    obtain ⟨k, S, hk, rfl, hp, hS, hep'⟩ := hrel
    have PR := Lib.hid hp
    have HS := Lib.hid hS
    have hep : S.ep ≤ 1000000 := by omega
    clear hp hS
    by_cases hlt : k < l
    · have hkL : k < La.length := by rw [HLL.out]; exact hlt
      obtain ⟨q, hq⟩ : ∃ q, La[k]? = some q := ⟨_, List.getElem?_eq_getElem hkL⟩
      have HQ : Hid q.Ok := HLA.out q (List.mem_of_getElem? hq)
      obtain ⟨qa, oa, hA, hs⟩ := (HEA.out.below WB.out) k q hq
      subst hA
      have hs' : w1.rangeAt qa (oa + k * 16) q.cs := hs
      have HRQ : Hid (∀ W, Below w1.heap.size w1 W → W.rangeAt qa (oa + k * 16) q.cs) := fun W hW j u hj => (hW.cell (World.block_lt_of_cell? w1 _ (hs' j u hj))).trans (hs' j u hj)
      obtain ⟨z, hz⟩ : ∃ z, q.s[0]? = some z := ⟨_, List.getElem?_eq_getElem (by rw [q.h]; omega)⟩
      have c0 : wr.cell? ⟨qa, oa + k * 16, none⟩ = some (.int .u8 z) := HRQ.out _ PR.out.a.be 0 _ (by show (cel q.s)[0]? = _; unfold cel; rw [List.getElem?_map, hz]; rfl)
      have hzb := HQ.out z (List.mem_of_getElem? hz)
      unfold byt at hzb
      clear hs hs' hq hkL hz
      by_cases h200 : z < 200
      · go_upto_region 11 with fail
        clear c0 hzb h200
        rcases hm : S.mv with _ | m0
        · skip
          have hmv : S.mv.isSome = false := by rw [hm]; rfl
          have hsc : stpC S = 0 := by unfold stpC; rw [hm]
          have hsi : stpI S = -1 := by unfold stpI; rw [hmv]; rfl
          have hmx : max (-1 : Int) 0 = 0 := by decide
          have HG := Lib.hid (PR.out.a.step HP.out HS.out)
          have HD := Lib.hid (fun W => dstep_ S W HS.out hep)
          have HSO := Lib.hid (stp_ok HS.out hep)
          have HEP : Hid ((stp S).ep ≤ k + 1) := Nat.le_trans (stp_ep S) (by omega)
          rw [hmv, hsc, show ((0 : Nat) : Int) = 0 from rfl] at HG
          rw [hsi] at HD
          clear hmv hsc hsi hm hep HS
          generalize stp S = S1 at *
          go_upto_region 12 with (go_at_call 13; (with_reducible refine HG.out.mono ?_); rintro e w4 hact; have P4 := Lib.hid (PR.out.act hact); obtain ⟨rfl, -, -⟩ := hact)
          clear PR HG
          go_upto_region 14 with (first
            | (refine wpList_loadE (by rfl) 34 _ Try.underlying34 rfl (.tmp 13) rfl gd 0 rfl (dcs S) (whole_at P4.out.d) (by rw [dcs_len]; exact size34) ?_)
            | (go_at_call 14; (with_reducible refine (HD.out w4).mono ?_); rintro e w5 ⟨rfl, hb⟩; have P5 := Lib.hid (P4.out.below HP.out hb); clear hb)
            | (refine wpList_lay rfl 34 36 size34 (.tmp 13) (.tmp 89) rfl gd (dcs S1) rfl rfl 34 _ P5.out.d (dcs_len _) (dcs_len _) (all_oneCell_toArray (dcs_each _)) ?_; intro w6 hB6 hF6; have PE := Lib.hid (P5.out.put HP.out hB6.out hF6.out)))
          clear P4 P5 HD
          go_wp2_with fail
          go_loopw [19, 130] (fun _ v w' => ∃ i : Nat, i ≤ m ∧ v = .int .i64 i ∧ Pl T w1 g gd S1 S1 w') (fun _ v _ => m - (intOf v).toNat)
          case atStart => exact ⟨0, by omega, rfl, PE.out⟩
          case round =>
            clear PE
            obtain ⟨i, hi, rfl, hp⟩ := hrel
            have PI := Lib.hid hp
            clear hp
            by_cases hlt2 : i < m
            · have hiL : i < Lf.length := by rw [HLM.out]; exact hlt2
              obtain ⟨x, hx⟩ : ∃ x, Lf[i]? = some x := ⟨_, List.getElem?_eq_getElem hiL⟩
              have HX : Hid x.Ok := HLF.out x (List.mem_of_getElem? hx)
              obtain ⟨qb, ob, hB, hs⟩ := (HEF.out.below WB.out) i x hx
              subst hB
              have HRX : Hid (∀ W, Below w1.heap.size w1 W → W.rangeAt qb (ob + i * 36) x.cs) := fun W hW j u hj => (hW.cell (World.block_lt_of_cell? w1 _ (hs j u hj))).trans (hs j u hj)
              clear hs hx hiL
              go_wp2_with fail
              have HS0 : Hid (Blk wr.drew gd 34 (dcs S1) ∧ wr.drew.rangeAt qb (ob + i * 36) x.cs) := ⟨PI.out.d, HRX.out _ (PI.out.drew HP.out).a.be⟩
              have V0 : Hid (Pl T w1 g gd S1 S1 wr.drew) := PI.out.drew HP.out
              clear PI
              refine wp_region_held_drew (S := fun W => Blk W gd 34 (dcs S1) ∧ W.rangeAt qb (ob + i * 36) x.cs) (by kernel_rfl) ?_ (fun _ => ?_)
              · exact HS0.out
              generalize wr.drew = x0 at *
              refine wpAnyH_take (i := 0) (oi := ⟨some 133, _, _, _, _, _⟩) (v := ?_) rfl (by kernel_rfl) (by kernel_rfl) (by kernel_rfl) (fun _ _ _ h => h) (Or.inl ⟨by rfl, ?_⟩) HS0.out ?_
              rotate_left
              · (intro W hSW; clear hSW; go_simp)
                first | done | (with_reducible rfl)
              try simp only [Act.put, List.setIfInBounds_toArray, List.set_cons_zero, List.set_cons_succ]
              refine wpAnyH_take (i := 1) (oi := ⟨some 134, _, _, _, _, _⟩) (v := .agg (dcs S1).toArray) rfl (by kernel_rfl) (by kernel_rfl) (by kernel_rfl) (fun _ _ _ h => h) (yields_loadE (by rfl) 34 _ Try.underlying34 rfl (.tmp 13) rfl gd 0 rfl (dcs S1) (fun _ h => whole_at h.1) (by rw [dcs_len]; exact size34)) HS0.out ?_
              try simp only [Act.put, List.setIfInBounds_toArray, List.set_cons_zero, List.set_cons_succ]
              refine wpAnyH_take (i := 2) (oi := ⟨some 135, _, _, _, _, _⟩) (v := ?_) rfl (by kernel_rfl) (by kernel_rfl) (by kernel_rfl) (fun _ _ _ h => h) (Or.inl ⟨by rfl, ?_⟩) HS0.out ?_
              rotate_left
              · (intro W hSW; clear hSW; go_simp)
                first | done | (with_reducible rfl)
              try simp only [Act.put, List.setIfInBounds_toArray, List.set_cons_zero, List.set_cons_succ]
              refine wpAnyH_take (i := 3) (oi := ⟨some 136, _, _, _, _, _⟩) (v := ?_) rfl (by kernel_rfl) (by kernel_rfl) (by kernel_rfl) (fun _ _ _ h => h) (Or.inl ⟨by rfl, ?_⟩) HS0.out ?_
              rotate_left
              · (intro W hSW; clear hSW; go_simp)
                first | done | (with_reducible rfl)
              try simp only [Act.put, List.setIfInBounds_toArray, List.set_cons_zero, List.set_cons_succ]
              refine wpAnyH_take (i := 4) (oi := ⟨some 137, _, _, _, _, _⟩) (v := ?_) rfl (by kernel_rfl) (by kernel_rfl) (by kernel_rfl) (fun _ _ _ h => h) (Or.inl ⟨by rfl, ?_⟩) HS0.out ?_
              rotate_left
              · (intro W hSW; clear hSW; go_simp)
                first | done | (with_reducible rfl)
              try simp only [Act.put, List.setIfInBounds_toArray, List.set_cons_zero, List.set_cons_succ]
              refine wpAnyH_take (i := 5) (oi := ⟨some 138, _, _, _, _, _⟩) (v := .agg x.cs.toArray) rfl (by kernel_rfl) (by kernel_rfl) (by kernel_rfl) (fun _ _ _ h => h) (yields_flo (by rfl) (.tmp 137) rfl qb (ob + i * 36) rfl x (fun _ h => h.2)) HS0.out ?_
              try simp only [Act.put, List.setIfInBounds_toArray, List.set_cons_zero, List.set_cons_succ]
              refine wpAnyH_take (i := 6) (oi := ⟨some 139, _, _, _, _, _⟩) (v := ?_) rfl (by kernel_rfl) (by kernel_rfl) (by kernel_rfl) (fun _ _ _ h => h) (Or.inl ⟨by rfl, ?_⟩) HS0.out ?_
              rotate_left
              · (intro W hSW; clear hSW; go_simp)
                first | done | (with_reducible rfl)
              try simp only [Act.put, List.setIfInBounds_toArray, List.set_cons_zero, List.set_cons_succ]
              refine wpAnyH_ready (rs := [7]) (by kernel_rfl) (by simp) ?_
              refine AllReadyH.cons (o := ⟨some 140, _, _, _, _, _⟩) rfl (fun K hK => ?_) AllReadyH.nil
              go_simp
              refine ((V0.out.same HP.out HRF.out HSO.out HX.out h2 HY.out)).mono ?_
              rintro e x1 ⟨rfl, hb⟩
              have V1 : Hid (Pl T w1 g gd S1 S1 x1) := V0.out.below HP.out hb
              have HS1 : Hid (Blk x1 gd 34 (dcs S1) ∧ x1.rangeAt qb (ob + i * 36) x.cs) := ⟨V1.out.d, HRX.out _ V1.out.a.be⟩
              clear hb V0 HS0
              go_simp
              refine hK.out _ _ ?_ (fun _ => ?_)
              · exact HS1.out
              clear hK K
              try simp only [Act.put, List.setIfInBounds_toArray, List.set_cons_zero, List.set_cons_succ]
              refine wpAnyH_take (i := 8) (oi := ⟨some 141, _, _, _, _, _⟩) (v := .bool false) rfl (by kernel_rfl) (by kernel_rfl) (by kernel_rfl) (fun _ _ _ h => h) (Or.inl ⟨by rfl, ?_⟩) HS1.out ?_
              · (intro W hSW; clear hSW; go_simp)
                all_goals rfl
              try simp only [Act.put, List.setIfInBounds_toArray, List.set_cons_zero, List.set_cons_succ]
              refine wpAnyH_done (by kernel_rfl) ?_ _
              go_wp2_with fail
              go_roundw
              case rel => exact ⟨i + 1, by omega, by go_num, V1.out⟩
              case measure => simp [intOf]; omega
            · have him : m = i := by omega
              subst him
              go_wp2_with fail
              go_roundw
              case rel => exact ⟨k + 1, S1, by omega, by go_num, PI.out, HSO.out, HEP.out⟩
              case measure => simp [intOf]; omega
        · skip
          have hmv : S.mv.isSome = true := by rw [hm]; rfl
          obtain ⟨sc, hsc⟩ : ∃ sc, stpC S = sc := ⟨_, rfl⟩
          have hsi : stpI S = (sc : Int) := by unfold stpI; rw [hmv, hsc]; rfl
          have hmx : max (sc : Int) 0 = (sc : Int) := by omega
          have HG := Lib.hid (PR.out.a.step HP.out HS.out)
          have HD := Lib.hid (fun W => dstep_ S W HS.out hep)
          have HSO := Lib.hid (stp_ok HS.out hep)
          have HEP : Hid ((stp S).ep ≤ k + 1) := Nat.le_trans (stp_ep S) (by omega)
          rw [hmv, hsc] at HG
          rw [hsi] at HD
          clear hmv hsc hsi hm hep HS
          generalize stp S = S1 at *
          go_upto_region 12 with (go_at_call 13; (with_reducible refine HG.out.mono ?_); rintro e w4 hact; have P4 := Lib.hid (PR.out.act hact); obtain ⟨rfl, -, -⟩ := hact)
          clear PR HG
          go_upto_region 14 with (first
            | (refine wpList_loadE (by rfl) 34 _ Try.underlying34 rfl (.tmp 13) rfl gd 0 rfl (dcs S) (whole_at P4.out.d) (by rw [dcs_len]; exact size34) ?_)
            | (go_at_call 14; (with_reducible refine (HD.out w4).mono ?_); rintro e w5 ⟨rfl, hb⟩; have P5 := Lib.hid (P4.out.below HP.out hb); clear hb)
            | (refine wpList_lay rfl 34 36 size34 (.tmp 13) (.tmp 89) rfl gd (dcs S1) rfl rfl 34 _ P5.out.d (dcs_len _) (dcs_len _) (all_oneCell_toArray (dcs_each _)) ?_; intro w6 hB6 hF6; have PE := Lib.hid (P5.out.put HP.out hB6.out hF6.out)))
          clear P4 P5 HD
          go_wp2_with fail
          go_loopw [19, 130] (fun _ v w' => ∃ i : Nat, i ≤ m ∧ v = .int .i64 i ∧ Pl T w1 g gd S1 S1 w') (fun _ v _ => m - (intOf v).toNat)
          case atStart => exact ⟨0, by omega, rfl, PE.out⟩
          case round =>
            clear PE
            obtain ⟨i, hi, rfl, hp⟩ := hrel
            have PI := Lib.hid hp
            clear hp
            by_cases hlt2 : i < m
            · have hiL : i < Lf.length := by rw [HLM.out]; exact hlt2
              obtain ⟨x, hx⟩ : ∃ x, Lf[i]? = some x := ⟨_, List.getElem?_eq_getElem hiL⟩
              have HX : Hid x.Ok := HLF.out x (List.mem_of_getElem? hx)
              obtain ⟨qb, ob, hB, hs⟩ := (HEF.out.below WB.out) i x hx
              subst hB
              have HRX : Hid (∀ W, Below w1.heap.size w1 W → W.rangeAt qb (ob + i * 36) x.cs) := fun W hW j u hj => (hW.cell (World.block_lt_of_cell? w1 _ (hs j u hj))).trans (hs j u hj)
              clear hs hx hiL
              go_wp2_with fail
              have HS0 : Hid (Blk wr.drew gd 34 (dcs S1) ∧ wr.drew.rangeAt qb (ob + i * 36) x.cs) := ⟨PI.out.d, HRX.out _ (PI.out.drew HP.out).a.be⟩
              have V0 : Hid (Pl T w1 g gd S1 S1 wr.drew) := PI.out.drew HP.out
              clear PI
              refine wp_region_held_drew (S := fun W => Blk W gd 34 (dcs S1) ∧ W.rangeAt qb (ob + i * 36) x.cs) (by kernel_rfl) ?_ (fun _ => ?_)
              · exact HS0.out
              generalize wr.drew = x0 at *
              refine wpAnyH_take (i := 0) (oi := ⟨some 133, _, _, _, _, _⟩) (v := ?_) rfl (by kernel_rfl) (by kernel_rfl) (by kernel_rfl) (fun _ _ _ h => h) (Or.inl ⟨by rfl, ?_⟩) HS0.out ?_
              rotate_left
              · (intro W hSW; clear hSW; go_simp)
                first | done | (with_reducible rfl)
              try simp only [Act.put, List.setIfInBounds_toArray, List.set_cons_zero, List.set_cons_succ]
              refine wpAnyH_take (i := 1) (oi := ⟨some 134, _, _, _, _, _⟩) (v := .agg (dcs S1).toArray) rfl (by kernel_rfl) (by kernel_rfl) (by kernel_rfl) (fun _ _ _ h => h) (yields_loadE (by rfl) 34 _ Try.underlying34 rfl (.tmp 13) rfl gd 0 rfl (dcs S1) (fun _ h => whole_at h.1) (by rw [dcs_len]; exact size34)) HS0.out ?_
              try simp only [Act.put, List.setIfInBounds_toArray, List.set_cons_zero, List.set_cons_succ]
              refine wpAnyH_take (i := 2) (oi := ⟨some 135, _, _, _, _, _⟩) (v := ?_) rfl (by kernel_rfl) (by kernel_rfl) (by kernel_rfl) (fun _ _ _ h => h) (Or.inl ⟨by rfl, ?_⟩) HS0.out ?_
              rotate_left
              · (intro W hSW; clear hSW; go_simp)
                first | done | (with_reducible rfl)
              try simp only [Act.put, List.setIfInBounds_toArray, List.set_cons_zero, List.set_cons_succ]
              refine wpAnyH_take (i := 3) (oi := ⟨some 136, _, _, _, _, _⟩) (v := ?_) rfl (by kernel_rfl) (by kernel_rfl) (by kernel_rfl) (fun _ _ _ h => h) (Or.inl ⟨by rfl, ?_⟩) HS0.out ?_
              rotate_left
              · (intro W hSW; clear hSW; go_simp)
                first | done | (with_reducible rfl)
              try simp only [Act.put, List.setIfInBounds_toArray, List.set_cons_zero, List.set_cons_succ]
              refine wpAnyH_take (i := 4) (oi := ⟨some 137, _, _, _, _, _⟩) (v := ?_) rfl (by kernel_rfl) (by kernel_rfl) (by kernel_rfl) (fun _ _ _ h => h) (Or.inl ⟨by rfl, ?_⟩) HS0.out ?_
              rotate_left
              · (intro W hSW; clear hSW; go_simp)
                first | done | (with_reducible rfl)
              try simp only [Act.put, List.setIfInBounds_toArray, List.set_cons_zero, List.set_cons_succ]
              refine wpAnyH_take (i := 5) (oi := ⟨some 138, _, _, _, _, _⟩) (v := .agg x.cs.toArray) rfl (by kernel_rfl) (by kernel_rfl) (by kernel_rfl) (fun _ _ _ h => h) (yields_flo (by rfl) (.tmp 137) rfl qb (ob + i * 36) rfl x (fun _ h => h.2)) HS0.out ?_
              try simp only [Act.put, List.setIfInBounds_toArray, List.set_cons_zero, List.set_cons_succ]
              refine wpAnyH_take (i := 6) (oi := ⟨some 139, _, _, _, _, _⟩) (v := ?_) rfl (by kernel_rfl) (by kernel_rfl) (by kernel_rfl) (fun _ _ _ h => h) (Or.inl ⟨by rfl, ?_⟩) HS0.out ?_
              rotate_left
              · (intro W hSW; clear hSW; go_simp)
                first | done | (with_reducible rfl)
              try simp only [Act.put, List.setIfInBounds_toArray, List.set_cons_zero, List.set_cons_succ]
              refine wpAnyH_ready (rs := [7]) (by kernel_rfl) (by simp) ?_
              refine AllReadyH.cons (o := ⟨some 140, _, _, _, _, _⟩) rfl (fun K hK => ?_) AllReadyH.nil
              go_simp
              refine ((V0.out.same HP.out HRF.out HSO.out HX.out h2 HY.out)).mono ?_
              rintro e x1 ⟨rfl, hb⟩
              have V1 : Hid (Pl T w1 g gd S1 S1 x1) := V0.out.below HP.out hb
              have HS1 : Hid (Blk x1 gd 34 (dcs S1) ∧ x1.rangeAt qb (ob + i * 36) x.cs) := ⟨V1.out.d, HRX.out _ V1.out.a.be⟩
              clear hb V0 HS0
              go_simp
              refine hK.out _ _ ?_ (fun _ => ?_)
              · exact HS1.out
              clear hK K
              try simp only [Act.put, List.setIfInBounds_toArray, List.set_cons_zero, List.set_cons_succ]
              refine wpAnyH_take (i := 8) (oi := ⟨some 141, _, _, _, _, _⟩) (v := .bool false) rfl (by kernel_rfl) (by kernel_rfl) (by kernel_rfl) (fun _ _ _ h => h) (Or.inl ⟨by rfl, ?_⟩) HS1.out ?_
              · (intro W hSW; clear hSW; go_simp)
                all_goals rfl
              try simp only [Act.put, List.setIfInBounds_toArray, List.set_cons_zero, List.set_cons_succ]
              refine wpAnyH_done (by kernel_rfl) ?_ _
              go_wp2_with fail
              go_roundw
              case rel => exact ⟨i + 1, by omega, by go_num, V1.out⟩
              case measure => simp [intOf]; omega
            · have him : m = i := by omega
              subst him
              go_wp2_with fail
              go_roundw
              case rel => exact ⟨k + 1, S1, by omega, by go_num, PI.out, HSO.out, HEP.out⟩
              case measure => simp [intOf]; omega
      · go_upto_region 16 with fail
        clear c0 hzb h200
        rcases hm : S.mv with _ | m0
        · skip
          have hmv : S.mv.isSome = false := by rw [hm]; rfl
          have he : rekE S = 0 := by unfold rekE; rw [hmv]; rfl
          have HG := Lib.hid (PR.out.a.rekey HP.out HS.out HQ.out)
          have HD := Lib.hid (fun W => drekey_ S q W)
          have HSO := Lib.hid (rek_ok HS.out HQ.out)
          have HEP : Hid ((rek S q).ep ≤ k + 1) := by rw [rek_ep]; show S.ep ≤ k + 1; omega
          rw [he] at HG
          rw [hmv] at HD
          clear hmv he hm hep HS
          generalize rek S q = S1 at *
          go_upto_region 17 with (first
            | (refine wpList_key (by rfl) (.tmp 104) rfl qa (oa + k * 16) rfl q (HRQ.out _ PR.out.a.be) ?_)
            | (go_at_call 9; (with_reducible refine HG.out.mono ?_); rintro e w4 hact; have P4 := Lib.hid (PR.out.act hact); obtain ⟨rfl, -, -⟩ := hact))
          clear PR HG
          go_upto_region 18 with fail
          have HS0 : Hid (w4.drew.rangeAt qa (oa + k * 16) q.cs) := HRQ.out _ (P4.out.drew HP.out).a.be
          have V0 : Hid (Pl T w1 g gd S1 S w4.drew) := P4.out.drew HP.out
          clear P4
          refine wp_region_held_drew (S := fun W => W.rangeAt qa (oa + k * 16) q.cs) (by kernel_rfl) ?_ (fun _ => ?_)
          · exact HS0.out
          generalize w4.drew = x0 at *
          refine wpAnyH_take (i := 1) (oi := ⟨some 109, _, _, _, _, _⟩) (v := ?_) rfl (by kernel_rfl) (by kernel_rfl) (by kernel_rfl) (fun _ _ _ h => h) (Or.inl ⟨by rfl, ?_⟩) HS0.out ?_
          rotate_left
          · (intro W hSW; clear hSW; go_simp)
            first | done | (with_reducible rfl)
          try simp only [Act.put, List.setIfInBounds_toArray, List.set_cons_zero, List.set_cons_succ]
          refine wpAnyH_take (i := 2) (oi := ⟨some 110, _, _, _, _, _⟩) (v := ?_) rfl (by kernel_rfl) (by kernel_rfl) (by kernel_rfl) (fun _ _ _ h => h) (Or.inl ⟨by rfl, ?_⟩) HS0.out ?_
          rotate_left
          · (intro W hSW; clear hSW; go_simp)
            first | done | (with_reducible rfl)
          try simp only [Act.put, List.setIfInBounds_toArray, List.set_cons_zero, List.set_cons_succ]
          refine wpAnyH_take (i := 3) (oi := ⟨some 111, _, _, _, _, _⟩) (v := ?_) rfl (by kernel_rfl) (by kernel_rfl) (by kernel_rfl) (fun _ _ _ h => h) (Or.inl ⟨by rfl, ?_⟩) HS0.out ?_
          rotate_left
          · (intro W hSW; clear hSW; go_simp)
            first | done | (with_reducible rfl)
          try simp only [Act.put, List.setIfInBounds_toArray, List.set_cons_zero, List.set_cons_succ]
          refine wpAnyH_take (i := 4) (oi := ⟨some 112, _, _, _, _, _⟩) (v := .agg q.cs.toArray) rfl (by kernel_rfl) (by kernel_rfl) (by kernel_rfl) (fun _ _ _ h => h) (yields_key (by rfl) (.tmp 111) rfl qa (oa + k * 16) rfl q (fun _ h => h)) HS0.out ?_
          try simp only [Act.put, List.setIfInBounds_toArray, List.set_cons_zero, List.set_cons_succ]
          refine wpAnyH_ready (rs := [0]) (by kernel_rfl) (by simp) ?_
          refine AllReadyH.cons (o := ⟨some 108, _, _, _, _, _⟩) rfl (fun K hK => ?_) AllReadyH.nil
          refine step_doc (by rfl) (.tmp 13) (by rfl) gd (by rfl) S V0.out.d ?_
          refine hK.out _ _ ?_ (fun _ => ?_)
          · exact HS0.out
          clear hK K
          try simp only [Act.put, List.setIfInBounds_toArray, List.set_cons_zero, List.set_cons_succ]
          refine wpAnyH_ready (rs := [5]) (by kernel_rfl) (by simp) ?_
          refine AllReadyH.cons (o := ⟨some 113, _, _, _, _, _⟩) rfl (fun K hK => ?_) AllReadyH.nil
          go_simp
          refine ((HD.out _)).mono ?_
          rintro e x1 ⟨rfl, hb⟩
          have V1 : Hid (Pl T w1 g gd S1 S x1) := V0.out.below HP.out hb
          have HS1 : Hid (x1.rangeAt qa (oa + k * 16) q.cs) := HRQ.out _ V1.out.a.be
          clear hb V0 HS0
          go_simp
          refine hK.out _ _ ?_ (fun _ => ?_)
          · exact HS1.out
          clear hK K
          try simp only [Act.put, List.setIfInBounds_toArray, List.set_cons_zero, List.set_cons_succ]
          refine wpAnyH_take (i := 6) (oi := ⟨some 107, _, _, _, _, _⟩) (v := ?_) rfl (by kernel_rfl) (by kernel_rfl) (by kernel_rfl) (fun _ _ _ h => h) (Or.inl ⟨by rfl, ?_⟩) HS1.out ?_
          rotate_left
          · (intro W hSW; clear hSW; go_simp)
            first | done | (with_reducible rfl)
          try simp only [Act.put, List.setIfInBounds_toArray, List.set_cons_zero, List.set_cons_succ]
          refine wpAnyH_take (i := 7) (oi := ⟨some 114, _, _, _, _, _⟩) (v := ?_) rfl (by kernel_rfl) (by kernel_rfl) (by kernel_rfl) (fun _ _ _ h => h) (Or.inl ⟨by rfl, ?_⟩) HS1.out ?_
          rotate_left
          · (intro W hSW; clear hSW; go_simp)
            first | done | (with_reducible rfl)
          try simp only [Act.put, List.setIfInBounds_toArray, List.set_cons_zero, List.set_cons_succ]
          refine wpAnyH_take (i := 8) (oi := ⟨some 115, _, _, _, _, _⟩) (v := ?_) rfl (by kernel_rfl) (by kernel_rfl) (by kernel_rfl) (fun _ _ _ h => h) (Or.inl ⟨by rfl, ?_⟩) HS1.out ?_
          rotate_left
          · (intro W hSW; clear hSW; go_simp)
            first | done | (with_reducible rfl)
          try simp only [Act.put, List.setIfInBounds_toArray, List.set_cons_zero, List.set_cons_succ]
          refine wpAnyH_ready (rs := [9]) (by kernel_rfl) (by simp) ?_
          refine AllReadyH.cons (o := ⟨none, _, _, _, _, _⟩) rfl (fun K hK => ?_) AllReadyH.nil
          refine step_lay (by rfl) 34 36 size34 (.tmp 13) (.tmp 114) (by rfl) gd (dcs S1) (by rfl) (by rfl) 34 (dcs S) V1.out.d (dcs_len _) (dcs_len _) (all_oneCell_toArray (dcs_each _)) ?_
          intro x5 K5 F5
          have PE := Lib.hid (V1.out.put HP.out K5.out F5.out)
          have HS2 : Hid (x5.rangeAt qa (oa + k * 16) q.cs) := HRQ.out _ PE.out.a.be
          refine hK.out _ _ ?_ (fun _ => ?_)
          · exact HS2.out
          clear hK K V1 HS1
          try simp only [Act.put]
          refine wpAnyH_take (i := 10) (oi := ⟨some 18, _, _, _, _, _⟩) (v := ?_) rfl (by kernel_rfl) (by kernel_rfl) (by kernel_rfl) (fun _ _ _ h => h) (Or.inl ⟨by rfl, ?_⟩) HS2.out ?_
          rotate_left
          · (intro W hSW; clear hSW; go_simp)
            first | done | (with_reducible rfl)
          try simp only [Act.put, List.setIfInBounds_toArray, List.set_cons_zero, List.set_cons_succ]
          refine wpAnyH_done (by kernel_rfl) ?_ _
          clear HD HS2
          go_wp2_with fail
          go_loopw [19, 130] (fun _ v w' => ∃ i : Nat, i ≤ m ∧ v = .int .i64 i ∧ Pl T w1 g gd S1 S1 w') (fun _ v _ => m - (intOf v).toNat)
          case atStart => exact ⟨0, by omega, rfl, PE.out⟩
          case round =>
            clear PE
            obtain ⟨i, hi, rfl, hp⟩ := hrel
            have PI := Lib.hid hp
            clear hp
            by_cases hlt2 : i < m
            · have hiL : i < Lf.length := by rw [HLM.out]; exact hlt2
              obtain ⟨x, hx⟩ : ∃ x, Lf[i]? = some x := ⟨_, List.getElem?_eq_getElem hiL⟩
              have HX : Hid x.Ok := HLF.out x (List.mem_of_getElem? hx)
              obtain ⟨qb, ob, hB, hs⟩ := (HEF.out.below WB.out) i x hx
              subst hB
              have HRX : Hid (∀ W, Below w1.heap.size w1 W → W.rangeAt qb (ob + i * 36) x.cs) := fun W hW j u hj => (hW.cell (World.block_lt_of_cell? w1 _ (hs j u hj))).trans (hs j u hj)
              clear hs hx hiL
              go_wp2_with fail
              have HS0 : Hid (Blk wr.drew gd 34 (dcs S1) ∧ wr.drew.rangeAt qb (ob + i * 36) x.cs) := ⟨PI.out.d, HRX.out _ (PI.out.drew HP.out).a.be⟩
              have V0 : Hid (Pl T w1 g gd S1 S1 wr.drew) := PI.out.drew HP.out
              clear PI
              refine wp_region_held_drew (S := fun W => Blk W gd 34 (dcs S1) ∧ W.rangeAt qb (ob + i * 36) x.cs) (by kernel_rfl) ?_ (fun _ => ?_)
              · exact HS0.out
              generalize wr.drew = x0 at *
              refine wpAnyH_take (i := 0) (oi := ⟨some 133, _, _, _, _, _⟩) (v := ?_) rfl (by kernel_rfl) (by kernel_rfl) (by kernel_rfl) (fun _ _ _ h => h) (Or.inl ⟨by rfl, ?_⟩) HS0.out ?_
              rotate_left
              · (intro W hSW; clear hSW; go_simp)
                first | done | (with_reducible rfl)
              try simp only [Act.put, List.setIfInBounds_toArray, List.set_cons_zero, List.set_cons_succ]
              refine wpAnyH_take (i := 1) (oi := ⟨some 134, _, _, _, _, _⟩) (v := .agg (dcs S1).toArray) rfl (by kernel_rfl) (by kernel_rfl) (by kernel_rfl) (fun _ _ _ h => h) (yields_loadE (by rfl) 34 _ Try.underlying34 rfl (.tmp 13) rfl gd 0 rfl (dcs S1) (fun _ h => whole_at h.1) (by rw [dcs_len]; exact size34)) HS0.out ?_
              try simp only [Act.put, List.setIfInBounds_toArray, List.set_cons_zero, List.set_cons_succ]
              refine wpAnyH_take (i := 2) (oi := ⟨some 135, _, _, _, _, _⟩) (v := ?_) rfl (by kernel_rfl) (by kernel_rfl) (by kernel_rfl) (fun _ _ _ h => h) (Or.inl ⟨by rfl, ?_⟩) HS0.out ?_
              rotate_left
              · (intro W hSW; clear hSW; go_simp)
                first | done | (with_reducible rfl)
              try simp only [Act.put, List.setIfInBounds_toArray, List.set_cons_zero, List.set_cons_succ]
              refine wpAnyH_take (i := 3) (oi := ⟨some 136, _, _, _, _, _⟩) (v := ?_) rfl (by kernel_rfl) (by kernel_rfl) (by kernel_rfl) (fun _ _ _ h => h) (Or.inl ⟨by rfl, ?_⟩) HS0.out ?_
              rotate_left
              · (intro W hSW; clear hSW; go_simp)
                first | done | (with_reducible rfl)
              try simp only [Act.put, List.setIfInBounds_toArray, List.set_cons_zero, List.set_cons_succ]
              refine wpAnyH_take (i := 4) (oi := ⟨some 137, _, _, _, _, _⟩) (v := ?_) rfl (by kernel_rfl) (by kernel_rfl) (by kernel_rfl) (fun _ _ _ h => h) (Or.inl ⟨by rfl, ?_⟩) HS0.out ?_
              rotate_left
              · (intro W hSW; clear hSW; go_simp)
                first | done | (with_reducible rfl)
              try simp only [Act.put, List.setIfInBounds_toArray, List.set_cons_zero, List.set_cons_succ]
              refine wpAnyH_take (i := 5) (oi := ⟨some 138, _, _, _, _, _⟩) (v := .agg x.cs.toArray) rfl (by kernel_rfl) (by kernel_rfl) (by kernel_rfl) (fun _ _ _ h => h) (yields_flo (by rfl) (.tmp 137) rfl qb (ob + i * 36) rfl x (fun _ h => h.2)) HS0.out ?_
              try simp only [Act.put, List.setIfInBounds_toArray, List.set_cons_zero, List.set_cons_succ]
              refine wpAnyH_take (i := 6) (oi := ⟨some 139, _, _, _, _, _⟩) (v := ?_) rfl (by kernel_rfl) (by kernel_rfl) (by kernel_rfl) (fun _ _ _ h => h) (Or.inl ⟨by rfl, ?_⟩) HS0.out ?_
              rotate_left
              · (intro W hSW; clear hSW; go_simp)
                first | done | (with_reducible rfl)
              try simp only [Act.put, List.setIfInBounds_toArray, List.set_cons_zero, List.set_cons_succ]
              refine wpAnyH_ready (rs := [7]) (by kernel_rfl) (by simp) ?_
              refine AllReadyH.cons (o := ⟨some 140, _, _, _, _, _⟩) rfl (fun K hK => ?_) AllReadyH.nil
              go_simp
              refine ((V0.out.same HP.out HRF.out HSO.out HX.out h2 HY.out)).mono ?_
              rintro e x1 ⟨rfl, hb⟩
              have V1 : Hid (Pl T w1 g gd S1 S1 x1) := V0.out.below HP.out hb
              have HS1 : Hid (Blk x1 gd 34 (dcs S1) ∧ x1.rangeAt qb (ob + i * 36) x.cs) := ⟨V1.out.d, HRX.out _ V1.out.a.be⟩
              clear hb V0 HS0
              go_simp
              refine hK.out _ _ ?_ (fun _ => ?_)
              · exact HS1.out
              clear hK K
              try simp only [Act.put, List.setIfInBounds_toArray, List.set_cons_zero, List.set_cons_succ]
              refine wpAnyH_take (i := 8) (oi := ⟨some 141, _, _, _, _, _⟩) (v := .bool false) rfl (by kernel_rfl) (by kernel_rfl) (by kernel_rfl) (fun _ _ _ h => h) (Or.inl ⟨by rfl, ?_⟩) HS1.out ?_
              · (intro W hSW; clear hSW; go_simp)
                all_goals rfl
              try simp only [Act.put, List.setIfInBounds_toArray, List.set_cons_zero, List.set_cons_succ]
              refine wpAnyH_done (by kernel_rfl) ?_ _
              go_wp2_with fail
              go_roundw
              case rel => exact ⟨i + 1, by omega, by go_num, V1.out⟩
              case measure => simp [intOf]; omega
            · have him : m = i := by omega
              subst him
              go_wp2_with fail
              go_roundw
              case rel => exact ⟨k + 1, S1, by omega, by go_num, PI.out, HSO.out, HEP.out⟩
              case measure => simp [intOf]; omega
        · skip
          have hmv : S.mv.isSome = true := by rw [hm]; rfl
          have he : rekE S = 4 := by unfold rekE; rw [hmv]; rfl
          have HG := Lib.hid (PR.out.a.rekey HP.out HS.out HQ.out)
          have HD := Lib.hid (fun W => drekey_ S q W)
          have HSO := Lib.hid (rek_ok HS.out HQ.out)
          have HEP : Hid ((rek S q).ep ≤ k + 1) := by rw [rek_ep]; show S.ep ≤ k + 1; omega
          rw [he] at HG
          rw [hmv] at HD
          clear hmv he hm hep HS
          generalize rek S q = S1 at *
          go_upto_region 17 with (first
            | (refine wpList_key (by rfl) (.tmp 104) rfl qa (oa + k * 16) rfl q (HRQ.out _ PR.out.a.be) ?_)
            | (go_at_call 9; (with_reducible refine HG.out.mono ?_); rintro e w4 hact; have P4 := Lib.hid (PR.out.act hact); obtain ⟨rfl, -, -⟩ := hact))
          clear PR HG
          go_upto_region 18 with fail
          have HS0 : Hid (w4.drew.rangeAt qa (oa + k * 16) q.cs) := HRQ.out _ (P4.out.drew HP.out).a.be
          have V0 : Hid (Pl T w1 g gd S1 S w4.drew) := P4.out.drew HP.out
          clear P4
          refine wp_region_held_drew (S := fun W => W.rangeAt qa (oa + k * 16) q.cs) (by kernel_rfl) ?_ (fun _ => ?_)
          · exact HS0.out
          generalize w4.drew = x0 at *
          refine wpAnyH_take (i := 1) (oi := ⟨some 109, _, _, _, _, _⟩) (v := ?_) rfl (by kernel_rfl) (by kernel_rfl) (by kernel_rfl) (fun _ _ _ h => h) (Or.inl ⟨by rfl, ?_⟩) HS0.out ?_
          rotate_left
          · (intro W hSW; clear hSW; go_simp)
            first | done | (with_reducible rfl)
          try simp only [Act.put, List.setIfInBounds_toArray, List.set_cons_zero, List.set_cons_succ]
          refine wpAnyH_take (i := 2) (oi := ⟨some 110, _, _, _, _, _⟩) (v := ?_) rfl (by kernel_rfl) (by kernel_rfl) (by kernel_rfl) (fun _ _ _ h => h) (Or.inl ⟨by rfl, ?_⟩) HS0.out ?_
          rotate_left
          · (intro W hSW; clear hSW; go_simp)
            first | done | (with_reducible rfl)
          try simp only [Act.put, List.setIfInBounds_toArray, List.set_cons_zero, List.set_cons_succ]
          refine wpAnyH_take (i := 3) (oi := ⟨some 111, _, _, _, _, _⟩) (v := ?_) rfl (by kernel_rfl) (by kernel_rfl) (by kernel_rfl) (fun _ _ _ h => h) (Or.inl ⟨by rfl, ?_⟩) HS0.out ?_
          rotate_left
          · (intro W hSW; clear hSW; go_simp)
            first | done | (with_reducible rfl)
          try simp only [Act.put, List.setIfInBounds_toArray, List.set_cons_zero, List.set_cons_succ]
          refine wpAnyH_take (i := 4) (oi := ⟨some 112, _, _, _, _, _⟩) (v := .agg q.cs.toArray) rfl (by kernel_rfl) (by kernel_rfl) (by kernel_rfl) (fun _ _ _ h => h) (yields_key (by rfl) (.tmp 111) rfl qa (oa + k * 16) rfl q (fun _ h => h)) HS0.out ?_
          try simp only [Act.put, List.setIfInBounds_toArray, List.set_cons_zero, List.set_cons_succ]
          refine wpAnyH_ready (rs := [0]) (by kernel_rfl) (by simp) ?_
          refine AllReadyH.cons (o := ⟨some 108, _, _, _, _, _⟩) rfl (fun K hK => ?_) AllReadyH.nil
          refine step_doc (by rfl) (.tmp 13) (by rfl) gd (by rfl) S V0.out.d ?_
          refine hK.out _ _ ?_ (fun _ => ?_)
          · exact HS0.out
          clear hK K
          try simp only [Act.put, List.setIfInBounds_toArray, List.set_cons_zero, List.set_cons_succ]
          refine wpAnyH_ready (rs := [5]) (by kernel_rfl) (by simp) ?_
          refine AllReadyH.cons (o := ⟨some 113, _, _, _, _, _⟩) rfl (fun K hK => ?_) AllReadyH.nil
          go_simp
          refine ((HD.out _)).mono ?_
          rintro e x1 ⟨rfl, hb⟩
          have V1 : Hid (Pl T w1 g gd S1 S x1) := V0.out.below HP.out hb
          have HS1 : Hid (x1.rangeAt qa (oa + k * 16) q.cs) := HRQ.out _ V1.out.a.be
          clear hb V0 HS0
          go_simp
          refine hK.out _ _ ?_ (fun _ => ?_)
          · exact HS1.out
          clear hK K
          try simp only [Act.put, List.setIfInBounds_toArray, List.set_cons_zero, List.set_cons_succ]
          refine wpAnyH_take (i := 6) (oi := ⟨some 107, _, _, _, _, _⟩) (v := ?_) rfl (by kernel_rfl) (by kernel_rfl) (by kernel_rfl) (fun _ _ _ h => h) (Or.inl ⟨by rfl, ?_⟩) HS1.out ?_
          rotate_left
          · (intro W hSW; clear hSW; go_simp)
            first | done | (with_reducible rfl)
          try simp only [Act.put, List.setIfInBounds_toArray, List.set_cons_zero, List.set_cons_succ]
          refine wpAnyH_take (i := 7) (oi := ⟨some 114, _, _, _, _, _⟩) (v := ?_) rfl (by kernel_rfl) (by kernel_rfl) (by kernel_rfl) (fun _ _ _ h => h) (Or.inl ⟨by rfl, ?_⟩) HS1.out ?_
          rotate_left
          · (intro W hSW; clear hSW; go_simp)
            first | done | (with_reducible rfl)
          try simp only [Act.put, List.setIfInBounds_toArray, List.set_cons_zero, List.set_cons_succ]
          refine wpAnyH_take (i := 8) (oi := ⟨some 115, _, _, _, _, _⟩) (v := ?_) rfl (by kernel_rfl) (by kernel_rfl) (by kernel_rfl) (fun _ _ _ h => h) (Or.inl ⟨by rfl, ?_⟩) HS1.out ?_
          rotate_left
          · (intro W hSW; clear hSW; go_simp)
            first | done | (with_reducible rfl)
          try simp only [Act.put, List.setIfInBounds_toArray, List.set_cons_zero, List.set_cons_succ]
          refine wpAnyH_ready (rs := [9]) (by kernel_rfl) (by simp) ?_
          refine AllReadyH.cons (o := ⟨none, _, _, _, _, _⟩) rfl (fun K hK => ?_) AllReadyH.nil
          refine step_lay (by rfl) 34 36 size34 (.tmp 13) (.tmp 114) (by rfl) gd (dcs S1) (by rfl) (by rfl) 34 (dcs S) V1.out.d (dcs_len _) (dcs_len _) (all_oneCell_toArray (dcs_each _)) ?_
          intro x5 K5 F5
          have PE := Lib.hid (V1.out.put HP.out K5.out F5.out)
          have HS2 : Hid (x5.rangeAt qa (oa + k * 16) q.cs) := HRQ.out _ PE.out.a.be
          refine hK.out _ _ ?_ (fun _ => ?_)
          · exact HS2.out
          clear hK K V1 HS1
          try simp only [Act.put]
          refine wpAnyH_take (i := 10) (oi := ⟨some 18, _, _, _, _, _⟩) (v := ?_) rfl (by kernel_rfl) (by kernel_rfl) (by kernel_rfl) (fun _ _ _ h => h) (Or.inl ⟨by rfl, ?_⟩) HS2.out ?_
          rotate_left
          · (intro W hSW; clear hSW; go_simp)
            first | done | (with_reducible rfl)
          try simp only [Act.put, List.setIfInBounds_toArray, List.set_cons_zero, List.set_cons_succ]
          refine wpAnyH_done (by kernel_rfl) ?_ _
          clear HD HS2
          go_wp2_with fail
          go_loopw [19, 130] (fun _ v w' => ∃ i : Nat, i ≤ m ∧ v = .int .i64 i ∧ Pl T w1 g gd S1 S1 w') (fun _ v _ => m - (intOf v).toNat)
          case atStart => exact ⟨0, by omega, rfl, PE.out⟩
          case round =>
            clear PE
            obtain ⟨i, hi, rfl, hp⟩ := hrel
            have PI := Lib.hid hp
            clear hp
            by_cases hlt2 : i < m
            · have hiL : i < Lf.length := by rw [HLM.out]; exact hlt2
              obtain ⟨x, hx⟩ : ∃ x, Lf[i]? = some x := ⟨_, List.getElem?_eq_getElem hiL⟩
              have HX : Hid x.Ok := HLF.out x (List.mem_of_getElem? hx)
              obtain ⟨qb, ob, hB, hs⟩ := (HEF.out.below WB.out) i x hx
              subst hB
              have HRX : Hid (∀ W, Below w1.heap.size w1 W → W.rangeAt qb (ob + i * 36) x.cs) := fun W hW j u hj => (hW.cell (World.block_lt_of_cell? w1 _ (hs j u hj))).trans (hs j u hj)
              clear hs hx hiL
              go_wp2_with fail
              have HS0 : Hid (Blk wr.drew gd 34 (dcs S1) ∧ wr.drew.rangeAt qb (ob + i * 36) x.cs) := ⟨PI.out.d, HRX.out _ (PI.out.drew HP.out).a.be⟩
              have V0 : Hid (Pl T w1 g gd S1 S1 wr.drew) := PI.out.drew HP.out
              clear PI
              refine wp_region_held_drew (S := fun W => Blk W gd 34 (dcs S1) ∧ W.rangeAt qb (ob + i * 36) x.cs) (by kernel_rfl) ?_ (fun _ => ?_)
              · exact HS0.out
              generalize wr.drew = x0 at *
              refine wpAnyH_take (i := 0) (oi := ⟨some 133, _, _, _, _, _⟩) (v := ?_) rfl (by kernel_rfl) (by kernel_rfl) (by kernel_rfl) (fun _ _ _ h => h) (Or.inl ⟨by rfl, ?_⟩) HS0.out ?_
              rotate_left
              · (intro W hSW; clear hSW; go_simp)
                first | done | (with_reducible rfl)
              try simp only [Act.put, List.setIfInBounds_toArray, List.set_cons_zero, List.set_cons_succ]
              refine wpAnyH_take (i := 1) (oi := ⟨some 134, _, _, _, _, _⟩) (v := .agg (dcs S1).toArray) rfl (by kernel_rfl) (by kernel_rfl) (by kernel_rfl) (fun _ _ _ h => h) (yields_loadE (by rfl) 34 _ Try.underlying34 rfl (.tmp 13) rfl gd 0 rfl (dcs S1) (fun _ h => whole_at h.1) (by rw [dcs_len]; exact size34)) HS0.out ?_
              try simp only [Act.put, List.setIfInBounds_toArray, List.set_cons_zero, List.set_cons_succ]
              refine wpAnyH_take (i := 2) (oi := ⟨some 135, _, _, _, _, _⟩) (v := ?_) rfl (by kernel_rfl) (by kernel_rfl) (by kernel_rfl) (fun _ _ _ h => h) (Or.inl ⟨by rfl, ?_⟩) HS0.out ?_
              rotate_left
              · (intro W hSW; clear hSW; go_simp)
                first | done | (with_reducible rfl)
              try simp only [Act.put, List.setIfInBounds_toArray, List.set_cons_zero, List.set_cons_succ]
              refine wpAnyH_take (i := 3) (oi := ⟨some 136, _, _, _, _, _⟩) (v := ?_) rfl (by kernel_rfl) (by kernel_rfl) (by kernel_rfl) (fun _ _ _ h => h) (Or.inl ⟨by rfl, ?_⟩) HS0.out ?_
              rotate_left
              · (intro W hSW; clear hSW; go_simp)
                first | done | (with_reducible rfl)
              try simp only [Act.put, List.setIfInBounds_toArray, List.set_cons_zero, List.set_cons_succ]
              refine wpAnyH_take (i := 4) (oi := ⟨some 137, _, _, _, _, _⟩) (v := ?_) rfl (by kernel_rfl) (by kernel_rfl) (by kernel_rfl) (fun _ _ _ h => h) (Or.inl ⟨by rfl, ?_⟩) HS0.out ?_
              rotate_left
              · (intro W hSW; clear hSW; go_simp)
                first | done | (with_reducible rfl)
              try simp only [Act.put, List.setIfInBounds_toArray, List.set_cons_zero, List.set_cons_succ]
              refine wpAnyH_take (i := 5) (oi := ⟨some 138, _, _, _, _, _⟩) (v := .agg x.cs.toArray) rfl (by kernel_rfl) (by kernel_rfl) (by kernel_rfl) (fun _ _ _ h => h) (yields_flo (by rfl) (.tmp 137) rfl qb (ob + i * 36) rfl x (fun _ h => h.2)) HS0.out ?_
              try simp only [Act.put, List.setIfInBounds_toArray, List.set_cons_zero, List.set_cons_succ]
              refine wpAnyH_take (i := 6) (oi := ⟨some 139, _, _, _, _, _⟩) (v := ?_) rfl (by kernel_rfl) (by kernel_rfl) (by kernel_rfl) (fun _ _ _ h => h) (Or.inl ⟨by rfl, ?_⟩) HS0.out ?_
              rotate_left
              · (intro W hSW; clear hSW; go_simp)
                first | done | (with_reducible rfl)
              try simp only [Act.put, List.setIfInBounds_toArray, List.set_cons_zero, List.set_cons_succ]
              refine wpAnyH_ready (rs := [7]) (by kernel_rfl) (by simp) ?_
              refine AllReadyH.cons (o := ⟨some 140, _, _, _, _, _⟩) rfl (fun K hK => ?_) AllReadyH.nil
              go_simp
              refine ((V0.out.same HP.out HRF.out HSO.out HX.out h2 HY.out)).mono ?_
              rintro e x1 ⟨rfl, hb⟩
              have V1 : Hid (Pl T w1 g gd S1 S1 x1) := V0.out.below HP.out hb
              have HS1 : Hid (Blk x1 gd 34 (dcs S1) ∧ x1.rangeAt qb (ob + i * 36) x.cs) := ⟨V1.out.d, HRX.out _ V1.out.a.be⟩
              clear hb V0 HS0
              go_simp
              refine hK.out _ _ ?_ (fun _ => ?_)
              · exact HS1.out
              clear hK K
              try simp only [Act.put, List.setIfInBounds_toArray, List.set_cons_zero, List.set_cons_succ]
              refine wpAnyH_take (i := 8) (oi := ⟨some 141, _, _, _, _, _⟩) (v := .bool false) rfl (by kernel_rfl) (by kernel_rfl) (by kernel_rfl) (fun _ _ _ h => h) (Or.inl ⟨by rfl, ?_⟩) HS1.out ?_
              · (intro W hSW; clear hSW; go_simp)
                all_goals rfl
              try simp only [Act.put, List.setIfInBounds_toArray, List.set_cons_zero, List.set_cons_succ]
              refine wpAnyH_done (by kernel_rfl) ?_ _
              go_wp2_with fail
              go_roundw
              case rel => exact ⟨i + 1, by omega, by go_num, V1.out⟩
              case measure => simp [intOf]; omega
            · have him : m = i := by omega
              subst him
              go_wp2_with fail
              go_roundw
              case rel => exact ⟨k + 1, S1, by omega, by go_num, PI.out, HSO.out, HEP.out⟩
              case measure => simp [intOf]; omega
    · have hkl : l = k := by omega
      subst hkl
      have FIN : Hid (Ans (.bool true) w (.returned (.bool true)) wr) := ⟨rfl, WB.out.trans (PR.out.a.be.mono WB.out.size)⟩
      clear PR
      go_wp2
      go_ret
      exact FIN.out
end Go.Proofs.Ytfhlgmmfknfamaa
