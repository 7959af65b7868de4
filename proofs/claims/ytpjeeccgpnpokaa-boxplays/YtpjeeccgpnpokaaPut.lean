/- The contract of the document's Put, where it puts one in. Conditions: those of each theorem. -/
import Derived.Test.YtpjeeccgpnpokaaPutOld
namespace Go.Proofs.Ytpjeeccgpnpokaa
open Go.RowKit

theorem run_bent (C : Cfg) (p : Pre) (x : Int) (w : World) : (Instr.build 77 #[(0, .agg p.cs.toArray), (1, .int .i64 (addC (cnt (clm x)) (cnt C.term))), (2, .agg (toks C (C.b * 1048576) (clm x)).toArray)]).run Try.prog w = .ok (.agg ((newE C p x).cs C.r C.b).toArray) w := run_build w 77 _ _ (by kernel_rfl)
theorem ent_each (r b : Int) (s : Ent) : ∀ u ∈ s.cs r b, u.oneCell' = true := (kEnt r b).one s
theorem step_lay {ops : Array Oper} {o : Oper} {a : Act} {w : World} {K : Act → World → Prop} {Q : Exit → Act → World → Prop} {E : Prop} (hw : Region.wanted o (yielded ops a.tmps) = true) (ty : TypeId) (k : Nat) (hty : (Try.prog.info? ty).map (·.size) = some k) (x y : Operand) (ho : o.op = .store ty x y)
    (g : Nat) (xs : List Value) (hx : a.eval x = .pointer (some ⟨g, 0, none⟩)) (hy : a.eval y = .agg xs.toArray) (t : TypeId) (old : List Value) (hb : Blk w g t old) (hl : old.length = k) (hxl : xs.length = k) (h1 : xs.toArray.all (·.oneCell') = true)
    (h : ∀ w', Hid (Blk w' g t xs) → Hid (Far (only g) w w') → K (a.put o.dst undef) w') : if Region.wanted o (yielded ops a.tmps) = true then Oper.wp Try.prog o a w K Q else E := by
  rw [if_pos hw]
  exact wp_store_row ty x y ho g xs.toArray hx hy t old.toArray hb (by rw [List.size_toArray, hxl]; exact hty) (by rw [List.size_toArray, List.size_toArray, hl, hxl]) h1 (h _ (setRow_blk hb xs) (setRow_far w g _))
/-- Putting one in, by three appends. -/
theorem app_take {C : Cfg} {S : List Ent} {A2 : Option Addr} {k e : Nat} {w4 W : World} (c2 : Nat) (hb : Below w4.heap.size w4 W) (O : Ow (kEnt C.r C.b) 77 w4.heap.size (.slice (some ⟨e, 0, none⟩) 0 0) [] W) (hE : Els (kEnt C.r C.b) w4 A2 S) (hk : k ≤ S.length) (hl : S.length ≤ 1000) :
    ∃ v5 w5, (Builtin.append_ #[35, 35] 35 #[.slice (some ⟨e, 0, none⟩) 0 0, .slice A2 k c2]).run Try.prog W = .ok v5 w5 ∧ Ow (kEnt C.r C.b) 77 w4.heap.size v5 (S.take k) w5 ∧ Below w4.heap.size w4 w5 ∧ Far (only e) W w5 := by
  obtain ⟨v6, w6, hrun6, o6, g6, b6⟩ := run_app (P := Try.prog) (R := S.take k) W 35 35 (.agg (ent0.cs 0 0).toArray) 48 Try.underlying35 (info77 C.r C.b) rfl (by omega) O (A := A2) ((hE.upto k).below hb) c2 (by simp; omega) hb.size
  rw [List.length_take, Nat.min_eq_left hk] at hrun6
  rw [List.nil_append] at o6
  have hf : Far (only e) W w6 := Far.grown (Far.refl _ _) g6 (fun k hk _ => by simp [Value.ownBlock] at hk; exact hk.symm)
  have he := (O.lt e rfl).1
  exact ⟨v6, w6, hrun6, o6, hb.trans (hf.below hb.size (fun k hk e2 => by unfold only at e2; omega)), hf⟩
theorem app_rest {C : Cfg} {S : List Ent} {s : Ent} {A2 Z : Option Addr} {k o1 : Nat} {v5 : Value} {w4 W : World} (c2 : Nat) (hb : Below w4.heap.size w4 W) (O : Ow (kEnt C.r C.b) 77 w4.heap.size v5 (S.take k) W) (h1 : Els (kEnt C.r C.b) W (some ⟨o1, 0, none⟩) [s]) (hE : Els (kEnt C.r C.b) w4 A2 S)
    (hZ : ∀ W, Els (kEnt C.r C.b) W A2 S → Els (kEnt C.r C.b) W Z (S.drop k)) (hl : S.length ≤ 1000) :
    ∃ v8 w8 A13 c13 w13, (Builtin.append_ #[35, 35] 35 #[v5, .slice (some ⟨o1, 0, none⟩) 1 1]).run Try.prog W = .ok v8 w8 ∧ (Builtin.append_ #[35, 35] 35 #[v8, .slice Z (S.length - k) (c2 - k)]).run Try.prog w8 = .ok (.slice A13 (ins S k s).length c13) w13 ∧
      Below w4.heap.size w4 w8 ∧ Below w4.heap.size w4 w13 ∧ Els (kEnt C.r C.b) w13 A13 (ins S k s) ∧ (ins S k s).length ≤ c13 ∧ ∀ ad, A13 = some ad → w4.heap.size ≤ ad.block ∧ ad.block < w13.heap.size := by
  obtain ⟨v8, w8, r8, o8, g8, b8⟩ := run_app (P := Try.prog) (R := [s]) W 35 35 (.agg (ent0.cs 0 0).toArray) 48 Try.underlying35 (info77 C.r C.b) rfl (by omega) O h1 1 (by simp; omega) hb.size
  have hb8 : Below w4.heap.size w4 w8 := hb.trans ((Far.grown (S := fun k => w4.heap.size ≤ k) (Far.refl _ _) g8 (fun k hk _ => (O.lt k hk).1)).below hb.size (fun k hk e => by omega))
  obtain ⟨v13, w13, r13, o13, g13, b13⟩ := run_app (P := Try.prog) (R := S.drop k) w8 35 35 (.agg (ent0.cs 0 0).toArray) 48 Try.underlying35 (info77 C.r C.b) rfl (by omega) o8 ((hZ _ hE).below hb8) (c2 - k) (by simp; omega) hb8.size
  have hb13 : Below w4.heap.size w4 w13 := hb8.trans ((Far.grown (S := fun k => w4.heap.size ≤ k) (Far.refl _ _) g13 (fun k hk _ => (o8.lt k hk).1)).below hb8.size (fun k hk e => by omega))
  have hlt := o13.lt
  obtain ⟨A13, c13, rfl, hc13, _, E13, ho13, _⟩ := o13.els
  rw [List.length_drop] at r13
  refine ⟨v8, w8, A13, c13, w13, r8, r13, hb8, hb13, E13, hc13, fun ad e => ?_⟩
  subst e
  exact hlt _ ho13
set_option maxRecDepth 4000 in
set_option maxHeartbeats 8000000 in
theorem put_new (A : Option Addr) (c : Nat) (L : List Ent) (C : Cfg) (p : Pre) (x : Int) (w : World) (h : Els (kEnt C.r C.b) w A L) (ho : Oks C L) (hp : p.Ok) (hC : C.Ok) (hl : L.length ≤ 1000) (hno : putE C (swp L x) p = 0) :
    Calls Try.prog 11 #[bx A L.length c C, .agg p.cs.toArray, .int .i64 x] w (BRes (putS C (swp L x) p x) C (fun v => .tuple #[v, .int .i64 (putE C (swp L x) p)]) w) := by
  obtain ⟨n, hn⟩ : ∃ n, L.length = n := ⟨_, rfl⟩
  obtain ⟨n0, n1, n2, n3⟩ := three_new A n c C p w
  have N0 := Lib.hid n0
  have N1 := Lib.hid n1
  have N2 := Lib.hid n2
  have W0 := Lib.hid n3
  have H := Lib.hid (h.below n3)
  have HS := Lib.hid (fun W hW => hn ▸ sweep_ A c L C x W hW hl)
  have hsl : (swp L x).length ≤ 1000 := Nat.le_trans (swp_len L x) hl
  have HO := Lib.hid (And.intro (ho.swp x) hp)
  rw [hn]
  clear hn n0 n1 n2 n3 h ho hp hl
  obtain ⟨S, hS⟩ : ∃ S, swp L x = S := ⟨_, rfl⟩
  rw [hS] at HS HO hsl hno ⊢
  clear hS
  have hall : ∀ A2 n2 c2, (bcs A2 n2 c2 C).toArray.all (·.oneCell') = true := fun A2 n2 c2 => all_oneCell_toArray (bcs_each _ _ _ _)
  have hh : has S p = false := by
    rcases hh : has S p with _ | _
    · rfl
    · simp [putE, hh] at hno
  have hr : ¬ C.room ≤ (S.length : Int) := fun hr => by simp [putE, hh, hr] at hno
  have HPS : Hid (putS C S p x = ins S (plc S p) (newE C p x)) := by show _ = _; simp [putS, hh, hr]
  rw [hno]
  have hfd := fnd_not hh
  have HCb := Lib.hid hC.b
  have hb73 : Hid (∀ W : World, Blk (W.alloc (.cells (toks ⟨0, 0, 0, 0⟩ 0 0).toArray 72)) W.heap.size 72 (toks ⟨0, 0, 0, 0⟩ 0 0)) := fun W => Blk.new W 72 _
  have HBL := Lib.hid (fun W => run_bent C p x W)
  clear hno hh hC
  go_enter Try.func11, Try.ntmps11
  go_upto_region 1 with fail
  generalize (((w.alloc (.cells (bcs A n c C).toArray 37)).alloc (.cells p.cs.toArray 31)).alloc (.cells #[.slice none 0 0, .int .i64 0, .int .i64 0, .int .i64 0, .int .i64 0] 37)) = x1 at *
  go_upto_region 2 with (first
    | (refine wpList_loadE (by rfl) 37 _ Try.underlying37 rfl (.tmp 3) rfl w.heap.size 0 rfl _ (whole_at N0.out) size37 ?_)
    | (go_at_call 12; (with_reducible refine (HS.out _ H.out).mono ?_); rintro e x2 ⟨A2, c2, rfl, hc2, hE2, hb2, hfr2⟩; have N0' := Lib.hid (N0.out.below hb2))
    | (refine wpList_lay rfl 37 5 size37 (.tmp 3) (.tmp 13) rfl _ (bcs A2 S.length c2 C) rfl rfl 37 _ N0'.out rfl rfl (hall _ _ _) ?_; intro x3 hB3 hF3; have D1 := Lib.hid (Hd.first N1.out N2.out W0.out hb2 hE2 hc2 hfr2 hB3.out hF3.out); clear hB3 hF3))
  clear hc2 hE2 hb2 hfr2 N0 N0' N1 N2 W0 H HS
  go_upto_region 4 with (first
    | (refine wpList_loadE (by rfl) 37 _ Try.underlying37 rfl (.tmp 3) rfl w.heap.size 0 rfl _ (whole_at D1.out.b) size37 ?_)
    | (refine wpList_pre (by rfl) (.tmp 4) rfl _ 0 rfl p (whole_at D1.out.p) ?_)
    | (go_at_call 13; (with_reducible refine (find_ A2 c2 S C p _ D1.out.els HO.out.1 HO.out.2 hsl).mono ?_); rintro e x4 ⟨rfl, hb⟩; rw [hfd]; have D2 := Lib.hid (D1.out.below hb); clear hb))
  clear D1
  clear hfd
  have c0 : x4.cell? ⟨w.heap.size, 0, none⟩ = some (.slice A2 S.length c2) := D2.out.b.cell 0
  have c1 : x4.cell? ⟨w.heap.size, 1, none⟩ = some (.int .i64 C.room) := D2.out.b.cell 1
  have c3 : x4.cell? ⟨w.heap.size, 3, none⟩ = some (.int .i64 C.r) := D2.out.b.cell 3
  have c4 : x4.cell? ⟨w.heap.size, 4, none⟩ = some (.int .i64 C.b) := D2.out.b.cell 4
  go_upto_region 6 with fail
  go_upto_region 7 with (first
    | (go_at_call 27; (with_reducible refine (refNew_ C.r C.b x4 HCb.out.1 HCb.out.2).mono ?_); rintro e x5 ⟨rfl, hb⟩; have D3 := Lib.hid (D2.out.below hb); clear hb)
    | (refine wpList_lay rfl 72 4 (size73 C (C.b * 1048576) 0) (.tmp 8) (.tmp 30) rfl _ (toks C (C.b * 1048576) 0) rfl rfl 72 _ (hb73.out x5) rfl rfl (all_oneCell_toArray (toks_each _ _ _)) ?_; intro x6 hB6 hF6; have T4 := Lib.hid hB6.out; have D4 : Hid (Hd w S C p A2 c2 x6) := D3.out.below (below_only ((Below.refl _ x5).alloc (Nat.le_refl _) _) hF6.out (Nat.le_refl _) (by simp)); clear hB6 hF6))
  clear c0 c1 c3 c4 D2 hb73
  have hbt : w.heap.size + 3 ≤ x5.heap.size := D3.out.size
  have HFR : Hid (∀ ad, A2 = some ad → ad.block ≠ x5.heap.size) := fun ad e => by have := (D3.out.fr ad e).2; omega
  clear D3
  generalize x5.heap.size = bt at *
  have k3 : ∀ N, (x6.drewN N).cell? ⟨bt, 3, none⟩ = some (.int .i64 0) := fun N => T4.out.cell 3
  have f3 : ∀ N, (x6.drewN N).frozen? ⟨bt, 3, none⟩ = false := fun N => T4.out.frozen 3
  go_upto_region 8 with (go_at_call 28; (with_reducible refine (clamp_ x x6).mono ?_); rintro e x7 ⟨rfl, m7, rfl⟩)
  have D5 : Hid (Hd w S C p A2 c2 ((x6.drewN m7).setCell ⟨bt, 3, none⟩ (.int .i64 (clm x)))) := (D4.out.below (below_drewN (Below.refl _ _) m7)).past ((Far.refl (only bt) _).set_ (p := ⟨bt, 3, none⟩) (fun _ => rfl) _) hbt HFR.out
  have T5 : Hid (Blk ((x6.drewN m7).setCell ⟨bt, 3, none⟩ (.int .i64 (clm x))) bt 72 (toks C (C.b * 1048576) (clm x))) := (T4.out.drewN m7).set_ 3 (.int .i64 (clm x))
  clear D4 T4 k3 f3
  generalize ((x6.drewN m7).setCell ⟨bt, 3, none⟩ (.int .i64 (clm x))) = x8 at *
  go_cut [9] from 34 to 42 (fun s wx => ∃ G, s = .pointer (some ⟨G, 0, none⟩) ∧ w.heap.size + 3 ≤ G ∧ (∀ ad, A2 = some ad → ad.block ≠ G) ∧ Blk wx G 77 ((newE C p x).cs C.r C.b) ∧ Hd w S C p A2 c2 wx)
  case first =>
    have D5 : Hid (Hd w S C p A2 c2 x8.drew) := D5.out.below (Below.refl _ x8).drew
    have HTK : Hid (∀ W, Below x8.drew.heap.size x8.drew W → W.rangeAt bt 0 (toks C (C.b * 1048576) (clm x))) := fun W hW => whole_at (T5.out.drew.below hW)
    have HPX : Hid (∀ W, Below x8.drew.heap.size x8.drew W → W.rangeAt (w.heap.size + 1) 0 p.cs) := fun W hW => whole_at (D5.out.p.below hW)
    have HCT : Hid (∀ W, Below x8.drew.heap.size x8.drew W → W.cell? ⟨w.heap.size, 2, none⟩ = some (.int .i64 C.term)) := fun W hW => (D5.out.b.below hW).cell 2
    clear T5
    refine wp_region_held_drew (S := fun W => Below x8.drew.heap.size x8.drew W) (by kernel_rfl) ?_ (fun _ => ?_)
    · exact Below.refl _ _
    generalize x8.drew = x9 at *
    have B0 := Lib.hid (Below.refl x9.heap.size x9)
    refine wpAnyH_take (i := 0) (oi := ⟨some 34, _, _, _, _, _⟩) (v := .agg p.cs.toArray) rfl (by kernel_rfl) (by kernel_rfl) (by kernel_rfl) (fun _ _ _ h => h) (yields_pre (by rfl) (.tmp 4) rfl (w.heap.size + 1) 0 rfl p HPX.out) B0.out ?_
    try simp only [Act.put, List.setIfInBounds_toArray, List.set_cons_zero, List.set_cons_succ]
    refine wpAnyH_take (i := 1) (oi := ⟨some 35, _, _, _, _, _⟩) (v := ?_) rfl (by kernel_rfl) (by kernel_rfl) (by kernel_rfl) (fun _ _ _ h => h) (Or.inl ⟨by rfl, ?_⟩) B0.out ?_
    rotate_left
    · (intro W hSW; clear hSW; go_simp)
      first | done | (with_reducible rfl)
    try simp only [Act.put, List.setIfInBounds_toArray, List.set_cons_zero, List.set_cons_succ]
    refine wpAnyH_take (i := 3) (oi := ⟨some 37, _, _, _, _, _⟩) (v := ?_) rfl (by kernel_rfl) (by kernel_rfl) (by kernel_rfl) (fun _ _ _ h => h) (Or.inl ⟨by rfl, ?_⟩) B0.out ?_
    rotate_left
    · (intro W hSW; clear hSW; go_simp)
      first | done | (with_reducible rfl)
    try simp only [Act.put, List.setIfInBounds_toArray, List.set_cons_zero, List.set_cons_succ]
    refine wpAnyH_take (i := 4) (oi := ⟨some 38, _, _, _, _, _⟩) (v := ?_) rfl (by kernel_rfl) (by kernel_rfl) (by kernel_rfl) (fun _ _ _ h => h) (Or.inl ⟨by rfl, ?_⟩) B0.out ?_
    rotate_left
    · (intro W hSW; have hc := HCT.out W hSW; clear hSW; go_simp)
      first | done | (with_reducible rfl)
    try simp only [Act.put, List.setIfInBounds_toArray, List.set_cons_zero, List.set_cons_succ]
    refine wpAnyH_take (i := 6) (oi := ⟨some 40, _, _, _, _, _⟩) (v := .agg (toks C (C.b * 1048576) (clm x)).toArray) rfl (by kernel_rfl) (by kernel_rfl) (by kernel_rfl) (fun _ _ _ h => h) (yields_loadE (by rfl) 72 _ Try.underlying72 rfl (.tmp 8) rfl bt 0 rfl _ HTK.out (size73 _ _ _)) B0.out ?_
    try simp only [Act.put, List.setIfInBounds_toArray, List.set_cons_zero, List.set_cons_succ]
    refine wpAnyH_ready (rs := [2, 8]) (by kernel_rfl) (by simp) ?_
    refine AllReadyH.cons (o := ⟨some 36, _, _, _, _, _⟩) rfl (fun K hK => ?_) (AllReadyH.cons (o := ⟨some 9, _, _, _, _, _⟩) rfl (fun K hK => ?_) AllReadyH.nil)
    · skip
      go_simp
      refine (clamp_ x x9).mono ?_
      rintro e z1 ⟨rfl, m1, rfl⟩
      have B1 : Hid (Below x9.heap.size x9 (x9.drewN m1)) := below_drewN B0.out m1
      go_simp
      refine hK.out _ _ ?_ (fun _ => ?_)
      · exact B1.out
      clear hK K
      try simp only [Act.put, List.setIfInBounds_toArray, List.set_cons_zero, List.set_cons_succ]
      refine wpAnyH_ready (rs := [5, 8]) (by kernel_rfl) (by simp) ?_
      refine AllReadyH.cons (o := ⟨some 39, _, _, _, _, _⟩) rfl (fun K hK => ?_) (AllReadyH.cons (o := ⟨some 9, _, _, _, _, _⟩) rfl (fun K hK => ?_) AllReadyH.nil)
      · skip
        go_simp
        refine (radd_any (clm x) C.term (x9.drewN m1)).mono ?_
        rintro e z2 ⟨rfl, rfl⟩
        have B2 := B1
        go_simp
        refine hK.out _ _ ?_ (fun _ => ?_)
        · exact B2.out
        clear hK K
        try simp only [Act.put, List.setIfInBounds_toArray, List.set_cons_zero, List.set_cons_succ]
        refine wpAnyH_take (i := 7) (oi := ⟨some 41, _, _, _, _, _⟩) (v := .agg ((newE C p x).cs C.r C.b).toArray) rfl (by kernel_rfl) (by kernel_rfl) (by kernel_rfl) (fun _ _ _ h => h) (yields_build (by rfl) 77 [(0, .tmp 34), (1, .tmp 39), (2, .tmp 40)] rfl [(0, .agg p.cs.toArray), (1, .int .i64 (addC (cnt (clm x)) (cnt C.term))), (2, .agg (toks C (C.b * 1048576) (clm x)).toArray)] (by rfl) ((newE C p x).cs C.r C.b) HBL.out) B2.out ?_
        try simp only [Act.put, List.setIfInBounds_toArray, List.set_cons_zero, List.set_cons_succ]
        refine wpAnyH_ready (rs := [8]) (by kernel_rfl) (by simp) ?_
        refine AllReadyH.cons (o := ⟨some 9, _, _, _, _, _⟩) rfl (fun K hK => ?_) AllReadyH.nil
        go_simp
        have B3 : Hid (Below x9.heap.size x9 ((x9.drewN m1).alloc (.cells (ent0.cs 0 0).toArray 77))) := B2.out.alloc B2.out.size _
        have NB := Lib.hid (Blk.new (x9.drewN m1) 77 (ent0.cs 0 0))
        have hG : x9.heap.size ≤ (x9.drewN m1).heap.size := B2.out.size
        refine hK.out _ _ ?_ (fun _ => ?_)
        · exact B3.out
        clear hK K
        try simp only [Act.put, List.setIfInBounds_toArray, List.set_cons_zero, List.set_cons_succ]
        refine wpAnyH_ready (rs := [9]) (by kernel_rfl) (by simp) ?_
        refine AllReadyH.cons (o := ⟨none, _, _, _, _, _⟩) rfl (fun K hK => ?_) AllReadyH.nil
        refine step_lay (by rfl) 77 13 (size77 C.r C.b (newE C p x)) (.tmp 9) (.tmp 41) (by rfl) (x9.drewN m1).heap.size ((newE C p x).cs C.r C.b) (by rfl) (by rfl) 77 (ent0.cs 0 0) NB.out rfl rfl (all_oneCell_toArray (ent_each _ _ _)) ?_
        intro y9 K9 F9
        have D9 := (D5.out.below B3.out).past F9.out (by have := D5.out.size; omega) (fun ad e => by have := (D5.out.fr ad e).2; omega)
        have BY : Below x9.heap.size x9 y9 := B3.out.trans (F9.out.below B3.out.size (fun k hk e => by unfold only at e; omega))
        refine hK.out _ _ ?_ (fun _ => ?_)
        · exact BY
        clear hK K
        try simp only [Act.put]
        refine wpAnyH_done (by kernel_rfl) ?_ _
        go_wp2_with fail
        go_meet
        case rel => exact ⟨_, rfl, (by have := D5.out.size; omega), (fun ad e => by have := (D5.out.fr ad e).2; omega), K9.out, D9⟩
      · skip
        go_simp
        have B2 : Hid (Below x9.heap.size x9 ((x9.drewN m1).alloc (.cells (ent0.cs 0 0).toArray 77))) := B1.out.alloc B1.out.size _
        have NB := Lib.hid (Blk.new (x9.drewN m1) 77 (ent0.cs 0 0))
        have hG : x9.heap.size ≤ (x9.drewN m1).heap.size := B1.out.size
        refine hK.out _ _ ?_ (fun _ => ?_)
        · exact B2.out
        clear hK K
        try simp only [Act.put, List.setIfInBounds_toArray, List.set_cons_zero, List.set_cons_succ]
        refine wpAnyH_ready (rs := [5]) (by kernel_rfl) (by simp) ?_
        refine AllReadyH.cons (o := ⟨some 39, _, _, _, _, _⟩) rfl (fun K hK => ?_) AllReadyH.nil
        go_simp
        refine (radd_any (clm x) C.term ((x9.drewN m1).alloc (.cells (ent0.cs 0 0).toArray 77))).mono ?_
        rintro e z3 ⟨rfl, rfl⟩
        have B3 := B2
        go_simp
        refine hK.out _ _ ?_ (fun _ => ?_)
        · exact B3.out
        clear hK K
        try simp only [Act.put, List.setIfInBounds_toArray, List.set_cons_zero, List.set_cons_succ]
        refine wpAnyH_take (i := 7) (oi := ⟨some 41, _, _, _, _, _⟩) (v := .agg ((newE C p x).cs C.r C.b).toArray) rfl (by kernel_rfl) (by kernel_rfl) (by kernel_rfl) (fun _ _ _ h => h) (yields_build (by rfl) 77 [(0, .tmp 34), (1, .tmp 39), (2, .tmp 40)] rfl [(0, .agg p.cs.toArray), (1, .int .i64 (addC (cnt (clm x)) (cnt C.term))), (2, .agg (toks C (C.b * 1048576) (clm x)).toArray)] (by rfl) ((newE C p x).cs C.r C.b) HBL.out) B3.out ?_
        try simp only [Act.put, List.setIfInBounds_toArray, List.set_cons_zero, List.set_cons_succ]
        refine wpAnyH_ready (rs := [9]) (by kernel_rfl) (by simp) ?_
        refine AllReadyH.cons (o := ⟨none, _, _, _, _, _⟩) rfl (fun K hK => ?_) AllReadyH.nil
        refine step_lay (by rfl) 77 13 (size77 C.r C.b (newE C p x)) (.tmp 9) (.tmp 41) (by rfl) (x9.drewN m1).heap.size ((newE C p x).cs C.r C.b) (by rfl) (by rfl) 77 (ent0.cs 0 0) NB.out rfl rfl (all_oneCell_toArray (ent_each _ _ _)) ?_
        intro y9 K9 F9
        have D9 := (D5.out.below B3.out).past F9.out (by have := D5.out.size; omega) (fun ad e => by have := (D5.out.fr ad e).2; omega)
        have BY : Below x9.heap.size x9 y9 := B3.out.trans (F9.out.below B3.out.size (fun k hk e => by unfold only at e; omega))
        refine hK.out _ _ ?_ (fun _ => ?_)
        · exact BY
        clear hK K
        try simp only [Act.put]
        refine wpAnyH_done (by kernel_rfl) ?_ _
        go_wp2_with fail
        go_meet
        case rel => exact ⟨_, rfl, (by have := D5.out.size; omega), (fun ad e => by have := (D5.out.fr ad e).2; omega), K9.out, D9⟩
    · skip
      go_simp
      have B1 : Hid (Below x9.heap.size x9 (x9.alloc (.cells (ent0.cs 0 0).toArray 77))) := B0.out.alloc B0.out.size _
      have NB := Lib.hid (Blk.new x9 77 (ent0.cs 0 0))
      have hG : x9.heap.size ≤ x9.heap.size := B0.out.size
      refine hK.out _ _ ?_ (fun _ => ?_)
      · exact B1.out
      clear hK K
      try simp only [Act.put, List.setIfInBounds_toArray, List.set_cons_zero, List.set_cons_succ]
      refine wpAnyH_ready (rs := [2]) (by kernel_rfl) (by simp) ?_
      refine AllReadyH.cons (o := ⟨some 36, _, _, _, _, _⟩) rfl (fun K hK => ?_) AllReadyH.nil
      go_simp
      refine (clamp_ x (x9.alloc (.cells (ent0.cs 0 0).toArray 77))).mono ?_
      rintro e z2 ⟨rfl, m2, rfl⟩
      have B2 : Hid (Below x9.heap.size x9 ((x9.alloc (.cells (ent0.cs 0 0).toArray 77)).drewN m2)) := below_drewN B1.out m2
      go_simp
      refine hK.out _ _ ?_ (fun _ => ?_)
      · exact B2.out
      clear hK K
      try simp only [Act.put, List.setIfInBounds_toArray, List.set_cons_zero, List.set_cons_succ]
      refine wpAnyH_ready (rs := [5]) (by kernel_rfl) (by simp) ?_
      refine AllReadyH.cons (o := ⟨some 39, _, _, _, _, _⟩) rfl (fun K hK => ?_) AllReadyH.nil
      go_simp
      refine (radd_any (clm x) C.term ((x9.alloc (.cells (ent0.cs 0 0).toArray 77)).drewN m2)).mono ?_
      rintro e z3 ⟨rfl, rfl⟩
      have B3 := B2
      go_simp
      refine hK.out _ _ ?_ (fun _ => ?_)
      · exact B3.out
      clear hK K
      try simp only [Act.put, List.setIfInBounds_toArray, List.set_cons_zero, List.set_cons_succ]
      refine wpAnyH_take (i := 7) (oi := ⟨some 41, _, _, _, _, _⟩) (v := .agg ((newE C p x).cs C.r C.b).toArray) rfl (by kernel_rfl) (by kernel_rfl) (by kernel_rfl) (fun _ _ _ h => h) (yields_build (by rfl) 77 [(0, .tmp 34), (1, .tmp 39), (2, .tmp 40)] rfl [(0, .agg p.cs.toArray), (1, .int .i64 (addC (cnt (clm x)) (cnt C.term))), (2, .agg (toks C (C.b * 1048576) (clm x)).toArray)] (by rfl) ((newE C p x).cs C.r C.b) HBL.out) B3.out ?_
      try simp only [Act.put, List.setIfInBounds_toArray, List.set_cons_zero, List.set_cons_succ]
      refine wpAnyH_ready (rs := [9]) (by kernel_rfl) (by simp) ?_
      refine AllReadyH.cons (o := ⟨none, _, _, _, _, _⟩) rfl (fun K hK => ?_) AllReadyH.nil
      refine step_lay (by rfl) 77 13 (size77 C.r C.b (newE C p x)) (.tmp 9) (.tmp 41) (by rfl) x9.heap.size ((newE C p x).cs C.r C.b) (by rfl) (by rfl) 77 (ent0.cs 0 0) (NB.out.drewN m2) rfl rfl (all_oneCell_toArray (ent_each _ _ _)) ?_
      intro y9 K9 F9
      have D9 := (D5.out.below B3.out).past F9.out (by have := D5.out.size; omega) (fun ad e => by have := (D5.out.fr ad e).2; omega)
      have BY : Below x9.heap.size x9 y9 := B3.out.trans (F9.out.below B3.out.size (fun k hk e => by unfold only at e; omega))
      refine hK.out _ _ ?_ (fun _ => ?_)
      · exact BY
      clear hK K
      try simp only [Act.put]
      refine wpAnyH_done (by kernel_rfl) ?_ _
      go_wp2_with fail
      go_meet
      case rel => exact ⟨_, rfl, (by have := D5.out.size; omega), (fun ad e => by have := (D5.out.fr ad e).2; omega), K9.out, D9⟩
  case rest =>
    obtain ⟨G, rfl, hG, hfr, hbk, hd⟩ := hcut
    have D6 := Lib.hid hd
    have E6 := Lib.hid hbk
    clear hd hbk hG hfr D5 T5 HFR HBL HCb hr hbt
    obtain ⟨n2, hn2⟩ : ∃ n2, S.length = n2 := ⟨_, rfl⟩
    have HN2 := Lib.hid hn2
    have hcap : n2 ≤ c2 := hn2 ▸ D6.out.cap
    have HSL := Lib.hid hsl
    have HPLC := Lib.hid (plc_le (L := S) (p := p))
    have HLS := Lib.hid (fun k W => less_ (at_ S k).p p W)
    have HPX : Hid (∀ W, Below wc.heap.size wc W → W.rangeAt (w.heap.size + 1) 0 p.cs) := fun W hW => whole_at (D6.out.p.below hW)
    clear hn2
    go_upto_region 10 with fail
    go_loopw [10] (fun i w' => ∃ k : Nat, k ≤ plc S p ∧ i = .int .i64 k ∧ Below wc.heap.size wc w') (fun i _ => n2 - (intOf i).toNat)
    case atStart => exact ⟨0, by omega, rfl, Below.refl _ _⟩
    case round =>
      obtain ⟨k, hk, rfl, hbe⟩ := hrel
      have hkn : k ≤ n2 := by have := HPLC.out; have := HN2.out; omega
      have hn2k : n2 ≤ 1000 := by have := HSL.out; have := HN2.out; omega
      have HS1_ := Lib.hid (fun W => run_upto35 (A := A2) (n := n2) (c := c2) (k := k) W (by omega))
      have HS2 := Lib.hid (fun W => run_from35 (A := A2) (n := n2) (c := c2) (k := k) W (by omega))
      have HZ := Lib.hid (fun W (hW : Els (kEnt C.r C.b) W A2 S) => hW.from_ (k := k) (cap := c2) (by have := HN2.out; omega))
      generalize hzz : (if c2 = k then A2 else A2.map (·.add (k * 13))) = Z at HS2
      have HZ2 : Hid (∀ W, Els (kEnt C.r C.b) W A2 S → Els (kEnt C.r C.b) W Z (S.drop k)) := hzz ▸ HZ
      clear hzz HZ
      have W5 : Hid (Below wc.heap.size wc wr.drew) := Below.drew hbe
      have HC : Hid (∀ W, Below wc.heap.size wc W → W.cell? ⟨w.heap.size, 0, none⟩ = some (.slice A2 n2 c2)) := fun W hW => HN2.out ▸ (D6.out.b.below hW).cell 0
      clear hbe
      by_cases hlt : k < n2
      · have hkL : k < S.length := by rw [HN2.out]; exact hlt
        obtain ⟨q, o, hA, hs0⟩ := D6.out.els k _ (at_some hkL)
        have hs1 : wc.rangeAt q (o + k * 13) ((at_ S k).cs C.r C.b) := hs0
        have HE : Hid (∀ W, Below wc.heap.size wc W → W.rangeAt q (o + k * 13) ((at_ S k).cs C.r C.b)) := fun W hW => range_below hs1 (Nat.le_refl _) hW
        subst hA
        have HLK := Lib.hid (HLS.out k)
        clear hs0 hs1 HLS
        rcases hd2 : ltP (at_ S k).p p with _ | _
        · have hkp : k = plc S p := by
            rcases Nat.lt_or_ge k (plc S p) with h1 | h1
            · have := plc_not h1
              rw [hd2] at this
              cases this
            · omega
          have HPUT : Hid (putS C S p x = ins S k (newE C p x)) := by show _ = _; rw [HPS.out, ← hkp]
          rw [hd2] at HLK
          clear hkp hd2 hkL HPS
          go_upto_region 10 with fail
          refine wp_region_held_drew (S := fun W => Below wc.heap.size wc W) (by kernel_rfl) ?_ (fun _ => ?_)
          · exact W5.out
          have HS0 := W5
          refine wpAnyH_take (i := 0) (oi := ⟨some 42, _, _, _, _, _⟩) (v := ?_) rfl (by kernel_rfl) (by kernel_rfl) (by kernel_rfl) (fun _ _ _ h => h) (Or.inl ⟨by rfl, ?_⟩) HS0.out ?_
          rotate_left
          · (intro W hSW; clear hSW; go_simp)
            first | done | (with_reducible rfl)
          try simp only [Act.put, List.setIfInBounds_toArray, List.set_cons_zero, List.set_cons_succ]
          refine wpAnyH_take (i := 1) (oi := ⟨some 43, _, _, _, _, _⟩) (v := ?_) rfl (by kernel_rfl) (by kernel_rfl) (by kernel_rfl) (fun _ _ _ h => h) (Or.inl ⟨by rfl, ?_⟩) HS0.out ?_
          rotate_left
          · (intro W hSW; clear hSW; go_simp)
            first | done | (with_reducible rfl)
          try simp only [Act.put, List.setIfInBounds_toArray, List.set_cons_zero, List.set_cons_succ]
          refine wpAnyH_take (i := 2) (oi := ⟨some 44, _, _, _, _, _⟩) (v := ?_) rfl (by kernel_rfl) (by kernel_rfl) (by kernel_rfl) (fun _ _ _ h => h) (Or.inl ⟨by rfl, ?_⟩) HS0.out ?_
          rotate_left
          · (intro W hSW; have k0 := HC.out W hSW; clear hSW; go_simp)
            first | done | (with_reducible rfl)
          try simp only [Act.put, List.setIfInBounds_toArray, List.set_cons_zero, List.set_cons_succ]
          refine wpAnyH_take (i := 3) (oi := ⟨some 45, _, _, _, _, _⟩) (v := ?_) rfl (by kernel_rfl) (by kernel_rfl) (by kernel_rfl) (fun _ _ _ h => h) (Or.inl ⟨by rfl, ?_⟩) HS0.out ?_
          rotate_left
          · (intro W hSW; clear hSW; go_simp)
            first | done | (with_reducible rfl)
          try simp only [Act.put, List.setIfInBounds_toArray, List.set_cons_zero, List.set_cons_succ]
          refine wpAnyH_take (i := 4) (oi := ⟨some 46, _, _, _, _, _⟩) (v := ?_) rfl (by kernel_rfl) (by kernel_rfl) (by kernel_rfl) (fun _ _ _ h => h) (Or.inl ⟨by rfl, ?_⟩) HS0.out ?_
          rotate_left
          · (intro W hSW; clear hSW; go_simp)
            first | done | (with_reducible rfl)
          try simp only [Act.put, List.setIfInBounds_toArray, List.set_cons_zero, List.set_cons_succ]
          refine wpAnyH_take (i := 5) (oi := ⟨some 47, _, _, _, _, _⟩) (v := ?_) rfl (by kernel_rfl) (by kernel_rfl) (by kernel_rfl) (fun _ _ _ h => h) (Or.inl ⟨by rfl, ?_⟩) HS0.out ?_
          rotate_left
          · (intro W hSW; clear hSW; go_simp)
            first | done | (with_reducible rfl)
          try simp only [Act.put, List.setIfInBounds_toArray, List.set_cons_zero, List.set_cons_succ]
          refine wpAnyH_take (i := 6) (oi := ⟨some 48, _, _, _, _, _⟩) (v := ?_) rfl (by kernel_rfl) (by kernel_rfl) (by kernel_rfl) (fun _ _ _ h => h) (Or.inl ⟨by rfl, ?_⟩) HS0.out ?_
          rotate_left
          · (intro W hSW; clear hSW; go_simp)
            first | done | (with_reducible rfl)
          try simp only [Act.put, List.setIfInBounds_toArray, List.set_cons_zero, List.set_cons_succ]
          refine wpAnyH_take (i := 7) (oi := ⟨some 49, _, _, _, _, _⟩) (v := ?_) rfl (by kernel_rfl) (by kernel_rfl) (by kernel_rfl) (fun _ _ _ h => h) (Or.inl ⟨by rfl, ?_⟩) HS0.out ?_
          rotate_left
          · (intro W hSW; have k0 := HC.out W hSW; clear hSW; go_simp)
            first | done | (with_reducible rfl)
          try simp only [Act.put, List.setIfInBounds_toArray, List.set_cons_zero, List.set_cons_succ]
          refine wpAnyH_take (i := 8) (oi := ⟨some 50, _, _, _, _, _⟩) (v := ?_) rfl (by kernel_rfl) (by kernel_rfl) (by kernel_rfl) (fun _ _ _ h => h) (Or.inl ⟨by rfl, ?_⟩) HS0.out ?_
          rotate_left
          · (intro W hSW; clear hSW; go_simp)
            first | done | (with_reducible rfl)
          try simp only [Act.put, List.setIfInBounds_toArray, List.set_cons_zero, List.set_cons_succ]
          refine wpAnyH_take (i := 9) (oi := ⟨some 51, _, _, _, _, _⟩) (v := ?_) rfl (by kernel_rfl) (by kernel_rfl) (by kernel_rfl) (fun _ _ _ h => h) (Or.inl ⟨by rfl, ?_⟩) HS0.out ?_
          rotate_left
          · (intro W hSW; clear hSW; go_simp)
            first | done | (with_reducible rfl)
          try simp only [Act.put, List.setIfInBounds_toArray, List.set_cons_zero, List.set_cons_succ]
          refine wpAnyH_take (i := 10) (oi := ⟨some 52, _, _, _, _, _⟩) (v := ?_) rfl (by kernel_rfl) (by kernel_rfl) (by kernel_rfl) (fun _ _ _ h => h) (Or.inl ⟨by rfl, ?_⟩) HS0.out ?_
          rotate_left
          · (intro W hSW; clear hSW; go_simp)
            first | done | (with_reducible rfl)
          try simp only [Act.put, List.setIfInBounds_toArray, List.set_cons_zero, List.set_cons_succ]
          refine wpAnyH_take (i := 11) (oi := ⟨some 53, _, _, _, _, _⟩) (v := .agg (at_ S k).p.cs.toArray) rfl (by kernel_rfl) (by kernel_rfl) (by kernel_rfl) (fun _ _ _ h => h) (yields_pre (by rfl) (.tmp 52) rfl q (o + k * 13) rfl (at_ S k).p (fun _ h => range_p (HE.out _ h))) HS0.out ?_
          try simp only [Act.put, List.setIfInBounds_toArray, List.set_cons_zero, List.set_cons_succ]
          refine wpAnyH_take (i := 12) (oi := ⟨some 54, _, _, _, _, _⟩) (v := .agg p.cs.toArray) rfl (by kernel_rfl) (by kernel_rfl) (by kernel_rfl) (fun _ _ _ h => h) (yields_pre (by rfl) (.tmp 4) rfl (w.heap.size + 1) 0 rfl p HPX.out) HS0.out ?_
          try simp only [Act.put, List.setIfInBounds_toArray, List.set_cons_zero, List.set_cons_succ]
          refine wpAnyH_ready (rs := [13]) (by kernel_rfl) (by simp) ?_
          refine AllReadyH.cons (o := ⟨some 55, _, _, _, _, _⟩) rfl (fun K hK => ?_) AllReadyH.nil
          go_simp
          refine (HLK.out _).mono ?_
          rintro e x1 ⟨rfl, hb⟩
          have HS1 : Hid (Below wc.heap.size wc x1) := HS0.out.trans (hb.mono HS0.out.size)
          clear hb
          go_simp
          refine hK.out _ _ ?_ (fun _ => ?_)
          · exact HS1.out
          clear hK K
          try simp only [Act.put, List.setIfInBounds_toArray, List.set_cons_zero, List.set_cons_succ]
          refine wpAnyH_take (i := 14) (oi := ⟨some 56, _, _, _, _, _⟩) (v := ?_) rfl (by kernel_rfl) (by kernel_rfl) (by kernel_rfl) (fun _ _ _ h => h) (Or.inl ⟨by rfl, ?_⟩) HS1.out ?_
          rotate_left
          · (intro W hSW; clear hSW; go_simp)
            first | done | (with_reducible rfl)
          try simp only [Act.put, List.setIfInBounds_toArray, List.set_cons_zero, List.set_cons_succ]
          refine wpAnyH_done (by kernel_rfl) ?_ _
          go_upto_region 12 with fail
          have hb7 : Below wc.heap.size wc x1.drew := HS1.out.drew
          have D7 : Hid (Hd w S C p (some ⟨q, o, none⟩) c2 x1.drew) := D6.out.below hb7
          have E7 : Hid (Blk x1.drew G 77 ((newE C p x).cs C.r C.b)) := E6.out.below hb7
          clear hb7
          refine til_begin (fun W => W.cell? ⟨w.heap.size, 0, none⟩ = some (.slice (some ⟨q, o, none⟩) n2 c2) ∧ W.rangeAt G 0 ((newE C p x).cs C.r C.b)) 14 (by kernel_rfl) ?_
          have D0 := Lib.hid ((⟨HN2.out ▸ D7.out.b.cell 0, whole_at E7.out⟩ : x1.drew.cell? ⟨w.heap.size, 0, none⟩ = some (.slice (some ⟨q, o, none⟩) n2 c2) ∧ x1.drew.rangeAt G 0 ((newE C p x).cs C.r C.b)))
          generalize x1.drew = w4 at *
          have HC4 : Hid (∀ W, Below w4.heap.size w4 W → W.cell? ⟨w.heap.size, 0, none⟩ = some (.slice (some ⟨q, o, none⟩) n2 c2) ∧ W.rangeAt G 0 ((newE C p x).cs C.r C.b)) := fun W hW => ⟨HN2.out ▸ (D7.out.b.below hW).cell 0, whole_at (E7.out.below hW)⟩
          have hEA := D7.out.els
          have hkS : k ≤ S.length := by rw [HN2.out]; exact hkn
          refine til_take (i := 1) (oi := ⟨some 60, _, _, _, _, _⟩) (v := ?_) rfl (by kernel_rfl) (by kernel_rfl) (by kernel_rfl) (by decide) (by kernel_rfl) (by kernel_rfl) (fun _ _ _ h => h) (Or.inl ⟨by rfl, ?_⟩) D0.out ?_
          rotate_left
          · (intro W hSW; clear hSW; go_simp)
            first | done | (with_reducible rfl)
          try simp only [Act.put, List.setIfInBounds_toArray, List.set_cons_zero, List.set_cons_succ]
          refine til_take (i := 2) (oi := ⟨some 61, _, _, _, _, _⟩) (v := ?_) rfl (by kernel_rfl) (by kernel_rfl) (by kernel_rfl) (by decide) (by kernel_rfl) (by kernel_rfl) (fun _ _ _ h => h) (Or.inl ⟨by rfl, ?_⟩) D0.out ?_
          rotate_left
          · (intro W hSW; have k0 := hSW.1; clear hSW; go_simp)
            first | done | (with_reducible rfl)
          try simp only [Act.put, List.setIfInBounds_toArray, List.set_cons_zero, List.set_cons_succ]
          refine til_take (i := 3) (oi := ⟨some 62, _, _, _, _, _⟩) (v := ?_) rfl (by kernel_rfl) (by kernel_rfl) (by kernel_rfl) (by decide) (by kernel_rfl) (by kernel_rfl) (fun _ _ _ h => h) (Or.inl ⟨by rfl, ?_⟩) D0.out ?_
          rotate_left
          · (intro W hSW; clear hSW; go_simp)
            first | done | (with_reducible rfl)
          try simp only [Act.put, List.setIfInBounds_toArray, List.set_cons_zero, List.set_cons_succ]
          refine til_take (i := 4) (oi := ⟨some 63, _, _, _, _, _⟩) (v := .slice (some ⟨q, o, none⟩) k c2) rfl (by kernel_rfl) (by kernel_rfl) (by kernel_rfl) (by decide) (by kernel_rfl) (by kernel_rfl) (fun _ _ _ h => h) (yields_slice (by rfl) (.tmp 61) none (some (.tmp 62)) none rfl (.slice (some ⟨q, o, none⟩) n2 c2) none (some (.int .i64 (k : Nat))) none (by rfl) (by rfl) (by rfl) (by rfl) _ HS1_.out) D0.out ?_
          try simp only [Act.put, List.setIfInBounds_toArray, List.set_cons_zero, List.set_cons_succ]
          refine til_take (i := 6) (oi := ⟨some 65, _, _, _, _, _⟩) (v := .agg ((newE C p x).cs C.r C.b).toArray) rfl (by kernel_rfl) (by kernel_rfl) (by kernel_rfl) (by decide) (by kernel_rfl) (by kernel_rfl) (fun _ _ _ h => h) (yields_loadE (by rfl) 77 _ Try.underlying77 rfl (.tmp 9) rfl G 0 rfl _ (fun _ h => h.2) (size77 _ _ _)) D0.out ?_
          try simp only [Act.put, List.setIfInBounds_toArray, List.set_cons_zero, List.set_cons_succ]
          refine til_take (i := 9) (oi := ⟨some 68, _, _, _, _, _⟩) (v := ?_) rfl (by kernel_rfl) (by kernel_rfl) (by kernel_rfl) (by decide) (by kernel_rfl) (by kernel_rfl) (fun _ _ _ h => h) (Or.inl ⟨by rfl, ?_⟩) D0.out ?_
          rotate_left
          · (intro W hSW; clear hSW; go_simp)
            first | done | (with_reducible rfl)
          try simp only [Act.put, List.setIfInBounds_toArray, List.set_cons_zero, List.set_cons_succ]
          refine til_take (i := 10) (oi := ⟨some 69, _, _, _, _, _⟩) (v := ?_) rfl (by kernel_rfl) (by kernel_rfl) (by kernel_rfl) (by decide) (by kernel_rfl) (by kernel_rfl) (fun _ _ _ h => h) (Or.inl ⟨by rfl, ?_⟩) D0.out ?_
          rotate_left
          · (intro W hSW; have k0 := hSW.1; clear hSW; go_simp)
            first | done | (with_reducible rfl)
          try simp only [Act.put, List.setIfInBounds_toArray, List.set_cons_zero, List.set_cons_succ]
          refine til_take (i := 11) (oi := ⟨some 70, _, _, _, _, _⟩) (v := ?_) rfl (by kernel_rfl) (by kernel_rfl) (by kernel_rfl) (by decide) (by kernel_rfl) (by kernel_rfl) (fun _ _ _ h => h) (Or.inl ⟨by rfl, ?_⟩) D0.out ?_
          rotate_left
          · (intro W hSW; clear hSW; go_simp)
            first | done | (with_reducible rfl)
          try simp only [Act.put, List.setIfInBounds_toArray, List.set_cons_zero, List.set_cons_succ]
          refine til_take (i := 12) (oi := ⟨some 71, _, _, _, _, _⟩) (v := .slice Z (n2 - k) (c2 - k)) rfl (by kernel_rfl) (by kernel_rfl) (by kernel_rfl) (by decide) (by kernel_rfl) (by kernel_rfl) (fun _ _ _ h => h) (yields_slice (by rfl) (.tmp 69) (some (.tmp 70)) none none rfl (.slice (some ⟨q, o, none⟩) n2 c2) (some (.int .i64 (k : Nat))) none none (by rfl) (by rfl) (by rfl) (by rfl) _ HS2.out) D0.out ?_
          try simp only [Act.put, List.setIfInBounds_toArray, List.set_cons_zero, List.set_cons_succ]
          refine til_two (i := 0) (j := 7) (o := ⟨some 59, _, _, _, _, _⟩) (o' := ⟨some 66, _, _, _, _, _⟩) (by kernel_rfl) rfl rfl (fun K hK => ?_) (fun K hK => ?_)
          · skip
            have b1 : Below w4.heap.size w4 (w4.alloc (.cells #[] 77)) := (Below.refl _ w4).alloc (Nat.le_refl _) _
            obtain ⟨v5, w5, r5, o5, b5, f5⟩ := app_take c2 b1 (Ow.new (K := kEnt C.r C.b) (e := 77) w4 (Nat.le_refl _)) hEA hkS hsl
            have B1 := Lib.hid b1
            have R5 := Lib.hid r5
            have B5 := Lib.hid b5
            clear b1
            refine step_emp (by rfl) rfl ?_
            refine hK.out _ _ (fun _ => HC4.out _ B1.out) ?_
            clear hK K
            try simp only [Act.put, List.setIfInBounds_toArray, List.set_cons_zero, List.set_cons_succ]
            refine til_two (i := 5) (j := 7) (o := ⟨some 64, _, _, _, _, _⟩) (o' := ⟨some 66, _, _, _, _, _⟩) (by kernel_rfl) rfl rfl (fun K hK => ?_) (fun K hK => ?_)
            · skip
              refine step_app (by rfl) 35 (.tmp 59) (.tmp 63) rfl _ _ _ rfl rfl R5.out ?_
              refine hK.out _ _ (fun _ => HC4.out _ B5.out) ?_
              clear hK K
              try simp only [Act.put, List.setIfInBounds_toArray, List.set_cons_zero, List.set_cons_succ]
              have b6 : Below w4.heap.size w4 (w5.alloc (.cells ((newE C p x).cs C.r C.b).toArray 77)) := B5.out.alloc B5.out.size _
              obtain ⟨v8, w8, A13, c13, w13, r8, r13, b8, b13, E13, hc13, hf13⟩ := app_rest (s := (newE C p x)) c2 b6 (o5.below ((Below.refl _ w5).alloc (Nat.le_refl _) _)) (Els.of_blk (K := kEnt C.r C.b) (Blk.new w5 77 ((newE C p x).cs C.r C.b))) hEA HZ2.out hsl
              have B6 := Lib.hid b6
              clear o5 f5
              rw [HN2.out] at r13
              have R8 := Lib.hid r8
              have R13 := Lib.hid r13
              have B8 := Lib.hid b8
              have B13 := Lib.hid b13
              have D8 := D7.out.below b13
              have HF := Lib.hid (D8.b.frozen 0)
              have D9 : Hid (Hd w (ins S k (newE C p x)) C p A13 c13 (w13.setCell ⟨w.heap.size, 0, none⟩ (.slice A13 (ins S k (newE C p x)).length c13))) :=
                D8.turn ((Far.refl (only w.heap.size) w13).set_ (p := ⟨w.heap.size, 0, none⟩) (fun _ => rfl) _) (D8.b.set_ 0 _) E13 hc13 (fun ad e => by have h1 := hf13 ad e; have h2 := D7.out.size; exact ⟨by omega, h1.2⟩)
              clear r8 r13 b8 b13 D8 E13 hc13 hf13 hEA
              refine til_one (i := 7) (o := ⟨some 66, _, _, _, _, _⟩) (by kernel_rfl) rfl (fun K hK => ?_)
              refine step_onee (by rfl) (.tmp 65) rfl C.r C.b (newE C p x) rfl ?_
              refine hK.out _ _ (fun _ => HC4.out _ B6.out) ?_
              clear hK K
              try simp only [Act.put, List.setIfInBounds_toArray, List.set_cons_zero, List.set_cons_succ]
              refine til_one (i := 8) (o := ⟨some 67, _, _, _, _, _⟩) (by kernel_rfl) rfl (fun K hK => ?_)
              refine step_app (by rfl) 35 (.tmp 64) (.tmp 66) rfl _ _ _ rfl rfl R8.out ?_
              refine hK.out _ _ (fun _ => HC4.out _ B8.out) ?_
              clear hK K
              try simp only [Act.put, List.setIfInBounds_toArray, List.set_cons_zero, List.set_cons_succ]
              refine til_one (i := 13) (o := ⟨some 72, _, _, _, _, _⟩) (by kernel_rfl) rfl (fun K hK => ?_)
              refine step_app (by rfl) 35 (.tmp 67) (.tmp 71) rfl _ _ _ rfl rfl R13.out ?_
              refine hK.out _ _ (fun _ => HC4.out _ B13.out) ?_
              clear hK K
              have k7 := (HC4.out _ B13.out).1
              have f7 := HF.out
              try simp only [Act.put, List.setIfInBounds_toArray, List.set_cons_zero, List.set_cons_succ]
              refine til_one (i := 14) (o := ⟨some 73, _, _, _, _, _⟩) (by kernel_rfl) rfl (fun K hK => ?_)
              go_simp
              refine hK.out _ _ (past (by kernel_rfl)) ?_
              clear hK K
              try simp only [Act.put, List.setIfInBounds_toArray, List.set_cons_zero, List.set_cons_succ]
              refine til_one (i := 15) (o := ⟨none, _, _, _, _, _⟩) (by kernel_rfl) rfl (fun K hK => ?_)
              go_simp
              refine hK.out _ _ (past (by kernel_rfl)) ?_
              clear hK K
              try simp only [Act.put]
              refine til_done (by kernel_rfl) ?_ _
              go_wp2_with (first
                | (refine wpList_loadE (by rfl) 37 _ Try.underlying37 rfl (.tmp 3) rfl w.heap.size 0 rfl _ (whole_at D9.out.b) size37 ?_)
                | (refine wpList_lay rfl 37 5 size37 (.tmp 6) (.tmp 74) rfl _ (bcs A13 (ins S k (newE C p x)).length c13 C) rfl rfl 37 _ D9.out.r rfl rfl (hall _ _ _) ?_; intro x9 hB9 hF9; have hv := load_bx hB9.out rfl; have FIN := Lib.hid (D9.out.fin hF9.out (fun v => .tuple #[v, .int .i64 0]))))
              refine bodyPost_ret (v := .tuple #[bx A13 (ins S k (newE C p x)).length c13 C, .int .i64 0]) (by simp [results, Try.results11, asAddr, hv]) rfl ((by rw [HPUT.out]; exact FIN.out))
            · skip
              clear r5 o5 b5 f5 R5 B5 w5 v5
              have b6 : Below w4.heap.size w4 ((w4.alloc (.cells #[] 77)).alloc (.cells ((newE C p x).cs C.r C.b).toArray 77)) := B1.out.alloc B1.out.size _
              obtain ⟨v5, w5, r5, o5, b5, f5⟩ := app_take c2 b6 ((Ow.new (K := kEnt C.r C.b) (e := 77) w4 (Nat.le_refl _)).below ((Below.refl _ _).alloc (Nat.le_refl _) _)) hEA hkS hsl
              obtain ⟨v8, w8, A13, c13, w13, r8, r13, b8, b13, E13, hc13, hf13⟩ := app_rest (s := (newE C p x)) c2 b5 o5 ((Els.of_blk (K := kEnt C.r C.b) (Blk.new (w4.alloc (.cells #[] 77)) 77 ((newE C p x).cs C.r C.b))).far f5 (fun q o e n => by cases e; unfold only at n; simp at n)) hEA HZ2.out hsl
              have B6 := Lib.hid b6
              have R5 := Lib.hid r5
              have B5 := Lib.hid b5
              clear r5 o5 b5 f5
              refine step_onee (by rfl) (.tmp 65) rfl C.r C.b (newE C p x) rfl ?_
              refine hK.out _ _ (fun _ => HC4.out _ B6.out) ?_
              clear hK K
              try simp only [Act.put, List.setIfInBounds_toArray, List.set_cons_zero, List.set_cons_succ]
              rw [HN2.out] at r13
              have R8 := Lib.hid r8
              have R13 := Lib.hid r13
              have B8 := Lib.hid b8
              have B13 := Lib.hid b13
              have D8 := D7.out.below b13
              have HF := Lib.hid (D8.b.frozen 0)
              have D9 : Hid (Hd w (ins S k (newE C p x)) C p A13 c13 (w13.setCell ⟨w.heap.size, 0, none⟩ (.slice A13 (ins S k (newE C p x)).length c13))) :=
                D8.turn ((Far.refl (only w.heap.size) w13).set_ (p := ⟨w.heap.size, 0, none⟩) (fun _ => rfl) _) (D8.b.set_ 0 _) E13 hc13 (fun ad e => by have h1 := hf13 ad e; have h2 := D7.out.size; exact ⟨by omega, h1.2⟩)
              clear r8 r13 b8 b13 D8 E13 hc13 hf13 hEA
              refine til_one (i := 5) (o := ⟨some 64, _, _, _, _, _⟩) (by kernel_rfl) rfl (fun K hK => ?_)
              refine step_app (by rfl) 35 (.tmp 59) (.tmp 63) rfl _ _ _ rfl rfl R5.out ?_
              refine hK.out _ _ (fun _ => HC4.out _ B5.out) ?_
              clear hK K
              try simp only [Act.put, List.setIfInBounds_toArray, List.set_cons_zero, List.set_cons_succ]
              refine til_one (i := 8) (o := ⟨some 67, _, _, _, _, _⟩) (by kernel_rfl) rfl (fun K hK => ?_)
              refine step_app (by rfl) 35 (.tmp 64) (.tmp 66) rfl _ _ _ rfl rfl R8.out ?_
              refine hK.out _ _ (fun _ => HC4.out _ B8.out) ?_
              clear hK K
              try simp only [Act.put, List.setIfInBounds_toArray, List.set_cons_zero, List.set_cons_succ]
              refine til_one (i := 13) (o := ⟨some 72, _, _, _, _, _⟩) (by kernel_rfl) rfl (fun K hK => ?_)
              refine step_app (by rfl) 35 (.tmp 67) (.tmp 71) rfl _ _ _ rfl rfl R13.out ?_
              refine hK.out _ _ (fun _ => HC4.out _ B13.out) ?_
              clear hK K
              have k7 := (HC4.out _ B13.out).1
              have f7 := HF.out
              try simp only [Act.put, List.setIfInBounds_toArray, List.set_cons_zero, List.set_cons_succ]
              refine til_one (i := 14) (o := ⟨some 73, _, _, _, _, _⟩) (by kernel_rfl) rfl (fun K hK => ?_)
              go_simp
              refine hK.out _ _ (past (by kernel_rfl)) ?_
              clear hK K
              try simp only [Act.put, List.setIfInBounds_toArray, List.set_cons_zero, List.set_cons_succ]
              refine til_one (i := 15) (o := ⟨none, _, _, _, _, _⟩) (by kernel_rfl) rfl (fun K hK => ?_)
              go_simp
              refine hK.out _ _ (past (by kernel_rfl)) ?_
              clear hK K
              try simp only [Act.put]
              refine til_done (by kernel_rfl) ?_ _
              go_wp2_with (first
                | (refine wpList_loadE (by rfl) 37 _ Try.underlying37 rfl (.tmp 3) rfl w.heap.size 0 rfl _ (whole_at D9.out.b) size37 ?_)
                | (refine wpList_lay rfl 37 5 size37 (.tmp 6) (.tmp 74) rfl _ (bcs A13 (ins S k (newE C p x)).length c13 C) rfl rfl 37 _ D9.out.r rfl rfl (hall _ _ _) ?_; intro x9 hB9 hF9; have hv := load_bx hB9.out rfl; have FIN := Lib.hid (D9.out.fin hF9.out (fun v => .tuple #[v, .int .i64 0]))))
              refine bodyPost_ret (v := .tuple #[bx A13 (ins S k (newE C p x)).length c13 C, .int .i64 0]) (by simp [results, Try.results11, asAddr, hv]) rfl ((by rw [HPUT.out]; exact FIN.out))
          · skip
            have b1 : Below w4.heap.size w4 (w4.alloc (.cells ((newE C p x).cs C.r C.b).toArray 77)) := (Below.refl _ w4).alloc (Nat.le_refl _) _
            have b6 : Below w4.heap.size w4 ((w4.alloc (.cells ((newE C p x).cs C.r C.b).toArray 77)).alloc (.cells #[] 77)) := b1.alloc b1.size _
            obtain ⟨v5, w5, r5, o5, b5, f5⟩ := app_take c2 b6 (Ow.new (K := kEnt C.r C.b) (e := 77) (w4.alloc (.cells ((newE C p x).cs C.r C.b).toArray 77)) b1.size) hEA hkS hsl
            obtain ⟨v8, w8, A13, c13, w13, r8, r13, b8, b13, E13, hc13, hf13⟩ := app_rest (s := (newE C p x)) c2 b5 o5 (((Els.of_blk (K := kEnt C.r C.b) (Blk.new w4 77 ((newE C p x).cs C.r C.b))).below ((Below.refl _ _).alloc (Nat.le_refl _) _)).far f5 (fun q o e n => by cases e; unfold only at n; simp at n)) hEA HZ2.out hsl
            have B1 := Lib.hid b1
            have B6 := Lib.hid b6
            have R5 := Lib.hid r5
            have B5 := Lib.hid b5
            clear r5 o5 b5 f5 b1
            refine step_onee (by rfl) (.tmp 65) rfl C.r C.b (newE C p x) rfl ?_
            refine hK.out _ _ (fun _ => HC4.out _ B1.out) ?_
            clear hK K
            try simp only [Act.put, List.setIfInBounds_toArray, List.set_cons_zero, List.set_cons_succ]
            rw [HN2.out] at r13
            have R8 := Lib.hid r8
            have R13 := Lib.hid r13
            have B8 := Lib.hid b8
            have B13 := Lib.hid b13
            have D8 := D7.out.below b13
            have HF := Lib.hid (D8.b.frozen 0)
            have D9 : Hid (Hd w (ins S k (newE C p x)) C p A13 c13 (w13.setCell ⟨w.heap.size, 0, none⟩ (.slice A13 (ins S k (newE C p x)).length c13))) :=
              D8.turn ((Far.refl (only w.heap.size) w13).set_ (p := ⟨w.heap.size, 0, none⟩) (fun _ => rfl) _) (D8.b.set_ 0 _) E13 hc13 (fun ad e => by have h1 := hf13 ad e; have h2 := D7.out.size; exact ⟨by omega, h1.2⟩)
            clear r8 r13 b8 b13 D8 E13 hc13 hf13 hEA
            refine til_one (i := 0) (o := ⟨some 59, _, _, _, _, _⟩) (by kernel_rfl) rfl (fun K hK => ?_)
            refine step_emp (by rfl) rfl ?_
            refine hK.out _ _ (fun _ => HC4.out _ B6.out) ?_
            clear hK K
            try simp only [Act.put, List.setIfInBounds_toArray, List.set_cons_zero, List.set_cons_succ]
            refine til_one (i := 5) (o := ⟨some 64, _, _, _, _, _⟩) (by kernel_rfl) rfl (fun K hK => ?_)
            refine step_app (by rfl) 35 (.tmp 59) (.tmp 63) rfl _ _ _ rfl rfl R5.out ?_
            refine hK.out _ _ (fun _ => HC4.out _ B5.out) ?_
            clear hK K
            try simp only [Act.put, List.setIfInBounds_toArray, List.set_cons_zero, List.set_cons_succ]
            refine til_one (i := 8) (o := ⟨some 67, _, _, _, _, _⟩) (by kernel_rfl) rfl (fun K hK => ?_)
            refine step_app (by rfl) 35 (.tmp 64) (.tmp 66) rfl _ _ _ rfl rfl R8.out ?_
            refine hK.out _ _ (fun _ => HC4.out _ B8.out) ?_
            clear hK K
            try simp only [Act.put, List.setIfInBounds_toArray, List.set_cons_zero, List.set_cons_succ]
            refine til_one (i := 13) (o := ⟨some 72, _, _, _, _, _⟩) (by kernel_rfl) rfl (fun K hK => ?_)
            refine step_app (by rfl) 35 (.tmp 67) (.tmp 71) rfl _ _ _ rfl rfl R13.out ?_
            refine hK.out _ _ (fun _ => HC4.out _ B13.out) ?_
            clear hK K
            have k7 := (HC4.out _ B13.out).1
            have f7 := HF.out
            try simp only [Act.put, List.setIfInBounds_toArray, List.set_cons_zero, List.set_cons_succ]
            refine til_one (i := 14) (o := ⟨some 73, _, _, _, _, _⟩) (by kernel_rfl) rfl (fun K hK => ?_)
            go_simp
            refine hK.out _ _ (past (by kernel_rfl)) ?_
            clear hK K
            try simp only [Act.put, List.setIfInBounds_toArray, List.set_cons_zero, List.set_cons_succ]
            refine til_one (i := 15) (o := ⟨none, _, _, _, _, _⟩) (by kernel_rfl) rfl (fun K hK => ?_)
            go_simp
            refine hK.out _ _ (past (by kernel_rfl)) ?_
            clear hK K
            try simp only [Act.put]
            refine til_done (by kernel_rfl) ?_ _
            go_wp2_with (first
              | (refine wpList_loadE (by rfl) 37 _ Try.underlying37 rfl (.tmp 3) rfl w.heap.size 0 rfl _ (whole_at D9.out.b) size37 ?_)
              | (refine wpList_lay rfl 37 5 size37 (.tmp 6) (.tmp 74) rfl _ (bcs A13 (ins S k (newE C p x)).length c13 C) rfl rfl 37 _ D9.out.r rfl rfl (hall _ _ _) ?_; intro x9 hB9 hF9; have hv := load_bx hB9.out rfl; have FIN := Lib.hid (D9.out.fin hF9.out (fun v => .tuple #[v, .int .i64 0]))))
            refine bodyPost_ret (v := .tuple #[bx A13 (ins S k (newE C p x)).length c13 C, .int .i64 0]) (by simp [results, Try.results11, asAddr, hv]) rfl ((by rw [HPUT.out]; exact FIN.out))
        · have hkp : k < plc S p := by
            rcases Nat.lt_or_ge k (plc S p) with h1 | h1
            · exact h1
            · have hkp : k = plc S p := by omega
              have := plc_at (L := S) (p := p) (by rw [← hkp]; exact hkL)
              rw [← hkp, hd2] at this
              cases this
          rw [hd2] at HLK
          clear hd2 hkL
          go_upto_region 10 with fail
          refine wp_region_held_drew (S := fun W => Below wc.heap.size wc W) (by kernel_rfl) ?_ (fun _ => ?_)
          · exact W5.out
          have HS0 := W5
          refine wpAnyH_take (i := 0) (oi := ⟨some 42, _, _, _, _, _⟩) (v := ?_) rfl (by kernel_rfl) (by kernel_rfl) (by kernel_rfl) (fun _ _ _ h => h) (Or.inl ⟨by rfl, ?_⟩) HS0.out ?_
          rotate_left
          · (intro W hSW; clear hSW; go_simp)
            first | done | (with_reducible rfl)
          try simp only [Act.put, List.setIfInBounds_toArray, List.set_cons_zero, List.set_cons_succ]
          refine wpAnyH_take (i := 1) (oi := ⟨some 43, _, _, _, _, _⟩) (v := ?_) rfl (by kernel_rfl) (by kernel_rfl) (by kernel_rfl) (fun _ _ _ h => h) (Or.inl ⟨by rfl, ?_⟩) HS0.out ?_
          rotate_left
          · (intro W hSW; clear hSW; go_simp)
            first | done | (with_reducible rfl)
          try simp only [Act.put, List.setIfInBounds_toArray, List.set_cons_zero, List.set_cons_succ]
          refine wpAnyH_take (i := 2) (oi := ⟨some 44, _, _, _, _, _⟩) (v := ?_) rfl (by kernel_rfl) (by kernel_rfl) (by kernel_rfl) (fun _ _ _ h => h) (Or.inl ⟨by rfl, ?_⟩) HS0.out ?_
          rotate_left
          · (intro W hSW; have k0 := HC.out W hSW; clear hSW; go_simp)
            first | done | (with_reducible rfl)
          try simp only [Act.put, List.setIfInBounds_toArray, List.set_cons_zero, List.set_cons_succ]
          refine wpAnyH_take (i := 3) (oi := ⟨some 45, _, _, _, _, _⟩) (v := ?_) rfl (by kernel_rfl) (by kernel_rfl) (by kernel_rfl) (fun _ _ _ h => h) (Or.inl ⟨by rfl, ?_⟩) HS0.out ?_
          rotate_left
          · (intro W hSW; clear hSW; go_simp)
            first | done | (with_reducible rfl)
          try simp only [Act.put, List.setIfInBounds_toArray, List.set_cons_zero, List.set_cons_succ]
          refine wpAnyH_take (i := 4) (oi := ⟨some 46, _, _, _, _, _⟩) (v := ?_) rfl (by kernel_rfl) (by kernel_rfl) (by kernel_rfl) (fun _ _ _ h => h) (Or.inl ⟨by rfl, ?_⟩) HS0.out ?_
          rotate_left
          · (intro W hSW; clear hSW; go_simp)
            first | done | (with_reducible rfl)
          try simp only [Act.put, List.setIfInBounds_toArray, List.set_cons_zero, List.set_cons_succ]
          refine wpAnyH_take (i := 5) (oi := ⟨some 47, _, _, _, _, _⟩) (v := ?_) rfl (by kernel_rfl) (by kernel_rfl) (by kernel_rfl) (fun _ _ _ h => h) (Or.inl ⟨by rfl, ?_⟩) HS0.out ?_
          rotate_left
          · (intro W hSW; clear hSW; go_simp)
            first | done | (with_reducible rfl)
          try simp only [Act.put, List.setIfInBounds_toArray, List.set_cons_zero, List.set_cons_succ]
          refine wpAnyH_take (i := 6) (oi := ⟨some 48, _, _, _, _, _⟩) (v := ?_) rfl (by kernel_rfl) (by kernel_rfl) (by kernel_rfl) (fun _ _ _ h => h) (Or.inl ⟨by rfl, ?_⟩) HS0.out ?_
          rotate_left
          · (intro W hSW; clear hSW; go_simp)
            first | done | (with_reducible rfl)
          try simp only [Act.put, List.setIfInBounds_toArray, List.set_cons_zero, List.set_cons_succ]
          refine wpAnyH_take (i := 7) (oi := ⟨some 49, _, _, _, _, _⟩) (v := ?_) rfl (by kernel_rfl) (by kernel_rfl) (by kernel_rfl) (fun _ _ _ h => h) (Or.inl ⟨by rfl, ?_⟩) HS0.out ?_
          rotate_left
          · (intro W hSW; have k0 := HC.out W hSW; clear hSW; go_simp)
            first | done | (with_reducible rfl)
          try simp only [Act.put, List.setIfInBounds_toArray, List.set_cons_zero, List.set_cons_succ]
          refine wpAnyH_take (i := 8) (oi := ⟨some 50, _, _, _, _, _⟩) (v := ?_) rfl (by kernel_rfl) (by kernel_rfl) (by kernel_rfl) (fun _ _ _ h => h) (Or.inl ⟨by rfl, ?_⟩) HS0.out ?_
          rotate_left
          · (intro W hSW; clear hSW; go_simp)
            first | done | (with_reducible rfl)
          try simp only [Act.put, List.setIfInBounds_toArray, List.set_cons_zero, List.set_cons_succ]
          refine wpAnyH_take (i := 9) (oi := ⟨some 51, _, _, _, _, _⟩) (v := ?_) rfl (by kernel_rfl) (by kernel_rfl) (by kernel_rfl) (fun _ _ _ h => h) (Or.inl ⟨by rfl, ?_⟩) HS0.out ?_
          rotate_left
          · (intro W hSW; clear hSW; go_simp)
            first | done | (with_reducible rfl)
          try simp only [Act.put, List.setIfInBounds_toArray, List.set_cons_zero, List.set_cons_succ]
          refine wpAnyH_take (i := 10) (oi := ⟨some 52, _, _, _, _, _⟩) (v := ?_) rfl (by kernel_rfl) (by kernel_rfl) (by kernel_rfl) (fun _ _ _ h => h) (Or.inl ⟨by rfl, ?_⟩) HS0.out ?_
          rotate_left
          · (intro W hSW; clear hSW; go_simp)
            first | done | (with_reducible rfl)
          try simp only [Act.put, List.setIfInBounds_toArray, List.set_cons_zero, List.set_cons_succ]
          refine wpAnyH_take (i := 11) (oi := ⟨some 53, _, _, _, _, _⟩) (v := .agg (at_ S k).p.cs.toArray) rfl (by kernel_rfl) (by kernel_rfl) (by kernel_rfl) (fun _ _ _ h => h) (yields_pre (by rfl) (.tmp 52) rfl q (o + k * 13) rfl (at_ S k).p (fun _ h => range_p (HE.out _ h))) HS0.out ?_
          try simp only [Act.put, List.setIfInBounds_toArray, List.set_cons_zero, List.set_cons_succ]
          refine wpAnyH_take (i := 12) (oi := ⟨some 54, _, _, _, _, _⟩) (v := .agg p.cs.toArray) rfl (by kernel_rfl) (by kernel_rfl) (by kernel_rfl) (fun _ _ _ h => h) (yields_pre (by rfl) (.tmp 4) rfl (w.heap.size + 1) 0 rfl p HPX.out) HS0.out ?_
          try simp only [Act.put, List.setIfInBounds_toArray, List.set_cons_zero, List.set_cons_succ]
          refine wpAnyH_ready (rs := [13]) (by kernel_rfl) (by simp) ?_
          refine AllReadyH.cons (o := ⟨some 55, _, _, _, _, _⟩) rfl (fun K hK => ?_) AllReadyH.nil
          go_simp
          refine (HLK.out _).mono ?_
          rintro e x1 ⟨rfl, hb⟩
          have HS1 : Hid (Below wc.heap.size wc x1) := HS0.out.trans (hb.mono HS0.out.size)
          clear hb
          go_simp
          refine hK.out _ _ ?_ (fun _ => ?_)
          · exact HS1.out
          clear hK K
          try simp only [Act.put, List.setIfInBounds_toArray, List.set_cons_zero, List.set_cons_succ]
          refine wpAnyH_take (i := 14) (oi := ⟨some 56, _, _, _, _, _⟩) (v := ?_) rfl (by kernel_rfl) (by kernel_rfl) (by kernel_rfl) (fun _ _ _ h => h) (Or.inl ⟨by rfl, ?_⟩) HS1.out ?_
          rotate_left
          · (intro W hSW; clear hSW; go_simp)
            first | done | (with_reducible rfl)
          try simp only [Act.put, List.setIfInBounds_toArray, List.set_cons_zero, List.set_cons_succ]
          refine wpAnyH_done (by kernel_rfl) ?_ _
          go_wp2_with fail
          go_roundw
          case rel => exact ⟨k + 1, by omega, by go_num, HS1.out⟩
          case measure => simp [intOf]; omega
      · have hkp : k = plc S p := by have := HPLC.out; have := HN2.out; omega
        have HPUT : Hid (putS C S p x = ins S k (newE C p x)) := by show _ = _; rw [HPS.out, ← hkp]
        clear hkp HPS
        go_upto_region 10 with fail
        refine wp_region_held_drew (S := fun W => Below wc.heap.size wc W) (by kernel_rfl) ?_ (fun _ => ?_)
        · exact W5.out
        have HS0 := W5
        refine wpAnyH_take (i := 0) (oi := ⟨some 42, _, _, _, _, _⟩) (v := ?_) rfl (by kernel_rfl) (by kernel_rfl) (by kernel_rfl) (fun _ _ _ h => h) (Or.inl ⟨by rfl, ?_⟩) HS0.out ?_
        rotate_left
        · (intro W hSW; clear hSW; go_simp)
          first | done | (with_reducible rfl)
        try simp only [Act.put, List.setIfInBounds_toArray, List.set_cons_zero, List.set_cons_succ]
        refine wpAnyH_take (i := 1) (oi := ⟨some 43, _, _, _, _, _⟩) (v := ?_) rfl (by kernel_rfl) (by kernel_rfl) (by kernel_rfl) (fun _ _ _ h => h) (Or.inl ⟨by rfl, ?_⟩) HS0.out ?_
        rotate_left
        · (intro W hSW; clear hSW; go_simp)
          first | done | (with_reducible rfl)
        try simp only [Act.put, List.setIfInBounds_toArray, List.set_cons_zero, List.set_cons_succ]
        refine wpAnyH_take (i := 2) (oi := ⟨some 44, _, _, _, _, _⟩) (v := ?_) rfl (by kernel_rfl) (by kernel_rfl) (by kernel_rfl) (fun _ _ _ h => h) (Or.inl ⟨by rfl, ?_⟩) HS0.out ?_
        rotate_left
        · (intro W hSW; have k0 := HC.out W hSW; clear hSW; go_simp)
          first | done | (with_reducible rfl)
        try simp only [Act.put, List.setIfInBounds_toArray, List.set_cons_zero, List.set_cons_succ]
        refine wpAnyH_take (i := 3) (oi := ⟨some 45, _, _, _, _, _⟩) (v := ?_) rfl (by kernel_rfl) (by kernel_rfl) (by kernel_rfl) (fun _ _ _ h => h) (Or.inl ⟨by rfl, ?_⟩) HS0.out ?_
        rotate_left
        · (intro W hSW; clear hSW; go_simp)
          first | done | (with_reducible rfl)
        try simp only [Act.put, List.setIfInBounds_toArray, List.set_cons_zero, List.set_cons_succ]
        refine wpAnyH_take (i := 4) (oi := ⟨some 46, _, _, _, _, _⟩) (v := ?_) rfl (by kernel_rfl) (by kernel_rfl) (by kernel_rfl) (fun _ _ _ h => h) (Or.inl ⟨by rfl, ?_⟩) HS0.out ?_
        rotate_left
        · (intro W hSW; clear hSW; go_simp)
          first | done | (with_reducible rfl)
        try simp only [Act.put, List.setIfInBounds_toArray, List.set_cons_zero, List.set_cons_succ]
        refine wpAnyH_take (i := 5) (oi := ⟨some 47, _, _, _, _, _⟩) (v := ?_) rfl (by kernel_rfl) (by kernel_rfl) (by kernel_rfl) (fun _ _ _ h => h) (Or.inl ⟨by rfl, ?_⟩) HS0.out ?_
        rotate_left
        · (intro W hSW; clear hSW; go_simp)
          first | done | (with_reducible rfl)
        try simp only [Act.put, List.setIfInBounds_toArray, List.set_cons_zero, List.set_cons_succ]
        refine wpAnyH_take (i := 6) (oi := ⟨some 48, _, _, _, _, _⟩) (v := undef) rfl (by kernel_rfl) (by kernel_rfl) (by kernel_rfl) (fun _ _ _ h => h) (Or.inr ⟨by rfl, rfl⟩) HS0.out ?_
        try simp only [Act.put, List.setIfInBounds_toArray, List.set_cons_zero, List.set_cons_succ]
        refine wpAnyH_take (i := 7) (oi := ⟨some 49, _, _, _, _, _⟩) (v := undef) rfl (by kernel_rfl) (by kernel_rfl) (by kernel_rfl) (fun _ _ _ h => h) (Or.inr ⟨by rfl, rfl⟩) HS0.out ?_
        try simp only [Act.put, List.setIfInBounds_toArray, List.set_cons_zero, List.set_cons_succ]
        refine wpAnyH_take (i := 8) (oi := ⟨some 50, _, _, _, _, _⟩) (v := undef) rfl (by kernel_rfl) (by kernel_rfl) (by kernel_rfl) (fun _ _ _ h => h) (Or.inr ⟨by rfl, rfl⟩) HS0.out ?_
        try simp only [Act.put, List.setIfInBounds_toArray, List.set_cons_zero, List.set_cons_succ]
        refine wpAnyH_take (i := 9) (oi := ⟨some 51, _, _, _, _, _⟩) (v := undef) rfl (by kernel_rfl) (by kernel_rfl) (by kernel_rfl) (fun _ _ _ h => h) (Or.inr ⟨by rfl, rfl⟩) HS0.out ?_
        try simp only [Act.put, List.setIfInBounds_toArray, List.set_cons_zero, List.set_cons_succ]
        refine wpAnyH_take (i := 10) (oi := ⟨some 52, _, _, _, _, _⟩) (v := undef) rfl (by kernel_rfl) (by kernel_rfl) (by kernel_rfl) (fun _ _ _ h => h) (Or.inr ⟨by rfl, rfl⟩) HS0.out ?_
        try simp only [Act.put, List.setIfInBounds_toArray, List.set_cons_zero, List.set_cons_succ]
        refine wpAnyH_take (i := 11) (oi := ⟨some 53, _, _, _, _, _⟩) (v := undef) rfl (by kernel_rfl) (by kernel_rfl) (by kernel_rfl) (fun _ _ _ h => h) (Or.inr ⟨by rfl, rfl⟩) HS0.out ?_
        try simp only [Act.put, List.setIfInBounds_toArray, List.set_cons_zero, List.set_cons_succ]
        refine wpAnyH_take (i := 12) (oi := ⟨some 54, _, _, _, _, _⟩) (v := undef) rfl (by kernel_rfl) (by kernel_rfl) (by kernel_rfl) (fun _ _ _ h => h) (Or.inr ⟨by rfl, rfl⟩) HS0.out ?_
        try simp only [Act.put, List.setIfInBounds_toArray, List.set_cons_zero, List.set_cons_succ]
        refine wpAnyH_take (i := 13) (oi := ⟨some 55, _, _, _, _, _⟩) (v := undef) rfl (by kernel_rfl) (by kernel_rfl) (by kernel_rfl) (fun _ _ _ h => h) (Or.inr ⟨by rfl, rfl⟩) HS0.out ?_
        try simp only [Act.put, List.setIfInBounds_toArray, List.set_cons_zero, List.set_cons_succ]
        refine wpAnyH_take (i := 14) (oi := ⟨some 56, _, _, _, _, _⟩) (v := ?_) rfl (by kernel_rfl) (by kernel_rfl) (by kernel_rfl) (fun _ _ _ h => h) (Or.inl ⟨by rfl, ?_⟩) HS0.out ?_
        rotate_left
        · (intro W hSW; clear hSW; go_simp)
          first | done | (with_reducible rfl)
        try simp only [Act.put, List.setIfInBounds_toArray, List.set_cons_zero, List.set_cons_succ]
        refine wpAnyH_done (by kernel_rfl) ?_ _
        go_upto_region 12 with fail
        have hb7 : Below wc.heap.size wc wr.drew.drew := W5.out.drew
        have D7 : Hid (Hd w S C p A2 c2 wr.drew.drew) := D6.out.below hb7
        have E7 : Hid (Blk wr.drew.drew G 77 ((newE C p x).cs C.r C.b)) := E6.out.below hb7
        clear hb7
        refine til_begin (fun W => W.cell? ⟨w.heap.size, 0, none⟩ = some (.slice A2 n2 c2) ∧ W.rangeAt G 0 ((newE C p x).cs C.r C.b)) 14 (by kernel_rfl) ?_
        have D0 := Lib.hid ((⟨HN2.out ▸ D7.out.b.cell 0, whole_at E7.out⟩ : wr.drew.drew.cell? ⟨w.heap.size, 0, none⟩ = some (.slice A2 n2 c2) ∧ wr.drew.drew.rangeAt G 0 ((newE C p x).cs C.r C.b)))
        generalize wr.drew.drew = w4 at *
        have HC4 : Hid (∀ W, Below w4.heap.size w4 W → W.cell? ⟨w.heap.size, 0, none⟩ = some (.slice A2 n2 c2) ∧ W.rangeAt G 0 ((newE C p x).cs C.r C.b)) := fun W hW => ⟨HN2.out ▸ (D7.out.b.below hW).cell 0, whole_at (E7.out.below hW)⟩
        have hEA := D7.out.els
        have hkS : k ≤ S.length := by rw [HN2.out]; exact hkn
        refine til_take (i := 1) (oi := ⟨some 60, _, _, _, _, _⟩) (v := ?_) rfl (by kernel_rfl) (by kernel_rfl) (by kernel_rfl) (by decide) (by kernel_rfl) (by kernel_rfl) (fun _ _ _ h => h) (Or.inl ⟨by rfl, ?_⟩) D0.out ?_
        rotate_left
        · (intro W hSW; clear hSW; go_simp)
          first | done | (with_reducible rfl)
        try simp only [Act.put, List.setIfInBounds_toArray, List.set_cons_zero, List.set_cons_succ]
        refine til_take (i := 2) (oi := ⟨some 61, _, _, _, _, _⟩) (v := ?_) rfl (by kernel_rfl) (by kernel_rfl) (by kernel_rfl) (by decide) (by kernel_rfl) (by kernel_rfl) (fun _ _ _ h => h) (Or.inl ⟨by rfl, ?_⟩) D0.out ?_
        rotate_left
        · (intro W hSW; have k0 := hSW.1; clear hSW; go_simp)
          first | done | (with_reducible rfl)
        try simp only [Act.put, List.setIfInBounds_toArray, List.set_cons_zero, List.set_cons_succ]
        refine til_take (i := 3) (oi := ⟨some 62, _, _, _, _, _⟩) (v := ?_) rfl (by kernel_rfl) (by kernel_rfl) (by kernel_rfl) (by decide) (by kernel_rfl) (by kernel_rfl) (fun _ _ _ h => h) (Or.inl ⟨by rfl, ?_⟩) D0.out ?_
        rotate_left
        · (intro W hSW; clear hSW; go_simp)
          first | done | (with_reducible rfl)
        try simp only [Act.put, List.setIfInBounds_toArray, List.set_cons_zero, List.set_cons_succ]
        refine til_take (i := 4) (oi := ⟨some 63, _, _, _, _, _⟩) (v := .slice A2 k c2) rfl (by kernel_rfl) (by kernel_rfl) (by kernel_rfl) (by decide) (by kernel_rfl) (by kernel_rfl) (fun _ _ _ h => h) (yields_slice (by rfl) (.tmp 61) none (some (.tmp 62)) none rfl (.slice A2 n2 c2) none (some (.int .i64 (k : Nat))) none (by rfl) (by rfl) (by rfl) (by rfl) _ HS1_.out) D0.out ?_
        try simp only [Act.put, List.setIfInBounds_toArray, List.set_cons_zero, List.set_cons_succ]
        refine til_take (i := 6) (oi := ⟨some 65, _, _, _, _, _⟩) (v := .agg ((newE C p x).cs C.r C.b).toArray) rfl (by kernel_rfl) (by kernel_rfl) (by kernel_rfl) (by decide) (by kernel_rfl) (by kernel_rfl) (fun _ _ _ h => h) (yields_loadE (by rfl) 77 _ Try.underlying77 rfl (.tmp 9) rfl G 0 rfl _ (fun _ h => h.2) (size77 _ _ _)) D0.out ?_
        try simp only [Act.put, List.setIfInBounds_toArray, List.set_cons_zero, List.set_cons_succ]
        refine til_take (i := 9) (oi := ⟨some 68, _, _, _, _, _⟩) (v := ?_) rfl (by kernel_rfl) (by kernel_rfl) (by kernel_rfl) (by decide) (by kernel_rfl) (by kernel_rfl) (fun _ _ _ h => h) (Or.inl ⟨by rfl, ?_⟩) D0.out ?_
        rotate_left
        · (intro W hSW; clear hSW; go_simp)
          first | done | (with_reducible rfl)
        try simp only [Act.put, List.setIfInBounds_toArray, List.set_cons_zero, List.set_cons_succ]
        refine til_take (i := 10) (oi := ⟨some 69, _, _, _, _, _⟩) (v := ?_) rfl (by kernel_rfl) (by kernel_rfl) (by kernel_rfl) (by decide) (by kernel_rfl) (by kernel_rfl) (fun _ _ _ h => h) (Or.inl ⟨by rfl, ?_⟩) D0.out ?_
        rotate_left
        · (intro W hSW; have k0 := hSW.1; clear hSW; go_simp)
          first | done | (with_reducible rfl)
        try simp only [Act.put, List.setIfInBounds_toArray, List.set_cons_zero, List.set_cons_succ]
        refine til_take (i := 11) (oi := ⟨some 70, _, _, _, _, _⟩) (v := ?_) rfl (by kernel_rfl) (by kernel_rfl) (by kernel_rfl) (by decide) (by kernel_rfl) (by kernel_rfl) (fun _ _ _ h => h) (Or.inl ⟨by rfl, ?_⟩) D0.out ?_
        rotate_left
        · (intro W hSW; clear hSW; go_simp)
          first | done | (with_reducible rfl)
        try simp only [Act.put, List.setIfInBounds_toArray, List.set_cons_zero, List.set_cons_succ]
        refine til_take (i := 12) (oi := ⟨some 71, _, _, _, _, _⟩) (v := .slice Z (n2 - k) (c2 - k)) rfl (by kernel_rfl) (by kernel_rfl) (by kernel_rfl) (by decide) (by kernel_rfl) (by kernel_rfl) (fun _ _ _ h => h) (yields_slice (by rfl) (.tmp 69) (some (.tmp 70)) none none rfl (.slice A2 n2 c2) (some (.int .i64 (k : Nat))) none none (by rfl) (by rfl) (by rfl) (by rfl) _ HS2.out) D0.out ?_
        try simp only [Act.put, List.setIfInBounds_toArray, List.set_cons_zero, List.set_cons_succ]
        refine til_two (i := 0) (j := 7) (o := ⟨some 59, _, _, _, _, _⟩) (o' := ⟨some 66, _, _, _, _, _⟩) (by kernel_rfl) rfl rfl (fun K hK => ?_) (fun K hK => ?_)
        · skip
          have b1 : Below w4.heap.size w4 (w4.alloc (.cells #[] 77)) := (Below.refl _ w4).alloc (Nat.le_refl _) _
          obtain ⟨v5, w5, r5, o5, b5, f5⟩ := app_take c2 b1 (Ow.new (K := kEnt C.r C.b) (e := 77) w4 (Nat.le_refl _)) hEA hkS hsl
          have B1 := Lib.hid b1
          have R5 := Lib.hid r5
          have B5 := Lib.hid b5
          clear b1
          refine step_emp (by rfl) rfl ?_
          refine hK.out _ _ (fun _ => HC4.out _ B1.out) ?_
          clear hK K
          try simp only [Act.put, List.setIfInBounds_toArray, List.set_cons_zero, List.set_cons_succ]
          refine til_two (i := 5) (j := 7) (o := ⟨some 64, _, _, _, _, _⟩) (o' := ⟨some 66, _, _, _, _, _⟩) (by kernel_rfl) rfl rfl (fun K hK => ?_) (fun K hK => ?_)
          · skip
            refine step_app (by rfl) 35 (.tmp 59) (.tmp 63) rfl _ _ _ rfl rfl R5.out ?_
            refine hK.out _ _ (fun _ => HC4.out _ B5.out) ?_
            clear hK K
            try simp only [Act.put, List.setIfInBounds_toArray, List.set_cons_zero, List.set_cons_succ]
            have b6 : Below w4.heap.size w4 (w5.alloc (.cells ((newE C p x).cs C.r C.b).toArray 77)) := B5.out.alloc B5.out.size _
            obtain ⟨v8, w8, A13, c13, w13, r8, r13, b8, b13, E13, hc13, hf13⟩ := app_rest (s := (newE C p x)) c2 b6 (o5.below ((Below.refl _ w5).alloc (Nat.le_refl _) _)) (Els.of_blk (K := kEnt C.r C.b) (Blk.new w5 77 ((newE C p x).cs C.r C.b))) hEA HZ2.out hsl
            have B6 := Lib.hid b6
            clear o5 f5
            rw [HN2.out] at r13
            have R8 := Lib.hid r8
            have R13 := Lib.hid r13
            have B8 := Lib.hid b8
            have B13 := Lib.hid b13
            have D8 := D7.out.below b13
            have HF := Lib.hid (D8.b.frozen 0)
            have D9 : Hid (Hd w (ins S k (newE C p x)) C p A13 c13 (w13.setCell ⟨w.heap.size, 0, none⟩ (.slice A13 (ins S k (newE C p x)).length c13))) :=
              D8.turn ((Far.refl (only w.heap.size) w13).set_ (p := ⟨w.heap.size, 0, none⟩) (fun _ => rfl) _) (D8.b.set_ 0 _) E13 hc13 (fun ad e => by have h1 := hf13 ad e; have h2 := D7.out.size; exact ⟨by omega, h1.2⟩)
            clear r8 r13 b8 b13 D8 E13 hc13 hf13 hEA
            refine til_one (i := 7) (o := ⟨some 66, _, _, _, _, _⟩) (by kernel_rfl) rfl (fun K hK => ?_)
            refine step_onee (by rfl) (.tmp 65) rfl C.r C.b (newE C p x) rfl ?_
            refine hK.out _ _ (fun _ => HC4.out _ B6.out) ?_
            clear hK K
            try simp only [Act.put, List.setIfInBounds_toArray, List.set_cons_zero, List.set_cons_succ]
            refine til_one (i := 8) (o := ⟨some 67, _, _, _, _, _⟩) (by kernel_rfl) rfl (fun K hK => ?_)
            refine step_app (by rfl) 35 (.tmp 64) (.tmp 66) rfl _ _ _ rfl rfl R8.out ?_
            refine hK.out _ _ (fun _ => HC4.out _ B8.out) ?_
            clear hK K
            try simp only [Act.put, List.setIfInBounds_toArray, List.set_cons_zero, List.set_cons_succ]
            refine til_one (i := 13) (o := ⟨some 72, _, _, _, _, _⟩) (by kernel_rfl) rfl (fun K hK => ?_)
            refine step_app (by rfl) 35 (.tmp 67) (.tmp 71) rfl _ _ _ rfl rfl R13.out ?_
            refine hK.out _ _ (fun _ => HC4.out _ B13.out) ?_
            clear hK K
            have k7 := (HC4.out _ B13.out).1
            have f7 := HF.out
            try simp only [Act.put, List.setIfInBounds_toArray, List.set_cons_zero, List.set_cons_succ]
            refine til_one (i := 14) (o := ⟨some 73, _, _, _, _, _⟩) (by kernel_rfl) rfl (fun K hK => ?_)
            go_simp
            refine hK.out _ _ (past (by kernel_rfl)) ?_
            clear hK K
            try simp only [Act.put, List.setIfInBounds_toArray, List.set_cons_zero, List.set_cons_succ]
            refine til_one (i := 15) (o := ⟨none, _, _, _, _, _⟩) (by kernel_rfl) rfl (fun K hK => ?_)
            go_simp
            refine hK.out _ _ (past (by kernel_rfl)) ?_
            clear hK K
            try simp only [Act.put]
            refine til_done (by kernel_rfl) ?_ _
            go_wp2_with (first
              | (refine wpList_loadE (by rfl) 37 _ Try.underlying37 rfl (.tmp 3) rfl w.heap.size 0 rfl _ (whole_at D9.out.b) size37 ?_)
              | (refine wpList_lay rfl 37 5 size37 (.tmp 6) (.tmp 74) rfl _ (bcs A13 (ins S k (newE C p x)).length c13 C) rfl rfl 37 _ D9.out.r rfl rfl (hall _ _ _) ?_; intro x9 hB9 hF9; have hv := load_bx hB9.out rfl; have FIN := Lib.hid (D9.out.fin hF9.out (fun v => .tuple #[v, .int .i64 0]))))
            refine bodyPost_ret (v := .tuple #[bx A13 (ins S k (newE C p x)).length c13 C, .int .i64 0]) (by simp [results, Try.results11, asAddr, hv]) rfl ((by rw [HPUT.out]; exact FIN.out))
          · skip
            clear r5 o5 b5 f5 R5 B5 w5 v5
            have b6 : Below w4.heap.size w4 ((w4.alloc (.cells #[] 77)).alloc (.cells ((newE C p x).cs C.r C.b).toArray 77)) := B1.out.alloc B1.out.size _
            obtain ⟨v5, w5, r5, o5, b5, f5⟩ := app_take c2 b6 ((Ow.new (K := kEnt C.r C.b) (e := 77) w4 (Nat.le_refl _)).below ((Below.refl _ _).alloc (Nat.le_refl _) _)) hEA hkS hsl
            obtain ⟨v8, w8, A13, c13, w13, r8, r13, b8, b13, E13, hc13, hf13⟩ := app_rest (s := (newE C p x)) c2 b5 o5 ((Els.of_blk (K := kEnt C.r C.b) (Blk.new (w4.alloc (.cells #[] 77)) 77 ((newE C p x).cs C.r C.b))).far f5 (fun q o e n => by cases e; unfold only at n; simp at n)) hEA HZ2.out hsl
            have B6 := Lib.hid b6
            have R5 := Lib.hid r5
            have B5 := Lib.hid b5
            clear r5 o5 b5 f5
            refine step_onee (by rfl) (.tmp 65) rfl C.r C.b (newE C p x) rfl ?_
            refine hK.out _ _ (fun _ => HC4.out _ B6.out) ?_
            clear hK K
            try simp only [Act.put, List.setIfInBounds_toArray, List.set_cons_zero, List.set_cons_succ]
            rw [HN2.out] at r13
            have R8 := Lib.hid r8
            have R13 := Lib.hid r13
            have B8 := Lib.hid b8
            have B13 := Lib.hid b13
            have D8 := D7.out.below b13
            have HF := Lib.hid (D8.b.frozen 0)
            have D9 : Hid (Hd w (ins S k (newE C p x)) C p A13 c13 (w13.setCell ⟨w.heap.size, 0, none⟩ (.slice A13 (ins S k (newE C p x)).length c13))) :=
              D8.turn ((Far.refl (only w.heap.size) w13).set_ (p := ⟨w.heap.size, 0, none⟩) (fun _ => rfl) _) (D8.b.set_ 0 _) E13 hc13 (fun ad e => by have h1 := hf13 ad e; have h2 := D7.out.size; exact ⟨by omega, h1.2⟩)
            clear r8 r13 b8 b13 D8 E13 hc13 hf13 hEA
            refine til_one (i := 5) (o := ⟨some 64, _, _, _, _, _⟩) (by kernel_rfl) rfl (fun K hK => ?_)
            refine step_app (by rfl) 35 (.tmp 59) (.tmp 63) rfl _ _ _ rfl rfl R5.out ?_
            refine hK.out _ _ (fun _ => HC4.out _ B5.out) ?_
            clear hK K
            try simp only [Act.put, List.setIfInBounds_toArray, List.set_cons_zero, List.set_cons_succ]
            refine til_one (i := 8) (o := ⟨some 67, _, _, _, _, _⟩) (by kernel_rfl) rfl (fun K hK => ?_)
            refine step_app (by rfl) 35 (.tmp 64) (.tmp 66) rfl _ _ _ rfl rfl R8.out ?_
            refine hK.out _ _ (fun _ => HC4.out _ B8.out) ?_
            clear hK K
            try simp only [Act.put, List.setIfInBounds_toArray, List.set_cons_zero, List.set_cons_succ]
            refine til_one (i := 13) (o := ⟨some 72, _, _, _, _, _⟩) (by kernel_rfl) rfl (fun K hK => ?_)
            refine step_app (by rfl) 35 (.tmp 67) (.tmp 71) rfl _ _ _ rfl rfl R13.out ?_
            refine hK.out _ _ (fun _ => HC4.out _ B13.out) ?_
            clear hK K
            have k7 := (HC4.out _ B13.out).1
            have f7 := HF.out
            try simp only [Act.put, List.setIfInBounds_toArray, List.set_cons_zero, List.set_cons_succ]
            refine til_one (i := 14) (o := ⟨some 73, _, _, _, _, _⟩) (by kernel_rfl) rfl (fun K hK => ?_)
            go_simp
            refine hK.out _ _ (past (by kernel_rfl)) ?_
            clear hK K
            try simp only [Act.put, List.setIfInBounds_toArray, List.set_cons_zero, List.set_cons_succ]
            refine til_one (i := 15) (o := ⟨none, _, _, _, _, _⟩) (by kernel_rfl) rfl (fun K hK => ?_)
            go_simp
            refine hK.out _ _ (past (by kernel_rfl)) ?_
            clear hK K
            try simp only [Act.put]
            refine til_done (by kernel_rfl) ?_ _
            go_wp2_with (first
              | (refine wpList_loadE (by rfl) 37 _ Try.underlying37 rfl (.tmp 3) rfl w.heap.size 0 rfl _ (whole_at D9.out.b) size37 ?_)
              | (refine wpList_lay rfl 37 5 size37 (.tmp 6) (.tmp 74) rfl _ (bcs A13 (ins S k (newE C p x)).length c13 C) rfl rfl 37 _ D9.out.r rfl rfl (hall _ _ _) ?_; intro x9 hB9 hF9; have hv := load_bx hB9.out rfl; have FIN := Lib.hid (D9.out.fin hF9.out (fun v => .tuple #[v, .int .i64 0]))))
            refine bodyPost_ret (v := .tuple #[bx A13 (ins S k (newE C p x)).length c13 C, .int .i64 0]) (by simp [results, Try.results11, asAddr, hv]) rfl ((by rw [HPUT.out]; exact FIN.out))
        · skip
          have b1 : Below w4.heap.size w4 (w4.alloc (.cells ((newE C p x).cs C.r C.b).toArray 77)) := (Below.refl _ w4).alloc (Nat.le_refl _) _
          have b6 : Below w4.heap.size w4 ((w4.alloc (.cells ((newE C p x).cs C.r C.b).toArray 77)).alloc (.cells #[] 77)) := b1.alloc b1.size _
          obtain ⟨v5, w5, r5, o5, b5, f5⟩ := app_take c2 b6 (Ow.new (K := kEnt C.r C.b) (e := 77) (w4.alloc (.cells ((newE C p x).cs C.r C.b).toArray 77)) b1.size) hEA hkS hsl
          obtain ⟨v8, w8, A13, c13, w13, r8, r13, b8, b13, E13, hc13, hf13⟩ := app_rest (s := (newE C p x)) c2 b5 o5 (((Els.of_blk (K := kEnt C.r C.b) (Blk.new w4 77 ((newE C p x).cs C.r C.b))).below ((Below.refl _ _).alloc (Nat.le_refl _) _)).far f5 (fun q o e n => by cases e; unfold only at n; simp at n)) hEA HZ2.out hsl
          have B1 := Lib.hid b1
          have B6 := Lib.hid b6
          have R5 := Lib.hid r5
          have B5 := Lib.hid b5
          clear r5 o5 b5 f5 b1
          refine step_onee (by rfl) (.tmp 65) rfl C.r C.b (newE C p x) rfl ?_
          refine hK.out _ _ (fun _ => HC4.out _ B1.out) ?_
          clear hK K
          try simp only [Act.put, List.setIfInBounds_toArray, List.set_cons_zero, List.set_cons_succ]
          rw [HN2.out] at r13
          have R8 := Lib.hid r8
          have R13 := Lib.hid r13
          have B8 := Lib.hid b8
          have B13 := Lib.hid b13
          have D8 := D7.out.below b13
          have HF := Lib.hid (D8.b.frozen 0)
          have D9 : Hid (Hd w (ins S k (newE C p x)) C p A13 c13 (w13.setCell ⟨w.heap.size, 0, none⟩ (.slice A13 (ins S k (newE C p x)).length c13))) :=
            D8.turn ((Far.refl (only w.heap.size) w13).set_ (p := ⟨w.heap.size, 0, none⟩) (fun _ => rfl) _) (D8.b.set_ 0 _) E13 hc13 (fun ad e => by have h1 := hf13 ad e; have h2 := D7.out.size; exact ⟨by omega, h1.2⟩)
          clear r8 r13 b8 b13 D8 E13 hc13 hf13 hEA
          refine til_one (i := 0) (o := ⟨some 59, _, _, _, _, _⟩) (by kernel_rfl) rfl (fun K hK => ?_)
          refine step_emp (by rfl) rfl ?_
          refine hK.out _ _ (fun _ => HC4.out _ B6.out) ?_
          clear hK K
          try simp only [Act.put, List.setIfInBounds_toArray, List.set_cons_zero, List.set_cons_succ]
          refine til_one (i := 5) (o := ⟨some 64, _, _, _, _, _⟩) (by kernel_rfl) rfl (fun K hK => ?_)
          refine step_app (by rfl) 35 (.tmp 59) (.tmp 63) rfl _ _ _ rfl rfl R5.out ?_
          refine hK.out _ _ (fun _ => HC4.out _ B5.out) ?_
          clear hK K
          try simp only [Act.put, List.setIfInBounds_toArray, List.set_cons_zero, List.set_cons_succ]
          refine til_one (i := 8) (o := ⟨some 67, _, _, _, _, _⟩) (by kernel_rfl) rfl (fun K hK => ?_)
          refine step_app (by rfl) 35 (.tmp 64) (.tmp 66) rfl _ _ _ rfl rfl R8.out ?_
          refine hK.out _ _ (fun _ => HC4.out _ B8.out) ?_
          clear hK K
          try simp only [Act.put, List.setIfInBounds_toArray, List.set_cons_zero, List.set_cons_succ]
          refine til_one (i := 13) (o := ⟨some 72, _, _, _, _, _⟩) (by kernel_rfl) rfl (fun K hK => ?_)
          refine step_app (by rfl) 35 (.tmp 67) (.tmp 71) rfl _ _ _ rfl rfl R13.out ?_
          refine hK.out _ _ (fun _ => HC4.out _ B13.out) ?_
          clear hK K
          have k7 := (HC4.out _ B13.out).1
          have f7 := HF.out
          try simp only [Act.put, List.setIfInBounds_toArray, List.set_cons_zero, List.set_cons_succ]
          refine til_one (i := 14) (o := ⟨some 73, _, _, _, _, _⟩) (by kernel_rfl) rfl (fun K hK => ?_)
          go_simp
          refine hK.out _ _ (past (by kernel_rfl)) ?_
          clear hK K
          try simp only [Act.put, List.setIfInBounds_toArray, List.set_cons_zero, List.set_cons_succ]
          refine til_one (i := 15) (o := ⟨none, _, _, _, _, _⟩) (by kernel_rfl) rfl (fun K hK => ?_)
          go_simp
          refine hK.out _ _ (past (by kernel_rfl)) ?_
          clear hK K
          try simp only [Act.put]
          refine til_done (by kernel_rfl) ?_ _
          go_wp2_with (first
            | (refine wpList_loadE (by rfl) 37 _ Try.underlying37 rfl (.tmp 3) rfl w.heap.size 0 rfl _ (whole_at D9.out.b) size37 ?_)
            | (refine wpList_lay rfl 37 5 size37 (.tmp 6) (.tmp 74) rfl _ (bcs A13 (ins S k (newE C p x)).length c13 C) rfl rfl 37 _ D9.out.r rfl rfl (hall _ _ _) ?_; intro x9 hB9 hF9; have hv := load_bx hB9.out rfl; have FIN := Lib.hid (D9.out.fin hF9.out (fun v => .tuple #[v, .int .i64 0]))))
          refine bodyPost_ret (v := .tuple #[bx A13 (ins S k (newE C p x)).length c13 C, .int .i64 0]) (by simp [results, Try.results11, asAddr, hv]) rfl ((by rw [HPUT.out]; exact FIN.out))
theorem put_ (A : Option Addr) (c : Nat) (L : List Ent) (C : Cfg) (p : Pre) (x : Int) (w : World) (h : Els (kEnt C.r C.b) w A L) (ho : Oks C L) (hp : p.Ok) (hC : C.Ok) (hl : L.length ≤ 1000) :
    Calls Try.prog 11 #[bx A L.length c C, .agg p.cs.toArray, .int .i64 x] w (BRes (putS C (swp L x) p x) C (fun v => .tuple #[v, .int .i64 (putE C (swp L x) p)]) w) := by
  by_cases hno : putE C (swp L x) p = 0
  · exact put_new A c L C p x w h ho hp hC hl hno
  · exact put_old A c L C p x w h ho hp hl hno
end Go.Proofs.Ytpjeeccgpnpokaa
