/- The contract of the document's Add. Conditions: those of each theorem. -/
import Derived.Test.YteeobeeoefokdaaDocs
namespace Go.Proofs.Yteeobeeoefokdaa
open Go.RowKit

/-- An own row of the document's slots. -/
def SOwn (base : Nat) (v : Value) (L : List Slo) (w : World) : Prop := w.ownsRow base 65 10 v L.length (flat L)
theorem SOwn.shape {base : Nat} {v : Value} {L : List Slo} {w : World} (h : SOwn base v L w) (h0 : 0 < L.length) : ∃ q c, v = .slice (some ⟨q, 0, none⟩) L.length c ∧ Rw w 65 q c L ∧ base ≤ q := by
  rcases h.2 with ⟨_, e⟩ | ⟨g, cap, cur, rfl, hb, _⟩
  · omega
  · exact ⟨g, cap, rfl, Rw.of_row h rfl, hb⟩
theorem SOwn.some_ {base : Nat} {v : Value} {L : List Slo} {w : World} (h : SOwn base v L w) (b : Nat) (hb : v.ownBlock = some b ∨ 0 < L.length) : ∃ q c, v = .slice (some ⟨q, 0, none⟩) L.length c ∧ Rw w 65 q c L ∧ base ≤ q := by
  rcases h.2 with ⟨rfl, e⟩ | ⟨g, cap, cur, rfl, hb, _⟩
  · rcases hb with hb | hb
    · simp [Value.ownBlock] at hb
    · omega
  · exact ⟨g, cap, rfl, Rw.of_row h rfl, hb⟩
theorem flat_each {L : List Slo} : ∀ u ∈ flat L, u.oneCell' = true := fun u hu => by
  obtain ⟨s, _, hs⟩ := List.mem_flatMap.1 hu
  exact slo_each s u hs
theorem zero46b_ : (Try.prog.info? 65).map (fun i => (i.zero, i.size, i.bytes)) = some (some (.agg slo0.cs.toArray), 10, 24) := by kernel_rfl
/-- append of slots onto an own row. -/
theorem run_append_ss (w : World) (base : Nat) (v : Value) (K L : List Slo) (h : SOwn base v K w) (A : Option Addr) (c : Nat) (hq : LAt A L w) (hA : L ≠ [] → ∃ b, A = some ⟨b, 0, none⟩) (hn : K.length + L.length ≤ 1000) (hb : base ≤ w.heap.size) :
    ∃ v' w', (Builtin.append_ #[36, 36] 36 #[v, .slice A L.length c]).run Try.prog w = .ok v' w' ∧ SOwn base v' (K ++ L) w' ∧ w.grownBy w' v.ownBlock ∧ (v'.ownBlock = v.ownBlock ∨ v'.ownBlock = some w.heap.size) := by
  obtain ⟨i, hi0, hh⟩ := Option.map_eq_some_iff.1 zero46b_
  simp only [Prod.mk.injEq] at hh
  by_cases h0 : L = []
  · subst h0
    refine ⟨v, w, ?_, by simpa using h, World.grownBy.refl w _, .inl rfl⟩
    rcases h.2 with ⟨rfl, e0⟩ | ⟨g, cap, cur, rfl, hgb, hg, hnc, hm, hsz, _⟩
    · cases A <;> simp [Builtin.append_, run_underlying Try.underlying36, sizeOf, typeInfo, hi0, Builtin.lenOf, Builtin.firstCells, loadCells, loadCellsFrom]
    · cases A <;> simp [Builtin.append_, run_underlying Try.underlying36, sizeOf, typeInfo, hi0, Builtin.lenOf, Builtin.firstCells, hnc, storeCells, loadCells, loadCellsFrom]
  · obtain ⟨b, rfl⟩ := hA h0
    obtain ⟨v', w', hrun, h2, h3, _, h5⟩ := run_append_own_at (P := Try.prog) w base 36 36 65 i _ 10 24 Try.underlying36 hi0 hh.1 hh.2.1 hh.2.2 rfl (by decide) v K.length (flat K) h ⟨b, 0, none⟩ L.length c (flat L) (flat_length L) (fun j u hj => by
      have hj2 : j < L.length * 10 := by rw [← flat_length]; exact (List.getElem?_eq_some_iff.1 hj).1
      have hk : j / 10 < L.length := by omega
      have hs := at_some hk
      obtain ⟨q, e, hr⟩ := hq _ _ hs
      cases e
      have e2 := flat_at hs (i := j % 10) (by omega)
      rw [show j / 10 * 10 + j % 10 = j by omega, hj] at e2
      have := hr (j % 10) u e2.symm
      rw [show j / 10 * 10 + j % 10 = j by omega] at this
      rw [Addr.add_mid, Nat.zero_add]
      exact this) flat_each (by unfold maxLen; omega) (by omega) hb
    refine ⟨v', w', hrun, ?_, h3, h5⟩
    unfold SOwn
    rw [List.length_append, flat_app]
    exact h2
theorem LAt.one {w : World} {b : Nat} {t : TypeId} {s : Slo} (h : Blk w b t s.cs) : LAt (some ⟨b, 0, none⟩) [s] w := fun k u hk => by
  rcases k with _ | k
  · simp at hk
    subst hk
    exact ⟨b, rfl, by simpa using whole_at h⟩
  · simp at hk
theorem LAt.row {w : World} {q c : Nat} {L : List Slo} {t : TypeId} (h : Rw w t q c L) : LAt (some ⟨q, 0, none⟩) L w := fun _ _ hk => ⟨q, rfl, h.slot hk⟩
theorem LAt.someA {A : Option Addr} {L : List Slo} {w : World} (h : LAt A L w) (h0 : L ≠ []) : ∃ b, A = some ⟨b, 0, none⟩ := by
  obtain ⟨q, e, _⟩ := h 0 _ (at_some (List.length_pos_iff.2 h0))
  exact ⟨q, e⟩
/-- What the document's Add answers. -/
def DocOut (M : Nat) (L' : List Slo) (T' : Int) (k : Nat) (w : World) (e : Ending) (w' : World) : Prop :=
  ∃ A' c', e = .returned (.tuple #[doc A' L'.length c' M T', .int .i64 (k : Nat)]) ∧ LAt A' L' w' ∧ (∃ b, A' = some ⟨b, 0, none⟩ ∧ w.heap.size ≤ b) ∧ Below w.heap.size w w'
theorem radd_k (a b : Int) (w : World) : Calls Try.prog 27 #[.int .i64 a, .int .i64 b] w fun e w' => e = .returned (.int .i64 (addK a b)) ∧ w = w' := radd_any a b w
theorem dcs_one (A : Option Addr) (n c M : Nat) (T : Int) : (dcs A n c M T).toArray.all (·.oneCell') = true := all_oneCell_toArray (fun u hu => by
  simp only [dcs, List.mem_cons, List.not_mem_nil, or_false] at hu
  rcases hu with rfl | rfl | rfl <;> rfl)
theorem size39 : (Try.prog.info? 38).map (·.size) = some 3 := by kernel_rfl
theorem load_doc {w : World} {g : Nat} {t : TypeId} {xs : List Value} (h : Blk w g t xs) (hl : xs.length = 3) : (loadVar 38 ⟨g, 0, none⟩).run Try.prog w = .ok (.agg xs.toArray) w :=
  run_loadVar_row w g t 38 xs.toArray (0, 0) _ h Try.underlying38 rfl (by rw [List.size_toArray, hl]; exact size39)
/-- Into a variable, in a region that draws. -/
theorem step_lay {ops : Array Oper} {o : Oper} {a : Act} {w : World} {K : Act → World → Prop} {Q : Exit → Act → World → Prop} {E : Prop} (hw : Region.wanted o (yielded ops a.tmps) = true) (ty : TypeId) (k : Nat) (hty : (Try.prog.info? ty).map (·.size) = some k) (x y : Operand) (ho : o.op = .store ty x y)
    (g : Nat) (xs : List Value) (hx : a.eval x = .pointer (some ⟨g, 0, none⟩)) (hy : a.eval y = .agg xs.toArray) (t : TypeId) (old : List Value) (hb : Blk w g t old) (hl : old.length = k) (hxl : xs.length = k) (h1 : xs.toArray.all (·.oneCell') = true)
    (h : ∀ w', Hid (Blk w' g t xs) → Hid (Far (only g) w w') → K (a.put o.dst undef) w') : if Region.wanted o (yielded ops a.tmps) = true then Oper.wp Try.prog o a w K Q else E := by
  rw [if_pos hw]
  exact wp_store_row ty x y ho g xs.toArray hx hy t old.toArray hb (by rw [List.size_toArray, hxl]; exact hty) (by rw [List.size_toArray, List.size_toArray, hl, hxl]) h1 (h _ (setRow_blk hb xs) (setRow_far w g _))
/-- A slice of one of the document's slots. -/
theorem wpList_one46 {ops : Array Oper} {rest : List Oper} {o : Oper} {a : Act} {w : World} {Q : Exit → Act → World → Prop} (hgd : o.guard = none) (x : Operand) (ho : o.op = .buildSlice 36 1 #[(0, x)])
    (s : Slo) (hx : a.eval x = .agg s.cs.toArray) (hK : wpList Try.prog ops Q rest (a.put o.dst (.slice (some ⟨w.heap.size, 0, none⟩) 1 1)) (w.alloc (.cells s.cs.toArray 65))) : wpList Try.prog ops Q (o :: rest) a w := by
  refine wpList_plain hgd fun K hK' => ?_
  unfold Oper.wp
  have hrun := run_one 36 65 s Try.underlying36 zero46_ w
  simp [execOp, ho, hx, hrun, Result.andThen, Oper.upon]
  exact hK' _ _ hK
/-- The three blocks that Add makes first, behind which all is new. -/
def Three (w : World) (A : Option Addr) (n c M : Nat) (T : Int) (p : Pre) (W : World) : Prop :=
  Blk W w.heap.size 38 (dcs A n c M T) ∧ Blk W (w.heap.size + 1) 31 p.cs ∧ Blk W (w.heap.size + 2) 38 (dcs none 0 0 0 0) ∧ Below w.heap.size w W
theorem Three.bx {w W : World} {A : Option Addr} {n c M : Nat} {T : Int} {p : Pre} (h : Three w A n c M T p W) : Blk W w.heap.size 38 (dcs A n c M T) := h.1
theorem Three.pre {w W : World} {A : Option Addr} {n c M : Nat} {T : Int} {p : Pre} (h : Three w A n c M T p W) : Blk W (w.heap.size + 1) 31 p.cs := h.2.1
theorem Three.res {w W : World} {A : Option Addr} {n c M : Nat} {T : Int} {p : Pre} (h : Three w A n c M T p W) : Blk W (w.heap.size + 2) 38 (dcs none 0 0 0 0) := h.2.2.1
theorem Three.be {w W : World} {A : Option Addr} {n c M : Nat} {T : Int} {p : Pre} (h : Three w A n c M T p W) : Below w.heap.size w W := h.2.2.2
theorem Three.new (w : World) (A : Option Addr) (n c M : Nat) (T : Int) (p : Pre) : Three w A n c M T p (((w.alloc (.cells (dcs A n c M T).toArray 38)).alloc (.cells p.cs.toArray 31)).alloc (.cells #[.slice none 0 0, .int .i64 0, .int .i64 0] 38)) := by
  obtain ⟨h1, h2, h3⟩ := doc_new A n c M T p w
  refine ⟨h1.alloc _, h2.alloc _, ?_, h3.alloc (h3.size) _⟩
  have := Blk.new ((w.alloc (.cells (dcs A n c M T).toArray 38)).alloc (.cells p.cs.toArray 31)) 38 (dcs none 0 0 0 0)
  rwa [show ((w.alloc (.cells (dcs A n c M T).toArray 38)).alloc (.cells p.cs.toArray 31)).heap.size = w.heap.size + 2 by simp] at this
theorem Three.far {w W W' : World} {A : Option Addr} {n c M : Nat} {T : Int} {p : Pre} {S : Nat → Prop} (h : Three w A n c M T p W) (hf : Far S W W') (hS : ∀ k, S k → w.heap.size + 3 ≤ k) : Three w A n c M T p W' :=
  ⟨h.1.far hf (fun e => by have := hS _ e; omega), h.2.1.far hf (fun e => by have := hS _ e; omega), h.2.2.1.far hf (fun e => by have := hS _ e; omega), h.2.2.2.trans (hf.below h.2.2.2.size (fun k hk e => by have := hS _ e; omega))⟩
theorem Three.below {w W W' : World} {A : Option Addr} {n c M : Nat} {T : Int} {p : Pre} (h : Three w A n c M T p W) (hb : Below W.heap.size W W') : Three w A n c M T p W' := h.far (Far.of_below hb nobody) (fun _ e => absurd e (fun e => e))
theorem Three.drew {w W : World} {A : Option Addr} {n c M : Nat} {T : Int} {p : Pre} (h : Three w A n c M T p W) : Three w A n c M T p W.drew := h.below (Below.refl _ W).drew
theorem Three.lt {w W : World} {A : Option Addr} {n c M : Nat} {T : Int} {p : Pre} (h : Three w A n c M T p W) : w.heap.size + 3 ≤ W.heap.size := by have := h.2.2.1.lt; omega
theorem Three.grown {w W W' : World} {A : Option Addr} {n c M : Nat} {T : Int} {p : Pre} {row : Option Nat} (h : Three w A n c M T p W) (hg : W.grownBy W' row) (hr : ∀ k, row = some k → w.heap.size + 3 ≤ k) : Three w A n c M T p W' :=
  h.far (S := fun k => row = some k) ⟨hg.os, hg.tape, hg.output, hg.size, fun k hk hn => hg.block k hk (fun e => hn e.symm)⟩ hr
theorem SOwn.lt {base : Nat} {v : Value} {L : List Slo} {w : World} (h : SOwn base v L w) : ∀ k, v.ownBlock = some k → base ≤ k ∧ k < w.heap.size := by
  intro k hk
  rcases h.2 with ⟨rfl, _⟩ | ⟨g, cap, cur, rfl, hb, hg, _⟩
  · simp [Value.ownBlock] at hk
  · simp [Value.ownBlock] at hk
    subst hk
    exact ⟨hb, (Array.getElem?_eq_some_iff.1 hg).1⟩
theorem SOwn.new (w : World) (base : Nat) (hb : base ≤ w.heap.size) : SOwn base (.slice (some ⟨w.heap.size, 0, none⟩) 0 0) [] (w.alloc (.cells #[] 65)) :=
  ⟨rfl, .inr ⟨w.heap.size, 0, #[], rfl, hb, Blk.new w 65 [], Nat.le_refl _, Nat.zero_le _, rfl, rfl⟩⟩
theorem SOwn.below {base : Nat} {v : Value} {L : List Slo} {w w' : World} (h : SOwn base v L w) (hb : Below w.heap.size w w') : SOwn base v L w' :=
  Far.row (Far.of_below hb nobody) h (fun _ _ e => e)

set_option maxHeartbeats 4000000 in
theorem dadd_ (A : Option Addr) (c M : Nat) (T : Int) (L : List Slo) (p : Pre) (y : Int) (w : World) (h : LAt A L w) (ho : Oks L) (hp : p.Ok) (hl : L.length ≤ M) (h1 : 1 ≤ M) (h64 : M ≤ 64) :
    Calls Try.prog 22 #[doc A L.length c M T, .agg p.cs.toArray, .int .i64 y] w (DocOut M (stp M L p y) (addK T y) (pos M L p) w) := by
  have T1 := Lib.hid (Three.new w A L.length c M T p)
  have H := Lib.hid (fun W (hW : Below w.heap.size w W) => h.below hW)
  have HF := Lib.hid (fun W (hW : Below w.heap.size w W) => dfind_ A c M T L p W (h.below hW) ho hp (by omega))
  have HN0 := Lib.hid (fun (e : L ≠ []) => h.someA e)
  have HO := Lib.hid ho
  have HP := Lib.hid hp
  rw [show stp M L p y = inc (plc M L p) (pos M L p) y from rfl]
  have HPOS := Lib.hid (pos_lt (L := L) (p := p) h1)
  obtain ⟨n, hn⟩ : ∃ n, L.length = n := ⟨_, rfl⟩
  have HN := Lib.hid hn
  rw [hn] at hl T1 HF ⊢
  clear h ho hp hn
  rcases hh : has L p with _ | _
  · have e1 : fnd L p = -1 := by simp [fnd, hh]
    rw [e1] at HF
    have HH := Lib.hid hh
    clear hh e1
    by_cases hm : L.length < M
    · rw [plc_room HH.out hm, pos_room HH.out hm] at HPOS ⊢
      rw [HN.out] at HPOS ⊢
      rw [HN.out] at hm
      have hd : decide ((n : Int) < (M : Int)) = true := by simp; omega
      go_enter Try.func22, Try.ntmps22
      go_upto_region 1 with fail
      generalize (((w.alloc (.cells (dcs A n c M T).toArray 38)).alloc (.cells p.cs.toArray 31)).alloc (.cells #[.slice none 0 0, .int .i64 0, .int .i64 0] 38)) = w1 at *
      have T2 : Hid (Three w A n c M T p (w1.alloc (.cells #[] 65))) := T1.out.below ((Below.refl _ w1).alloc (Nat.le_refl _) _)
      have O2 : Hid (SOwn (w.heap.size + 3) (.slice (some ⟨w1.heap.size, 0, none⟩) 0 0) [] (w1.alloc (.cells #[] 65))) := SOwn.new w1 _ T1.out.lt
      obtain ⟨v3, w3, hrun, o3, g3, b3⟩ := run_append_ss (w1.alloc (.cells #[] 65)) (w.heap.size + 3) _ [] L O2.out A c (H.out _ T2.out.be) HN0.out (by rw [HN.out]; simp; omega) T2.out.lt
      rw [HN.out] at hrun
      have T3 : Hid (Three w A n c M T p w3) := T2.out.grown g3 (fun k hk => (O2.out.lt k hk).1)
      obtain ⟨q3, c3, rfl, r3, hq3⟩ := o3.some_ (v3.ownBlock.getD 0) (.inl (by rcases b3 with b3 | b3 <;> rw [b3] <;> rfl))
      have R3 : Hid (Rw w3 65 q3 c3 L) := r3
      have O3 : Hid (SOwn (w.heap.size + 3) (.slice (some ⟨q3, 0, none⟩) L.length c3) L w3) := o3
      rw [show ([] ++ L : List Slo).length = n from HN.out] at hrun
      rw [HN.out] at O3
      clear o3 g3 b3 r3 O2 T2
      have d0 : (w1.alloc (.cells #[] 65)).cell? ⟨w.heap.size, 0, none⟩ = some (.slice A n c) := (T1.out.1.alloc _).cell 0
      have e0 := T3.out.1.cell 0
      have e1 := T3.out.1.cell 1
      have e2 := T3.out.1.cell 2
      have f0 : w3.cell? ⟨w.heap.size, 0, none⟩ = some (.slice A n c) := e0
      have f1 : w3.cell? ⟨w.heap.size, 1, none⟩ = some (.int .i64 (M : Nat)) := e1
      have f2 : w3.cell? ⟨w.heap.size, 2, none⟩ = some (.int .i64 T) := e2
      clear e0 e1 e2
      go_upto_region 3 with (first | (at_builtin; refine wpList_app rfl 36 (.tmp 11) (.tmp 13) rfl _ _ _ rfl rfl hrun ?_; clear d0 hrun) | (refine wpList_pre (by rfl) (.tmp 4) rfl _ _ rfl p (whole_at T3.out.pre) ?_) | (go_at_call 26; (with_reducible refine (HF.out _ T3.out.be).mono ?_); rintro e w4 ⟨rfl, hb4⟩; have T4 := Lib.hid (T3.out.below hb4); have R4 := Lib.hid (R3.out.below hb4); have O4 := Lib.hid (O3.out.below hb4); clear hb4; have g1 : w4.cell? ⟨w.heap.size, 1, none⟩ = some (.int .i64 (M : Nat)) := T4.out.bx.cell 1))
      clear f0 f1 f2 T3 R3 O3 T1 HF
      clear HH
      go_upto_region 6 with (first | (refine wpList_pre (by rfl) (.tmp 4) rfl _ _ rfl p (whole_at T4.out.pre) ?_) | (refine wpList_build rfl 65 [(0, .tmp 30)] rfl [(0, .agg p.cs.toArray)] rfl (Slo.mk p 0 0).cs (run_rslo1 p _) ?_) | (refine wpList_one46 rfl (.tmp 31) rfl (Slo.mk p 0 0) rfl ?_; have hb5 := (Below.refl w4.heap.size w4).alloc (Nat.le_refl _) (.cells (Slo.mk p 0 0).cs.toArray 65); have T5a := Lib.hid (T4.out.below hb5); have O5a := Lib.hid (O4.out.below hb5); have N5 := Lib.hid (LAt.one (Blk.new w4 65 (Slo.mk p 0 0).cs)); obtain ⟨v6, w6, hrun, o6, g6, b6⟩ := run_append_ss _ (w.heap.size + 3) _ L [⟨p, 0, 0⟩] (HN.out ▸ O5a.out) (some ⟨w4.heap.size, 0, none⟩) 1 N5.out (fun _ => ⟨_, rfl⟩) (by rw [HN.out]; simp; omega) T5a.out.lt; rw [HN.out] at hrun; have T5 : Hid (Three w A n c M T p w6) := T5a.out.grown g6 (fun k hk => (O5a.out.lt k hk).1); obtain ⟨q6, c6, rfl, r6, hq6⟩ := o6.shape (by simp); have R5 : Hid (Rw w6 65 q6 c6 (L ++ [⟨p, 0, 0⟩])) := r6; rw [show (L ++ [(⟨p, 0, 0⟩ : Slo)]).length = n + 1 by rw [List.length_append, HN.out]; rfl] at hrun; clear hb5 T5a O5a N5 o6 g6 b6 r6 T4 R4 O4 g1) | (at_builtin; refine wpList_app rfl 36 (.tmp 29) (.tmp 32) rfl _ _ _ rfl rfl hrun ?_; clear hrun))
      have HGL : Hid ((L ++ [(⟨p, 0, 0⟩ : Slo)]).length = n + 1) := by show _ = _; rw [List.length_append, HN.out]; rfl
      have HK : Hid (n < (L ++ [(⟨p, 0, 0⟩ : Slo)]).length) := HPOS.out
      clear HPOS HN
      generalize L ++ [(⟨p, 0, 0⟩ : Slo)] = G at *
      go_upto_region 15 with fail
      have hkG := HK.out
      have c8 := R5.out.cnt (at_some HK.out)
      have f8 := R5.out.frozen (n * 10 + 8)
      obtain ⟨x, hx⟩ : ∃ x, (at_ G n).c = x := ⟨_, rfl⟩
      rw [hx] at c8
      have HX := Lib.hid hx
      clear hx hkG
      go_upto_region 16 with (go_at_call 27; (with_reducible refine (radd_k _ _ _).mono ?_); rintro e w9 ⟨rfl, rfl⟩)
      have R6 : Hid (Rw (w6.setCell ⟨q6, n * 10 + 8, none⟩ (.int .i64 (addK x y))) 65 q6 c6 (inc G n y)) := by have := R5.out.putCnt (at_some HK.out) (addK x y); rw [← HX.out] at this ⊢; exact this
      have T6 : Hid (Three w A n c M T p (w6.setCell ⟨q6, n * 10 + 8, none⟩ (.int .i64 (addK x y)))) := T5.out.far (S := only q6) ((Far.refl (only q6) w6).set_ (p := ⟨q6, n * 10 + 8, none⟩) (fun _ => rfl) _) (fun j e => by have h1 : j = q6 := e; omega)
      have HIL : Hid ((inc G n y).length = n + 1) := by show _ = _; rw [inc_length]; exact HGL.out
      clear c8 f8 R5 T5
      generalize inc G n y = I at *
      generalize w6.setCell ⟨q6, n * 10 + 8, none⟩ (.int .i64 (addK x y)) = w6 at *
      refine til_begin (fun W => Blk W w.heap.size 38 (dcs A n c M T)) 10 (by kernel_rfl) ?_
      have D0 := Lib.hid ((T6.out.drew.bx : Blk w6.drew w.heap.size 38 (dcs A n c M T)))
      have R7 : Hid (Rw w6.drew 65 q6 c6 I) := R6.out
      have T7 : Hid (Three w A n c M T p w6.drew) := T6.out.drew
      clear R6 T6
      generalize w6.drew = w7 at *
      refine til_take (i := 0) (oi := ⟨some 80, _, _, _, _, _⟩) (v := ?_) rfl (by kernel_rfl) (by kernel_rfl) (by kernel_rfl) (by decide) (by kernel_rfl) (by kernel_rfl) (fun _ _ _ h => h) (Or.inl ⟨by rfl, ?_⟩) D0.out ?_
      rotate_left
      · (intro W hSW; clear hSW; go_simp)
        first | done | (with_reducible rfl)
      try simp only [Act.put, List.setIfInBounds_toArray, List.set_cons_zero, List.set_cons_succ]
      refine til_take (i := 1) (oi := ⟨some 81, _, _, _, _, _⟩) (v := ?_) rfl (by kernel_rfl) (by kernel_rfl) (by kernel_rfl) (by decide) (by kernel_rfl) (by kernel_rfl) (fun _ _ _ h => h) (Or.inl ⟨by rfl, ?_⟩) D0.out ?_
      rotate_left
      · (intro W hSW; clear hSW; go_simp)
        first | done | (with_reducible rfl)
      try simp only [Act.put, List.setIfInBounds_toArray, List.set_cons_zero, List.set_cons_succ]
      refine til_take (i := 2) (oi := ⟨some 82, _, _, _, _, _⟩) (v := .int .i64 (M : Nat)) rfl (by kernel_rfl) (by kernel_rfl) (by kernel_rfl) (by decide) (by kernel_rfl) (by kernel_rfl) (fun _ _ _ h => h) (Or.inl ⟨by rfl, ?_⟩) D0.out ?_
      · (intro W hSW; have hc := hSW.cell 1; clear hSW; go_simp)
      try simp only [Act.put, List.setIfInBounds_toArray, List.set_cons_zero, List.set_cons_succ]
      refine til_take (i := 3) (oi := ⟨some 83, _, _, _, _, _⟩) (v := ?_) rfl (by kernel_rfl) (by kernel_rfl) (by kernel_rfl) (by decide) (by kernel_rfl) (by kernel_rfl) (fun _ _ _ h => h) (Or.inl ⟨by rfl, ?_⟩) D0.out ?_
      rotate_left
      · (intro W hSW; clear hSW; go_simp)
        first | done | (with_reducible rfl)
      try simp only [Act.put, List.setIfInBounds_toArray, List.set_cons_zero, List.set_cons_succ]
      refine til_take (i := 4) (oi := ⟨some 84, _, _, _, _, _⟩) (v := .int .i64 T) rfl (by kernel_rfl) (by kernel_rfl) (by kernel_rfl) (by decide) (by kernel_rfl) (by kernel_rfl) (fun _ _ _ h => h) (Or.inl ⟨by rfl, ?_⟩) D0.out ?_
      · (intro W hSW; have hc := hSW.cell 2; clear hSW; go_simp)
      try simp only [Act.put, List.setIfInBounds_toArray, List.set_cons_zero, List.set_cons_succ]
      refine til_take (i := 5) (oi := ⟨some 85, _, _, _, _, _⟩) (v := ?_) rfl (by kernel_rfl) (by kernel_rfl) (by kernel_rfl) (by decide) (by kernel_rfl) (by kernel_rfl) (fun _ _ _ h => h) (Or.inl ⟨by rfl, ?_⟩) D0.out ?_
      rotate_left
      · (intro W hSW; clear hSW; go_simp)
        first | done | (with_reducible rfl)
      try simp only [Act.put, List.setIfInBounds_toArray, List.set_cons_zero, List.set_cons_succ]
      refine til_take (i := 8) (oi := ⟨some 88, _, _, _, _, _⟩) (v := ?_) rfl (by kernel_rfl) (by kernel_rfl) (by kernel_rfl) (by decide) (by kernel_rfl) (by kernel_rfl) (fun _ _ _ h => h) (Or.inl ⟨by rfl, ?_⟩) D0.out ?_
      rotate_left
      · (intro W hSW; clear hSW; go_simp)
        first | done | (with_reducible rfl)
      try simp only [Act.put, List.setIfInBounds_toArray, List.set_cons_zero, List.set_cons_succ]
      refine til_one (i := 6) (o := ⟨some 86, _, _, _, _, _⟩) (by kernel_rfl) rfl (fun K hK => ?_)
      go_simp
      refine (radd_k _ _ _).mono ?_
      rintro e w9 ⟨rfl, rfl⟩
      go_simp
      refine hK.out _ _ (fun _ => D0.out) ?_
      clear hK K
      try simp only [Act.put, List.setIfInBounds_toArray, List.set_cons_zero, List.set_cons_succ]
      refine til_take (i := 7) (oi := ⟨some 87, _, _, _, _, _⟩) (v := ?_) rfl (by kernel_rfl) (by kernel_rfl) (by kernel_rfl) (by decide) (by kernel_rfl) (by kernel_rfl) (fun _ _ _ h => h) (Or.inl ⟨by rfl, ?_⟩) D0.out ?_
      rotate_left
      · (intro W hSW; clear hSW; go_simp)
        first | done | (with_reducible rfl)
      try simp only [Act.put, List.setIfInBounds_toArray, List.set_cons_zero, List.set_cons_succ]
      refine til_one (i := 9) (o := ⟨none, _, _, _, _, _⟩) (by kernel_rfl) rfl (fun K hK => ?_)
      refine step_lay (by rfl) 38 3 size39 (.tmp 6) (.tmp 87) (by rfl) (w.heap.size + 2) (dcs (some ⟨q6, 0, none⟩) (n + 1) c6 M (addK T y)) (by rfl) (by rfl) 38 (dcs none 0 0 0 0) T7.out.res rfl rfl (dcs_one _ _ _ _ _) ?_
      intro w8 K8 F8
      refine hK.out _ _ (fun _ => T7.out.bx.far F8.out (fun e => by have h1 : w.heap.size = w.heap.size + 2 := e; omega)) ?_
      clear hK K
      try simp only [Act.put]
      refine til_one (i := 10) (o := ⟨some 7, _, _, _, _, _⟩) (by kernel_rfl) rfl (fun K hK => ?_)
      go_simp
      refine hK.out _ _ (past (by kernel_rfl)) ?_
      clear hK K
      try simp only [Act.put, List.setIfInBounds_toArray, List.set_cons_zero, List.set_cons_succ]
      refine til_done (by kernel_rfl) ?_ _
      have hv := load_doc K8.out rfl
      go_wp2_with fail
      refine bodyPost_ret (v := .tuple #[doc (some ⟨q6, 0, none⟩) (n + 1) c6 M (addK T y), .int .i64 (n : Nat)]) (by simp [results, Try.results22, asAddr, hv]) rfl ?_
      refine ⟨some ⟨q6, 0, none⟩, c6, by rw [HIL.out], LAt.row (R7.out.far F8.out (fun e => by have h1 : q6 = w.heap.size + 2 := e; omega)), ⟨q6, rfl, by omega⟩, below_only T7.out.be F8.out (by omega) T7.out.be.size⟩
    · rw [plc_full HH.out hm, pos_full HH.out hm] at HPOS ⊢
      rw [HN.out] at HPOS hm ⊢
      have hd : decide ((n : Int) < (M : Int)) = false := by simp; omega
      obtain ⟨k0, hk0⟩ : ∃ k0, low L n = k0 := ⟨_, rfl⟩
      have HLL := Lib.hid (low_lt (L := L) (by rw [HN.out]; omega))
      rw [HN.out] at HLL
      have hkn : k0 < n := hk0 ▸ HLL.out n (Nat.le_refl _)
      rw [hk0] at HPOS ⊢
      obtain ⟨x, hx⟩ : ∃ x, (at_ L k0).c = x := ⟨_, rfl⟩
      rw [hx] at HPOS ⊢
      obtain ⟨G, hG⟩ : ∃ G, L.set k0 (⟨p, x, x⟩ : Slo) = G := ⟨_, rfl⟩
      rw [hG] at HPOS ⊢
      have HGL : Hid (G.length = n) := by show _ = _; rw [← hG, List.length_set]; exact HN.out
      have HK0 := Lib.hid hk0
      have HX0 := Lib.hid hx
      have HG := Lib.hid hG
      have HA := Lib.hid (at_some (L := L) (k := k0) (by rw [HN.out]; exact hkn))
      have HK : Hid (k0 < G.length) := HPOS.out
      clear hk0 hx hG HPOS
      go_enter Try.func22, Try.ntmps22
      go_upto_region 1 with fail
      generalize (((w.alloc (.cells (dcs A n c M T).toArray 38)).alloc (.cells p.cs.toArray 31)).alloc (.cells #[.slice none 0 0, .int .i64 0, .int .i64 0] 38)) = w1 at *
      have T2 : Hid (Three w A n c M T p (w1.alloc (.cells #[] 65))) := T1.out.below ((Below.refl _ w1).alloc (Nat.le_refl _) _)
      have O2 : Hid (SOwn (w.heap.size + 3) (.slice (some ⟨w1.heap.size, 0, none⟩) 0 0) [] (w1.alloc (.cells #[] 65))) := SOwn.new w1 _ T1.out.lt
      obtain ⟨v3, w3, hrun, o3, g3, b3⟩ := run_append_ss (w1.alloc (.cells #[] 65)) (w.heap.size + 3) _ [] L O2.out A c (H.out _ T2.out.be) HN0.out (by rw [HN.out]; simp; omega) T2.out.lt
      rw [HN.out] at hrun
      have T3 : Hid (Three w A n c M T p w3) := T2.out.grown g3 (fun k hk => (O2.out.lt k hk).1)
      obtain ⟨q3, c3, rfl, r3, hq3⟩ := o3.some_ (v3.ownBlock.getD 0) (.inl (by rcases b3 with b3 | b3 <;> rw [b3] <;> rfl))
      have R3 : Hid (Rw w3 65 q3 c3 L) := r3
      have O3 : Hid (SOwn (w.heap.size + 3) (.slice (some ⟨q3, 0, none⟩) L.length c3) L w3) := o3
      rw [show ([] ++ L : List Slo).length = n from HN.out] at hrun
      rw [HN.out] at O3
      clear o3 g3 b3 r3 O2 T2
      have d0 : (w1.alloc (.cells #[] 65)).cell? ⟨w.heap.size, 0, none⟩ = some (.slice A n c) := (T1.out.1.alloc _).cell 0
      have e0 := T3.out.1.cell 0
      have e1 := T3.out.1.cell 1
      have e2 := T3.out.1.cell 2
      have f0 : w3.cell? ⟨w.heap.size, 0, none⟩ = some (.slice A n c) := e0
      have f1 : w3.cell? ⟨w.heap.size, 1, none⟩ = some (.int .i64 (M : Nat)) := e1
      have f2 : w3.cell? ⟨w.heap.size, 2, none⟩ = some (.int .i64 T) := e2
      clear e0 e1 e2
      go_upto_region 3 with (first | (at_builtin; refine wpList_app rfl 36 (.tmp 11) (.tmp 13) rfl _ _ _ rfl rfl hrun ?_; clear d0 hrun) | (refine wpList_pre (by rfl) (.tmp 4) rfl _ _ rfl p (whole_at T3.out.pre) ?_) | (go_at_call 26; (with_reducible refine (HF.out _ T3.out.be).mono ?_); rintro e w4 ⟨rfl, hb4⟩; have T4 := Lib.hid (T3.out.below hb4); have R4 := Lib.hid (R3.out.below hb4); have O4 := Lib.hid (O3.out.below hb4); clear hb4; have g1 : w4.cell? ⟨w.heap.size, 1, none⟩ = some (.int .i64 (M : Nat)) := T4.out.bx.cell 1))
      clear f0 f1 f2 T3 R3 O3 T1 HF
      clear HH O4
      go_upto_region 8 with fail
      clear g1
      go_wp2_with fail
      go_loopw [9, 10, 38] (fun b _ i w' => ∃ k : Nat, k ≤ n ∧ i = .int .i64 k ∧ b = .int .i64 (low L k : Nat) ∧ Below w4.heap.size w4 w') (fun _ _ i _ => n - (intOf i).toNat)
      case atStart => exact ⟨0, by omega, rfl, rfl, Below.refl _ _⟩
      case round =>
        obtain ⟨k, hk, rfl, rfl, hbe⟩ := hrel
        have W1 := Lib.hid hbe
        clear hbe
        by_cases hlt : k < n
        · have hm1 := HLL.out k (by omega)
          have hm1L : low L k < L.length := by rw [HN.out]; exact hm1
          have hm2 : k < L.length := by rw [HN.out]; exact hlt
          have HSTEP : Hid (low L (k + 1) = if (at_ L k).c < (at_ L (low L k)).c then k else low L k) := rfl
          have hc1 := (R4.out.below W1.out).cnt (at_some hm2)
          have hc2 := (R4.out.below W1.out).cnt (at_some hm1L)
          clear hm1L hm2
          generalize low L k = m at *
          generalize (at_ L k).c = s at *
          generalize (at_ L m).c = z at *
          rcases hd2 : decide (s < z) with _ | _
          · have HSR : Hid (Value.int .i64 (m : Nat) = .int .i64 (low L (k + 1) : Nat)) := by show _ = _; rw [HSTEP.out, if_neg (of_decide_eq_false hd2)]
            go_upto_region 11 with fail
            go_quiet (fail)
            go_wp2
            go_roundw
            case rel => exact ⟨k + 1, by omega, by go_num, HSR.out, below_drewN W1.out _⟩
            case measure => simp [intOf]; omega
          · have HSR : Hid (Value.int .i64 (k : Nat) = .int .i64 (low L (k + 1) : Nat)) := by show _ = _; rw [HSTEP.out, if_pos (of_decide_eq_true hd2)]
            go_upto_region 11 with fail
            go_quiet (fail)
            go_wp2
            go_roundw
            case rel => exact ⟨k + 1, by omega, by go_num, HSR.out, below_drewN W1.out _⟩
            case measure => simp [intOf]; omega
        · obtain rfl : n = k := by omega
          have T5a := Lib.hid (T4.out.below W1.out)
          have R5a := Lib.hid (R4.out.below W1.out)
          rw [HK0.out]
          clear T4 R4 W1 HLL HK0
          obtain ⟨w5, hw5⟩ : ∃ z, z = wr := ⟨_, rfl⟩
          subst hw5
          go_upto_region 14 with fail
          refine til_begin (fun W => Three w A n c M T p W ∧ Rw W 65 q3 c3 L) 14 (by kernel_rfl) ?_
          have D0 := Lib.hid ((⟨T5a.out.drew, R5a.out⟩ : Three w A n c M T p w5.drew ∧ Rw w5.drew 65 q3 c3 L))
          refine til_take (i := 0) (oi := ⟨some 54, _, _, _, _, _⟩) (v := ?_) rfl (by kernel_rfl) (by kernel_rfl) (by kernel_rfl) (by decide) (by kernel_rfl) (by kernel_rfl) (fun _ _ _ h => h) (Or.inl ⟨by rfl, ?_⟩) D0.out ?_
          rotate_left
          · (intro W hSW; clear hSW; go_simp)
            first | done | (with_reducible rfl)
          try simp only [Act.put, List.setIfInBounds_toArray, List.set_cons_zero, List.set_cons_succ]
          refine til_take (i := 1) (oi := ⟨some 55, _, _, _, _, _⟩) (v := ?_) rfl (by kernel_rfl) (by kernel_rfl) (by kernel_rfl) (by decide) (by kernel_rfl) (by kernel_rfl) (fun _ _ _ h => h) (Or.inl ⟨by rfl, ?_⟩) D0.out ?_
          rotate_left
          · (intro W hSW; clear hSW; go_simp)
            first | done | (with_reducible rfl)
          try simp only [Act.put, List.setIfInBounds_toArray, List.set_cons_zero, List.set_cons_succ]
          refine til_take (i := 2) (oi := ⟨some 56, _, _, _, _, _⟩) (v := .agg p.cs.toArray) rfl (by kernel_rfl) (by kernel_rfl) (by kernel_rfl) (by decide) (by kernel_rfl) (by kernel_rfl) (fun _ _ _ h => h) (yields_pre (by rfl) (.tmp 4) rfl (w.heap.size + 1) 0 rfl p (fun _ h => whole_at h.1.pre)) D0.out ?_
          try simp only [Act.put, List.setIfInBounds_toArray, List.set_cons_zero, List.set_cons_succ]
          refine til_take (i := 3) (oi := ⟨some 57, _, _, _, _, _⟩) (v := ?_) rfl (by kernel_rfl) (by kernel_rfl) (by kernel_rfl) (by decide) (by kernel_rfl) (by kernel_rfl) (fun _ _ _ h => h) (Or.inl ⟨by rfl, ?_⟩) D0.out ?_
          rotate_left
          · (intro W hSW; clear hSW; go_simp)
            first | done | (with_reducible rfl)
          try simp only [Act.put, List.setIfInBounds_toArray, List.set_cons_zero, List.set_cons_succ]
          refine til_take (i := 4) (oi := ⟨some 58, _, _, _, _, _⟩) (v := ?_) rfl (by kernel_rfl) (by kernel_rfl) (by kernel_rfl) (by decide) (by kernel_rfl) (by kernel_rfl) (fun _ _ _ h => h) (Or.inl ⟨by rfl, ?_⟩) D0.out ?_
          rotate_left
          · (intro W hSW; clear hSW; go_simp)
            first | done | (with_reducible rfl)
          try simp only [Act.put, List.setIfInBounds_toArray, List.set_cons_zero, List.set_cons_succ]
          refine til_take (i := 5) (oi := ⟨some 59, _, _, _, _, _⟩) (v := ?_) rfl (by kernel_rfl) (by kernel_rfl) (by kernel_rfl) (by decide) (by kernel_rfl) (by kernel_rfl) (fun _ _ _ h => h) (Or.inl ⟨by rfl, ?_⟩) D0.out ?_
          rotate_left
          · (intro W hSW; clear hSW; go_simp)
            first | done | (with_reducible rfl)
          try simp only [Act.put, List.setIfInBounds_toArray, List.set_cons_zero, List.set_cons_succ]
          refine til_take (i := 6) (oi := ⟨some 60, _, _, _, _, _⟩) (v := ?_) rfl (by kernel_rfl) (by kernel_rfl) (by kernel_rfl) (by decide) (by kernel_rfl) (by kernel_rfl) (fun _ _ _ h => h) (Or.inl ⟨by rfl, ?_⟩) D0.out ?_
          rotate_left
          · (intro W hSW; clear hSW; go_simp)
            first | done | (with_reducible rfl)
          try simp only [Act.put, List.setIfInBounds_toArray, List.set_cons_zero, List.set_cons_succ]
          refine til_take (i := 7) (oi := ⟨some 61, _, _, _, _, _⟩) (v := .int .i64 x) rfl (by kernel_rfl) (by kernel_rfl) (by kernel_rfl) (by decide) (by kernel_rfl) (by kernel_rfl) (fun _ _ _ h => h) (Or.inl ⟨by rfl, ?_⟩) D0.out ?_
          · (intro W hSW; have hc := hSW.2.cnt HA.out; rw [HX0.out] at hc; clear hSW; go_simp)
          try simp only [Act.put, List.setIfInBounds_toArray, List.set_cons_zero, List.set_cons_succ]
          refine til_take (i := 8) (oi := ⟨some 62, _, _, _, _, _⟩) (v := ?_) rfl (by kernel_rfl) (by kernel_rfl) (by kernel_rfl) (by decide) (by kernel_rfl) (by kernel_rfl) (fun _ _ _ h => h) (Or.inl ⟨by rfl, ?_⟩) D0.out ?_
          rotate_left
          · (intro W hSW; clear hSW; go_simp)
            first | done | (with_reducible rfl)
          try simp only [Act.put, List.setIfInBounds_toArray, List.set_cons_zero, List.set_cons_succ]
          refine til_take (i := 9) (oi := ⟨some 63, _, _, _, _, _⟩) (v := ?_) rfl (by kernel_rfl) (by kernel_rfl) (by kernel_rfl) (by decide) (by kernel_rfl) (by kernel_rfl) (fun _ _ _ h => h) (Or.inl ⟨by rfl, ?_⟩) D0.out ?_
          rotate_left
          · (intro W hSW; clear hSW; go_simp)
            first | done | (with_reducible rfl)
          try simp only [Act.put, List.setIfInBounds_toArray, List.set_cons_zero, List.set_cons_succ]
          refine til_take (i := 10) (oi := ⟨some 64, _, _, _, _, _⟩) (v := ?_) rfl (by kernel_rfl) (by kernel_rfl) (by kernel_rfl) (by decide) (by kernel_rfl) (by kernel_rfl) (fun _ _ _ h => h) (Or.inl ⟨by rfl, ?_⟩) D0.out ?_
          rotate_left
          · (intro W hSW; clear hSW; go_simp)
            first | done | (with_reducible rfl)
          try simp only [Act.put, List.setIfInBounds_toArray, List.set_cons_zero, List.set_cons_succ]
          refine til_take (i := 11) (oi := ⟨some 65, _, _, _, _, _⟩) (v := ?_) rfl (by kernel_rfl) (by kernel_rfl) (by kernel_rfl) (by decide) (by kernel_rfl) (by kernel_rfl) (fun _ _ _ h => h) (Or.inl ⟨by rfl, ?_⟩) D0.out ?_
          rotate_left
          · (intro W hSW; clear hSW; go_simp)
            first | done | (with_reducible rfl)
          try simp only [Act.put, List.setIfInBounds_toArray, List.set_cons_zero, List.set_cons_succ]
          refine til_take (i := 12) (oi := ⟨some 66, _, _, _, _, _⟩) (v := .int .i64 x) rfl (by kernel_rfl) (by kernel_rfl) (by kernel_rfl) (by decide) (by kernel_rfl) (by kernel_rfl) (fun _ _ _ h => h) (Or.inl ⟨by rfl, ?_⟩) D0.out ?_
          · (intro W hSW; have hc := hSW.2.cnt HA.out; rw [HX0.out] at hc; clear hSW; go_simp)
          try simp only [Act.put, List.setIfInBounds_toArray, List.set_cons_zero, List.set_cons_succ]
          refine til_take (i := 13) (oi := ⟨some 67, _, _, _, _, _⟩) (v := .agg (Slo.mk p x x).cs.toArray) rfl (by kernel_rfl) (by kernel_rfl) (by kernel_rfl) (by decide) (by kernel_rfl) (by kernel_rfl) (fun _ _ _ h => h) (yields_build (by rfl) 65 [(0, .tmp 56), (1, .tmp 61), (2, .tmp 66)] rfl _ rfl _ (run_rslo3 p x x)) D0.out ?_
          try simp only [Act.put, List.setIfInBounds_toArray, List.set_cons_zero, List.set_cons_succ]
          refine til_one (i := 14) (o := ⟨some 68, _, _, _, _, _⟩) (by kernel_rfl) rfl (fun K hK => ?_)
          go_simp
          refine hK.out _ _ (past (by kernel_rfl)) ?_
          clear hK K
          try simp only [Act.put, List.setIfInBounds_toArray, List.set_cons_zero, List.set_cons_succ]
          refine til_one (i := 15) (o := ⟨none, _, _, _, _, _⟩) (by kernel_rfl) rfl (fun K hK => ?_)
          refine step_put (by rfl) 65 size46 (.tmp 68) (.tmp 67) (by rfl) q3 k0 (Slo.mk p x x) (by rfl) (by rfl) 65 c3 L D0.out.2 (by rw [HN.out]; exact hkn) ?_
          intro w6 R5 F6
          refine hK.out _ _ (past (by kernel_rfl)) ?_
          clear hK K
          try simp only [Act.put]
          refine til_done (by kernel_rfl) ?_ _
          have T5 : Hid (Three w A n c M T p w6) := D0.out.1.far F6.out (fun j e => by have h1 : j = q3 := e; omega)
          rw [HG.out] at R5
          clear D0 F6 T5a R5a HA HX0 HN HG
          go_upto_region 15 with fail
          have hkG := HK.out
          have c8 := R5.out.cnt (at_some HK.out)
          have f8 := R5.out.frozen (k0 * 10 + 8)
          obtain ⟨x1, hx⟩ : ∃ x1, (at_ G k0).c = x1 := ⟨_, rfl⟩
          rw [hx] at c8
          have HX := Lib.hid hx
          clear hx hkG
          go_upto_region 16 with (go_at_call 27; (with_reducible refine (radd_k _ _ _).mono ?_); rintro e w9 ⟨rfl, rfl⟩)
          have R6 : Hid (Rw (w6.setCell ⟨q3, k0 * 10 + 8, none⟩ (.int .i64 (addK x1 y))) 65 q3 c3 (inc G k0 y)) := by have := R5.out.putCnt (at_some HK.out) (addK x1 y); rw [← HX.out] at this ⊢; exact this
          have T6 : Hid (Three w A n c M T p (w6.setCell ⟨q3, k0 * 10 + 8, none⟩ (.int .i64 (addK x1 y)))) := T5.out.far (S := only q3) ((Far.refl (only q3) w6).set_ (p := ⟨q3, k0 * 10 + 8, none⟩) (fun _ => rfl) _) (fun j e => by have h1 : j = q3 := e; omega)
          have HIL : Hid ((inc G k0 y).length = n) := by show _ = _; rw [inc_length]; exact HGL.out
          clear c8 f8 R5 T5
          generalize inc G k0 y = I at *
          generalize w6.setCell ⟨q3, k0 * 10 + 8, none⟩ (.int .i64 (addK x1 y)) = w6 at *
          refine til_begin (fun W => Blk W w.heap.size 38 (dcs A n c M T)) 10 (by kernel_rfl) ?_
          have D0 := Lib.hid ((T6.out.drew.bx : Blk w6.drew w.heap.size 38 (dcs A n c M T)))
          have R7 : Hid (Rw w6.drew 65 q3 c3 I) := R6.out
          have T7 : Hid (Three w A n c M T p w6.drew) := T6.out.drew
          clear R6 T6
          generalize w6.drew = w7 at *
          refine til_take (i := 0) (oi := ⟨some 80, _, _, _, _, _⟩) (v := ?_) rfl (by kernel_rfl) (by kernel_rfl) (by kernel_rfl) (by decide) (by kernel_rfl) (by kernel_rfl) (fun _ _ _ h => h) (Or.inl ⟨by rfl, ?_⟩) D0.out ?_
          rotate_left
          · (intro W hSW; clear hSW; go_simp)
            first | done | (with_reducible rfl)
          try simp only [Act.put, List.setIfInBounds_toArray, List.set_cons_zero, List.set_cons_succ]
          refine til_take (i := 1) (oi := ⟨some 81, _, _, _, _, _⟩) (v := ?_) rfl (by kernel_rfl) (by kernel_rfl) (by kernel_rfl) (by decide) (by kernel_rfl) (by kernel_rfl) (fun _ _ _ h => h) (Or.inl ⟨by rfl, ?_⟩) D0.out ?_
          rotate_left
          · (intro W hSW; clear hSW; go_simp)
            first | done | (with_reducible rfl)
          try simp only [Act.put, List.setIfInBounds_toArray, List.set_cons_zero, List.set_cons_succ]
          refine til_take (i := 2) (oi := ⟨some 82, _, _, _, _, _⟩) (v := .int .i64 (M : Nat)) rfl (by kernel_rfl) (by kernel_rfl) (by kernel_rfl) (by decide) (by kernel_rfl) (by kernel_rfl) (fun _ _ _ h => h) (Or.inl ⟨by rfl, ?_⟩) D0.out ?_
          · (intro W hSW; have hc := hSW.cell 1; clear hSW; go_simp)
          try simp only [Act.put, List.setIfInBounds_toArray, List.set_cons_zero, List.set_cons_succ]
          refine til_take (i := 3) (oi := ⟨some 83, _, _, _, _, _⟩) (v := ?_) rfl (by kernel_rfl) (by kernel_rfl) (by kernel_rfl) (by decide) (by kernel_rfl) (by kernel_rfl) (fun _ _ _ h => h) (Or.inl ⟨by rfl, ?_⟩) D0.out ?_
          rotate_left
          · (intro W hSW; clear hSW; go_simp)
            first | done | (with_reducible rfl)
          try simp only [Act.put, List.setIfInBounds_toArray, List.set_cons_zero, List.set_cons_succ]
          refine til_take (i := 4) (oi := ⟨some 84, _, _, _, _, _⟩) (v := .int .i64 T) rfl (by kernel_rfl) (by kernel_rfl) (by kernel_rfl) (by decide) (by kernel_rfl) (by kernel_rfl) (fun _ _ _ h => h) (Or.inl ⟨by rfl, ?_⟩) D0.out ?_
          · (intro W hSW; have hc := hSW.cell 2; clear hSW; go_simp)
          try simp only [Act.put, List.setIfInBounds_toArray, List.set_cons_zero, List.set_cons_succ]
          refine til_take (i := 5) (oi := ⟨some 85, _, _, _, _, _⟩) (v := ?_) rfl (by kernel_rfl) (by kernel_rfl) (by kernel_rfl) (by decide) (by kernel_rfl) (by kernel_rfl) (fun _ _ _ h => h) (Or.inl ⟨by rfl, ?_⟩) D0.out ?_
          rotate_left
          · (intro W hSW; clear hSW; go_simp)
            first | done | (with_reducible rfl)
          try simp only [Act.put, List.setIfInBounds_toArray, List.set_cons_zero, List.set_cons_succ]
          refine til_take (i := 8) (oi := ⟨some 88, _, _, _, _, _⟩) (v := ?_) rfl (by kernel_rfl) (by kernel_rfl) (by kernel_rfl) (by decide) (by kernel_rfl) (by kernel_rfl) (fun _ _ _ h => h) (Or.inl ⟨by rfl, ?_⟩) D0.out ?_
          rotate_left
          · (intro W hSW; clear hSW; go_simp)
            first | done | (with_reducible rfl)
          try simp only [Act.put, List.setIfInBounds_toArray, List.set_cons_zero, List.set_cons_succ]
          refine til_one (i := 6) (o := ⟨some 86, _, _, _, _, _⟩) (by kernel_rfl) rfl (fun K hK => ?_)
          go_simp
          refine (radd_k _ _ _).mono ?_
          rintro e w9 ⟨rfl, rfl⟩
          go_simp
          refine hK.out _ _ (fun _ => D0.out) ?_
          clear hK K
          try simp only [Act.put, List.setIfInBounds_toArray, List.set_cons_zero, List.set_cons_succ]
          refine til_take (i := 7) (oi := ⟨some 87, _, _, _, _, _⟩) (v := ?_) rfl (by kernel_rfl) (by kernel_rfl) (by kernel_rfl) (by decide) (by kernel_rfl) (by kernel_rfl) (fun _ _ _ h => h) (Or.inl ⟨by rfl, ?_⟩) D0.out ?_
          rotate_left
          · (intro W hSW; clear hSW; go_simp)
            first | done | (with_reducible rfl)
          try simp only [Act.put, List.setIfInBounds_toArray, List.set_cons_zero, List.set_cons_succ]
          refine til_one (i := 9) (o := ⟨none, _, _, _, _, _⟩) (by kernel_rfl) rfl (fun K hK => ?_)
          refine step_lay (by rfl) 38 3 size39 (.tmp 6) (.tmp 87) (by rfl) (w.heap.size + 2) (dcs (some ⟨q3, 0, none⟩) n c3 M (addK T y)) (by rfl) (by rfl) 38 (dcs none 0 0 0 0) T7.out.res rfl rfl (dcs_one _ _ _ _ _) ?_
          intro w8 K8 F8
          refine hK.out _ _ (fun _ => T7.out.bx.far F8.out (fun e => by have h1 : w.heap.size = w.heap.size + 2 := e; omega)) ?_
          clear hK K
          try simp only [Act.put]
          refine til_one (i := 10) (o := ⟨some 7, _, _, _, _, _⟩) (by kernel_rfl) rfl (fun K hK => ?_)
          go_simp
          refine hK.out _ _ (past (by kernel_rfl)) ?_
          clear hK K
          try simp only [Act.put, List.setIfInBounds_toArray, List.set_cons_zero, List.set_cons_succ]
          refine til_done (by kernel_rfl) ?_ _
          have hv := load_doc K8.out rfl
          go_wp2_with fail
          refine bodyPost_ret (v := .tuple #[doc (some ⟨q3, 0, none⟩) n c3 M (addK T y), .int .i64 (k0 : Nat)]) (by simp [results, Try.results22, asAddr, hv]) rfl ?_
          refine ⟨some ⟨q3, 0, none⟩, c3, by rw [HIL.out], LAt.row (R7.out.far F8.out (fun e => by have h1 : q3 = w.heap.size + 2 := e; omega)), ⟨q3, rfl, by omega⟩, below_only T7.out.be F8.out (by omega) T7.out.be.size⟩
  · have hk := has_iff.1 hh
    rw [plc_has hh, pos_has hh] at HPOS ⊢
    have e1 : fnd L p = (idx L p : Nat) := by simp [fnd, hh]
    rw [e1] at HF
    generalize idx L p = k at *
    have HK := HPOS
    clear HPOS hh e1 hk
    go_enter Try.func22, Try.ntmps22
    go_upto_region 1 with fail
    generalize (((w.alloc (.cells (dcs A n c M T).toArray 38)).alloc (.cells p.cs.toArray 31)).alloc (.cells #[.slice none 0 0, .int .i64 0, .int .i64 0] 38)) = w1 at *
    have T2 : Hid (Three w A n c M T p (w1.alloc (.cells #[] 65))) := T1.out.below ((Below.refl _ w1).alloc (Nat.le_refl _) _)
    have O2 : Hid (SOwn (w.heap.size + 3) (.slice (some ⟨w1.heap.size, 0, none⟩) 0 0) [] (w1.alloc (.cells #[] 65))) := SOwn.new w1 _ T1.out.lt
    obtain ⟨v3, w3, hrun, o3, g3, b3⟩ := run_append_ss (w1.alloc (.cells #[] 65)) (w.heap.size + 3) _ [] L O2.out A c (H.out _ T2.out.be) HN0.out (by rw [HN.out]; simp; omega) T2.out.lt
    rw [HN.out] at hrun
    have T3 : Hid (Three w A n c M T p w3) := T2.out.grown g3 (fun k hk => (O2.out.lt k hk).1)
    obtain ⟨q3, c3, rfl, r3, hq3⟩ := o3.some_ (v3.ownBlock.getD 0) (.inl (by rcases b3 with b3 | b3 <;> rw [b3] <;> rfl))
    have R3 : Hid (Rw w3 65 q3 c3 L) := r3
    have O3 : Hid (SOwn (w.heap.size + 3) (.slice (some ⟨q3, 0, none⟩) L.length c3) L w3) := o3
    rw [show ([] ++ L : List Slo).length = n from HN.out] at hrun
    rw [HN.out] at O3
    clear o3 g3 b3 r3 O2 T2
    have d0 : (w1.alloc (.cells #[] 65)).cell? ⟨w.heap.size, 0, none⟩ = some (.slice A n c) := (T1.out.1.alloc _).cell 0
    have e0 := T3.out.1.cell 0
    have e1 := T3.out.1.cell 1
    have e2 := T3.out.1.cell 2
    have f0 : w3.cell? ⟨w.heap.size, 0, none⟩ = some (.slice A n c) := e0
    have f1 : w3.cell? ⟨w.heap.size, 1, none⟩ = some (.int .i64 (M : Nat)) := e1
    have f2 : w3.cell? ⟨w.heap.size, 2, none⟩ = some (.int .i64 T) := e2
    clear e0 e1 e2
    go_upto_region 3 with (first | (at_builtin; refine wpList_app rfl 36 (.tmp 11) (.tmp 13) rfl _ _ _ rfl rfl hrun ?_; clear d0 hrun) | (refine wpList_pre (by rfl) (.tmp 4) rfl _ _ rfl p (whole_at T3.out.pre) ?_) | (go_at_call 26; (with_reducible refine (HF.out _ T3.out.be).mono ?_); rintro e w4 ⟨rfl, hb4⟩; have T4 := Lib.hid (T3.out.below hb4); have R4 := Lib.hid (R3.out.below hb4); have O4 := Lib.hid (O3.out.below hb4); clear hb4; have g1 : w4.cell? ⟨w.heap.size, 1, none⟩ = some (.int .i64 (M : Nat)) := T4.out.bx.cell 1))
    clear f0 f1 f2 T3 R3 O3 T1 HF
    have hkn : k < n := by rw [← HN.out]; exact HK.out
    have HKK : Hid (k < L.length) := HK.out
    clear HK
    have HK := HKK
    have T5 := T4
    have R5 := R4
    have HGL : Hid (L.length = n) := HN.out
    clear T4 R4 O4 HKK
    go_upto_region 15 with fail
    have hkG := HK.out
    have c8 := R5.out.cnt (at_some HK.out)
    have f8 := R5.out.frozen (k * 10 + 8)
    obtain ⟨x, hx⟩ : ∃ x, (at_ L k).c = x := ⟨_, rfl⟩
    rw [hx] at c8
    have HX := Lib.hid hx
    clear hx hkG
    go_upto_region 16 with (go_at_call 27; (with_reducible refine (radd_k _ _ _).mono ?_); rintro e w9 ⟨rfl, rfl⟩)
    have R6 : Hid (Rw (w4.setCell ⟨q3, k * 10 + 8, none⟩ (.int .i64 (addK x y))) 65 q3 c3 (inc L k y)) := by have := R5.out.putCnt (at_some HK.out) (addK x y); rw [← HX.out] at this ⊢; exact this
    have T6 : Hid (Three w A n c M T p (w4.setCell ⟨q3, k * 10 + 8, none⟩ (.int .i64 (addK x y)))) := T5.out.far (S := only q3) ((Far.refl (only q3) w4).set_ (p := ⟨q3, k * 10 + 8, none⟩) (fun _ => rfl) _) (fun j e => by have h1 : j = q3 := e; omega)
    have HIL : Hid ((inc L k y).length = n) := by show _ = _; rw [inc_length]; exact HGL.out
    clear c8 f8 R5 T5
    generalize inc L k y = I at *
    generalize w4.setCell ⟨q3, k * 10 + 8, none⟩ (.int .i64 (addK x y)) = w6 at *
    refine til_begin (fun W => Blk W w.heap.size 38 (dcs A n c M T)) 10 (by kernel_rfl) ?_
    have D0 := Lib.hid ((T6.out.drew.bx : Blk w6.drew w.heap.size 38 (dcs A n c M T)))
    have R7 : Hid (Rw w6.drew 65 q3 c3 I) := R6.out
    have T7 : Hid (Three w A n c M T p w6.drew) := T6.out.drew
    clear R6 T6
    generalize w6.drew = w7 at *
    refine til_take (i := 0) (oi := ⟨some 80, _, _, _, _, _⟩) (v := ?_) rfl (by kernel_rfl) (by kernel_rfl) (by kernel_rfl) (by decide) (by kernel_rfl) (by kernel_rfl) (fun _ _ _ h => h) (Or.inl ⟨by rfl, ?_⟩) D0.out ?_
    rotate_left
    · (intro W hSW; clear hSW; go_simp)
      first | done | (with_reducible rfl)
    try simp only [Act.put, List.setIfInBounds_toArray, List.set_cons_zero, List.set_cons_succ]
    refine til_take (i := 1) (oi := ⟨some 81, _, _, _, _, _⟩) (v := ?_) rfl (by kernel_rfl) (by kernel_rfl) (by kernel_rfl) (by decide) (by kernel_rfl) (by kernel_rfl) (fun _ _ _ h => h) (Or.inl ⟨by rfl, ?_⟩) D0.out ?_
    rotate_left
    · (intro W hSW; clear hSW; go_simp)
      first | done | (with_reducible rfl)
    try simp only [Act.put, List.setIfInBounds_toArray, List.set_cons_zero, List.set_cons_succ]
    refine til_take (i := 2) (oi := ⟨some 82, _, _, _, _, _⟩) (v := .int .i64 (M : Nat)) rfl (by kernel_rfl) (by kernel_rfl) (by kernel_rfl) (by decide) (by kernel_rfl) (by kernel_rfl) (fun _ _ _ h => h) (Or.inl ⟨by rfl, ?_⟩) D0.out ?_
    · (intro W hSW; have hc := hSW.cell 1; clear hSW; go_simp)
    try simp only [Act.put, List.setIfInBounds_toArray, List.set_cons_zero, List.set_cons_succ]
    refine til_take (i := 3) (oi := ⟨some 83, _, _, _, _, _⟩) (v := ?_) rfl (by kernel_rfl) (by kernel_rfl) (by kernel_rfl) (by decide) (by kernel_rfl) (by kernel_rfl) (fun _ _ _ h => h) (Or.inl ⟨by rfl, ?_⟩) D0.out ?_
    rotate_left
    · (intro W hSW; clear hSW; go_simp)
      first | done | (with_reducible rfl)
    try simp only [Act.put, List.setIfInBounds_toArray, List.set_cons_zero, List.set_cons_succ]
    refine til_take (i := 4) (oi := ⟨some 84, _, _, _, _, _⟩) (v := .int .i64 T) rfl (by kernel_rfl) (by kernel_rfl) (by kernel_rfl) (by decide) (by kernel_rfl) (by kernel_rfl) (fun _ _ _ h => h) (Or.inl ⟨by rfl, ?_⟩) D0.out ?_
    · (intro W hSW; have hc := hSW.cell 2; clear hSW; go_simp)
    try simp only [Act.put, List.setIfInBounds_toArray, List.set_cons_zero, List.set_cons_succ]
    refine til_take (i := 5) (oi := ⟨some 85, _, _, _, _, _⟩) (v := ?_) rfl (by kernel_rfl) (by kernel_rfl) (by kernel_rfl) (by decide) (by kernel_rfl) (by kernel_rfl) (fun _ _ _ h => h) (Or.inl ⟨by rfl, ?_⟩) D0.out ?_
    rotate_left
    · (intro W hSW; clear hSW; go_simp)
      first | done | (with_reducible rfl)
    try simp only [Act.put, List.setIfInBounds_toArray, List.set_cons_zero, List.set_cons_succ]
    refine til_take (i := 8) (oi := ⟨some 88, _, _, _, _, _⟩) (v := ?_) rfl (by kernel_rfl) (by kernel_rfl) (by kernel_rfl) (by decide) (by kernel_rfl) (by kernel_rfl) (fun _ _ _ h => h) (Or.inl ⟨by rfl, ?_⟩) D0.out ?_
    rotate_left
    · (intro W hSW; clear hSW; go_simp)
      first | done | (with_reducible rfl)
    try simp only [Act.put, List.setIfInBounds_toArray, List.set_cons_zero, List.set_cons_succ]
    refine til_one (i := 6) (o := ⟨some 86, _, _, _, _, _⟩) (by kernel_rfl) rfl (fun K hK => ?_)
    go_simp
    refine (radd_k _ _ _).mono ?_
    rintro e w9 ⟨rfl, rfl⟩
    go_simp
    refine hK.out _ _ (fun _ => D0.out) ?_
    clear hK K
    try simp only [Act.put, List.setIfInBounds_toArray, List.set_cons_zero, List.set_cons_succ]
    refine til_take (i := 7) (oi := ⟨some 87, _, _, _, _, _⟩) (v := ?_) rfl (by kernel_rfl) (by kernel_rfl) (by kernel_rfl) (by decide) (by kernel_rfl) (by kernel_rfl) (fun _ _ _ h => h) (Or.inl ⟨by rfl, ?_⟩) D0.out ?_
    rotate_left
    · (intro W hSW; clear hSW; go_simp)
      first | done | (with_reducible rfl)
    try simp only [Act.put, List.setIfInBounds_toArray, List.set_cons_zero, List.set_cons_succ]
    refine til_one (i := 9) (o := ⟨none, _, _, _, _, _⟩) (by kernel_rfl) rfl (fun K hK => ?_)
    refine step_lay (by rfl) 38 3 size39 (.tmp 6) (.tmp 87) (by rfl) (w.heap.size + 2) (dcs (some ⟨q3, 0, none⟩) n c3 M (addK T y)) (by rfl) (by rfl) 38 (dcs none 0 0 0 0) T7.out.res rfl rfl (dcs_one _ _ _ _ _) ?_
    intro w8 K8 F8
    refine hK.out _ _ (fun _ => T7.out.bx.far F8.out (fun e => by have h1 : w.heap.size = w.heap.size + 2 := e; omega)) ?_
    clear hK K
    try simp only [Act.put]
    refine til_one (i := 10) (o := ⟨some 7, _, _, _, _, _⟩) (by kernel_rfl) rfl (fun K hK => ?_)
    go_simp
    refine hK.out _ _ (past (by kernel_rfl)) ?_
    clear hK K
    try simp only [Act.put, List.setIfInBounds_toArray, List.set_cons_zero, List.set_cons_succ]
    refine til_done (by kernel_rfl) ?_ _
    have hv := load_doc K8.out rfl
    go_wp2_with fail
    refine bodyPost_ret (v := .tuple #[doc (some ⟨q3, 0, none⟩) n c3 M (addK T y), .int .i64 (k : Nat)]) (by simp [results, Try.results22, asAddr, hv]) rfl ?_
    refine ⟨some ⟨q3, 0, none⟩, c3, by rw [HIL.out], LAt.row (R7.out.far F8.out (fun e => by have h1 : q3 = w.heap.size + 2 := e; omega)), ⟨q3, rfl, by omega⟩, below_only T7.out.be F8.out (by omega) T7.out.be.size⟩
end Go.Proofs.Yteeobeeoefokdaa
