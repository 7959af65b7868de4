/- Rows of prefixes; the contract of the law's prefixes. Conditions: those of each theorem. -/
import Derived.Test.YtgmbkmlnoehomaaRans
namespace Go.Proofs.Ytgmbkmlnoehomaa
open Go.RowKit

def flatP (ps : List Pre) : List Value := ps.flatMap Pre.cs
theorem flatP_length (ps : List Pre) : (flatP ps).length = ps.length * 8 := by
  induction ps with
  | nil => rfl
  | cons s r ih =>
    have : flatP (s :: r) = s.cs ++ flatP r := rfl
    rw [this, List.length_append, ih, cs8, List.length_cons]
    omega
theorem flatP_app (a b : List Pre) : flatP (a ++ b) = flatP a ++ flatP b := by simp [flatP]
theorem flatP_one (p : Pre) : flatP [p] = p.cs := by simp [flatP]
theorem flatP_at {ps : List Pre} {k i : Nat} {p : Pre} (h : ps[k]? = some p) (hi : i < 8) : (flatP ps)[k * 8 + i]? = p.cs[i]? := by
  have hk := (List.getElem?_eq_some_iff.1 h).1
  have e : ps = ps.take k ++ (p :: ps.drop (k + 1)) := by
    rw [← (List.getElem?_eq_some_iff.1 h).2, ← List.drop_eq_getElem_cons, List.take_append_drop]
  have e2 : flatP ps = flatP (ps.take k) ++ (p.cs ++ flatP (ps.drop (k + 1))) := by
    conv => lhs; rw [e]
    rw [flatP_app]
    rfl
  have hl : (flatP (ps.take k)).length = k * 8 := by rw [flatP_length, List.length_take]; omega
  rw [e2, List.getElem?_append_right (by omega), hl, show k * 8 + i - k * 8 = i by omega, List.getElem?_append_left (by rw [cs8]; exact hi)]
theorem flatP_each {ps : List Pre} : ∀ u ∈ flatP ps, u.oneCell' = true := fun u hu => by
  obtain ⟨s, _, hs⟩ := List.mem_flatMap.1 hu
  exact pre_each s u hs
/-- The prefixes ps can be read at A. -/
def PAt (A : Option Addr) (ps : List Pre) (w : World) : Prop := ∀ k p, ps[k]? = some p → ∃ q, A = some ⟨q, 0, none⟩ ∧ w.rangeAt q (k * 8) p.cs
theorem PAt.below {A : Option Addr} {ps : List Pre} {w w' : World} (h : PAt A ps w) (hb : Below w.heap.size w w') : PAt A ps w' := fun k p hk => by
  obtain ⟨q, e, hr⟩ := h k p hk
  exact ⟨q, e, fun j v hv => (hb.cell (World.block_lt_of_cell? w _ (hr j v hv))).trans (hr j v hv)⟩
/-- An own row of prefixes. -/
def POwn (base : Nat) (v : Value) (ps : List Pre) (w : World) : Prop := w.ownsRow base 25 8 v ps.length (flatP ps)
theorem POwn.none_ {base : Nat} {w : World} : POwn base (.slice none 0 0) [] w := ⟨rfl, .inl ⟨rfl, rfl⟩⟩
theorem POwn.shape {base : Nat} {v : Value} {ps : List Pre} {w : World} (h : POwn base v ps w) : ∃ A c, v = .slice A ps.length c ∧ PAt A ps w ∧ (A = none → ps = []) ∧ ∀ ad, A = some ad → ∃ b, ad = ⟨b, 0, none⟩ := by
  rcases h.2 with ⟨rfl, h0⟩ | ⟨g, cap, cur, rfl, hb, hg, rest⟩
  · have : ps = [] := List.length_eq_zero_iff.1 h0
    subst this
    exact ⟨none, 0, rfl, fun k p hk => by simp at hk, fun _ => rfl, fun ad e => by cases e⟩
  · refine ⟨_, cap, rfl, fun k p hk => ⟨g, rfl, fun j u hu => ?_⟩, fun e => (by cases e), fun ad e => (by cases e; exact ⟨_, rfl⟩)⟩
    have hj : j < 8 := by have := (List.getElem?_eq_some_iff.1 hu).1; rwa [cs8] at this
    have hkl := (List.getElem?_eq_some_iff.1 hk).1
    rw [World.ownsRow.cellAt h (k * 8 + j) (by omega), flatP_at hk hj]
    exact hu
theorem POwn.below {base : Nat} {v : Value} {ps : List Pre} {w w' : World} (h : POwn base v ps w) (hb : Below w.heap.size w w') : POwn base v ps w' :=
  Far.row (Far.of_below hb nobody) h (fun _ _ e => e)
theorem POwn.lt {base : Nat} {v : Value} {ps : List Pre} {w : World} (h : POwn base v ps w) : ∀ k, v.ownBlock = some k → base ≤ k ∧ k < w.heap.size := by
  intro k hk
  rcases h.2 with ⟨rfl, _⟩ | ⟨g, cap, cur, rfl, hb, hg, _⟩
  · simp [Value.ownBlock] at hk
  · simp [Value.ownBlock] at hk
    subst hk
    exact ⟨hb, (Array.getElem?_eq_some_iff.1 hg).1⟩
theorem POwn.new (w : World) (p : Pre) (base : Nat) (hb : base ≤ w.heap.size) : POwn base (.slice (some ⟨w.heap.size, 0, none⟩) 1 1) [p] (w.alloc (.cells p.cs.toArray 25)) :=
  ⟨by rw [flatP_one]; rfl, .inr ⟨w.heap.size, 1, p.cs.toArray, rfl, hb, Blk.new w 25 _, Nat.le_refl _, by unfold maxLen; omega, rfl, by rw [flatP_one]; rfl⟩⟩
theorem zero25_ : (Try.prog.info? 25).map (fun i => (i.zero, i.size, i.bytes)) = some (some (.agg pre0.cs.toArray), 8, 8) := by kernel_rfl
theorem run_onep (p : Pre) (w : World) : (Instr.buildSlice 50 1 #[(0, .agg p.cs.toArray)]).run Try.prog w = .ok (.slice (some ⟨w.heap.size, 0, none⟩) 1 1) (w.alloc (.cells p.cs.toArray 25)) := by
  obtain ⟨i, hi, hh⟩ := Option.map_eq_some_iff.1 zero25_
  simp only [Prod.mk.injEq] at hh
  have e1 : ∀ W : World, (sizeOf 25).run Try.prog W = .ok 8 W := fun W => by simp [sizeOf, typeInfo, hi, hh.2.1]
  have e2 : ∀ W : World, (zeroValue 25).run Try.prog W = .ok (.agg pre0.cs.toArray) W := fun W => by simp [zeroValue, typeInfo, hi, hh.1]
  obtain ⟨v, a, b, c, d, e, f, g⟩ := p
  simp [go_sem, Instr.buildSlice, run_underlying Try.underlying50, e1, e2, Pre.cs, Pre.bs, cel, pre0]
/-- A slice of one prefix. -/
theorem wpList_onep {ops : Array Oper} {rest : List Oper} {o : Oper} {a : Act} {w : World} {Q : Exit → Act → World → Prop} (hgd : o.guard = none) (x : Operand) (ho : o.op = .buildSlice 50 1 #[(0, x)])
    (p : Pre) (hx : a.eval x = .agg p.cs.toArray) (hK : wpList Try.prog ops Q rest (a.put o.dst (.slice (some ⟨w.heap.size, 0, none⟩) 1 1)) (w.alloc (.cells p.cs.toArray 25))) : wpList Try.prog ops Q (o :: rest) a w := by
  refine wpList_plain hgd fun K hK' => ?_
  unfold Oper.wp
  have hrun := run_onep p w
  simp [execOp, ho, hx, hrun, Result.andThen, Oper.upon]
  exact hK' _ _ hK
theorem step_onep {ops : Array Oper} {o : Oper} {a : Act} {w : World} {K : Act → World → Prop} {Q : Exit → Act → World → Prop} {E : Prop} (hw : Region.wanted o (yielded ops a.tmps) = true) (x : Operand) (ho : o.op = .buildSlice 50 1 #[(0, x)])
    (p : Pre) (hx : a.eval x = .agg p.cs.toArray) (hK : K (a.put o.dst (.slice (some ⟨w.heap.size, 0, none⟩) 1 1)) (w.alloc (.cells p.cs.toArray 25))) : if Region.wanted o (yielded ops a.tmps) = true then Oper.wp Try.prog o a w K Q else E := by
  rw [if_pos hw]
  unfold Oper.wp
  have hrun := run_onep p w
  simp [execOp, ho, hx, hrun, Result.andThen, Oper.upon]
  exact hK
/-- append of prefixes onto an own row. -/
theorem run_append_ps (w : World) (base : Nat) (v : Value) (ps qs : List Pre) (h : POwn base v ps w) (A : Option Addr) (c : Nat) (hq : PAt A qs w) (hA : A = none → qs = []) (hA2 : ∀ ad, A = some ad → ∃ b, ad = ⟨b, 0, none⟩) (hn : ps.length + qs.length ≤ 1000) (hb : base ≤ w.heap.size) :
    ∃ v' w', (Builtin.append_ #[50, 50] 50 #[v, .slice A qs.length c]).run Try.prog w = .ok v' w' ∧ POwn base v' (ps ++ qs) w' ∧ w.grownBy w' v.ownBlock ∧ (v'.ownBlock = v.ownBlock ∨ v'.ownBlock = some w.heap.size) := by
  obtain ⟨i, hi0, hh⟩ := Option.map_eq_some_iff.1 zero25_
  simp only [Prod.mk.injEq] at hh
  rcases A with _ | ad
  · obtain rfl := hA rfl
    refine ⟨v, w, ?_, by simpa using h, World.grownBy.refl w _, .inl rfl⟩
    rcases h.2 with ⟨rfl, h0⟩ | ⟨g, cap, cur, rfl, _, _, hnc, _⟩
    · simp [Builtin.append_, run_underlying Try.underlying50, sizeOf, typeInfo, hi0, Builtin.lenOf, Builtin.firstCells]
    · simp [Builtin.append_, run_underlying Try.underlying50, sizeOf, typeInfo, hi0, Builtin.lenOf, Builtin.firstCells, hnc, storeCells]
  · obtain ⟨b, rfl⟩ := hA2 ad rfl
    obtain ⟨v', w', hrun, h2, h3, _, h5⟩ := run_append_own_at (P := Try.prog) w base 50 50 25 i _ 8 8 Try.underlying50 hi0 hh.1 hh.2.1 hh.2.2 rfl (by decide) v ps.length (flatP ps) h ⟨b, 0, none⟩ qs.length c (flatP qs) (flatP_length qs) (fun j u hj => by
      have hj2 : j < qs.length * 8 := by rw [← flatP_length]; exact (List.getElem?_eq_some_iff.1 hj).1
      have hk : j / 8 < qs.length := by omega
      have hs : qs[j / 8]? = some qs[j / 8] := by simp [hk]
      obtain ⟨q, e, hr⟩ := hq _ _ hs
      cases e
      have e2 := flatP_at hs (i := j % 8) (by omega)
      rw [show j / 8 * 8 + j % 8 = j by omega, hj] at e2
      have := hr (j % 8) u e2.symm
      rw [show j / 8 * 8 + j % 8 = j by omega] at this
      rw [Addr.add_mid, Nat.zero_add]
      exact this) flatP_each (by unfold maxLen; omega) (by omega) hb
    refine ⟨v', w', hrun, ?_, h3, h5⟩
    unfold POwn
    rw [List.length_append, flatP_app]
    exact h2
/-- What prefixes answers. -/
def PsOut (w : World) (ps : List Pre) (e : Ending) (w' : World) : Prop := ∃ v, e = .returned v ∧ POwn w.heap.size v ps w' ∧ Below w.heap.size w w'
theorem below_grown {B : Nat} {a w w' : World} {row : Option Nat} (h : Below B a w) (hg : w.grownBy w' row) (hB : B ≤ w.heap.size) (hr : ∀ k, row = some k → B ≤ k) : Below B a w' :=
  h.trans ⟨hg.os, hg.tape, hg.output, hg.size, fun k hk => hg.block k (Nat.lt_of_lt_of_le hk hB) (fun e => by have := hr k e.symm; omega)⟩
theorem map_take_succ {L : List Slo} {k : Nat} (hk : k < L.length) : (L.take (k + 1)).map (·.p) = (L.take k).map (·.p) ++ [(at_ L k).p] := by
  rw [List.take_add_one, at_some hk]
  simp
set_option maxHeartbeats 1000000 in
theorem prefixes_ (base : Nat) (A : Option Addr) (c : Nat) (L : List Slo) (w : World) (h : RowAt base A c L w) (hl : L.length ≤ 100) : Calls Try.prog 18 #[.slice A (L.length : Nat) c] w (PsOut w (L.map (·.p))) := by
  have H := Lib.hid h
  have W0 := Lib.hid (Below.refl w.heap.size w)
  obtain ⟨m, hm⟩ : ∃ m, L.length = m := ⟨_, rfl⟩
  have HM := Lib.hid hm
  rw [hm] at hl ⊢
  clear h hm
  go_enter Try.func18, Try.ntmps18
  go_wp2_with fail
  go_loopw [3, 4, 7] (fun v _ i w' => ∃ k : Nat, k ≤ m ∧ i = .int .i64 k ∧ POwn w.heap.size v ((L.take k).map (·.p)) w' ∧ Below w.heap.size w w') (fun _ _ i _ => m - (intOf i).toNat)
  case atStart => exact ⟨0, by omega, rfl, POwn.none_, W0.out⟩
  case round =>
    clear W0
    obtain ⟨k, hk, rfl, h1, h2⟩ := hrel
    have W1 := Lib.hid h2
    have O1 := Lib.hid h1
    clear h1 h2
    by_cases hlt : k < m
    · have hkL : k < L.length := by rw [HM.out]; exact hlt
      obtain ⟨q1, rfl, _, hy⟩ := (H.out.below W1.out).at_ hkL
      have HY := Lib.hid (hy.pre (at_some hkL))
      have HT := Lib.hid (map_take_succ hkL)
      have hlen : ((L.take k).map (·.p)).length = k := by rw [List.length_map, List.length_take]; omega
      clear hy
      generalize (L.take k).map (·.p) = ps at *
      generalize (at_ L k).p = p at *
      go_upto_region 6 with (first | (refine wpList_pre (by rfl) (.tmp 14) rfl _ _ rfl p HY.out ?_) | (refine wpList_onep rfl (.tmp 15) rfl p rfl ?_; have W2 : Hid (Below w.heap.size w (wr.alloc (.cells p.cs.toArray 25))) := W1.out.alloc W1.out.size _; have O2 := Lib.hid (O1.out.below ((Below.refl _ wr).alloc (Nat.le_refl _) (.cells p.cs.toArray 25))); have N2 := Lib.hid ((POwn.new wr p 0 (Nat.zero_le _)).shape); obtain ⟨v', w3, hrun, r1, r2, _⟩ := run_append_ps _ w.heap.size _ ps [p] O2.out (some ⟨wr.heap.size, 0, none⟩) 1 (by obtain ⟨A', c', e, hp, _⟩ := N2.out; cases e; exact hp) (fun e => by cases e) (fun ad e => by cases e; exact ⟨_, rfl⟩) (by rw [hlen]; simp; omega) W2.out.size; have W3 : Hid (Below w.heap.size w w3) := below_grown W2.out r2 W2.out.size (fun k hk => (O2.out.lt k hk).1); have R1 := Lib.hid r1; clear r1 r2) | (at_builtin; refine wpList_app rfl 50 (.tmp 10) (.tmp 16) rfl _ _ _ rfl rfl hrun ?_))
      go_wp2
      go_roundw
      case rel => exact ⟨k + 1, by omega, by go_num, by rw [HT.out]; exact R1.out, W3.out⟩
      case measure => simp [intOf]; omega
    · obtain rfl : k = m := by omega
      have e : L.take k = L := List.take_of_length_le (by rw [HM.out]; exact Nat.le_refl _)
      rw [e] at O1
      go_wp2
      go_ret
      exact ⟨_, rfl, O1.out, W1.out⟩
end Go.Proofs.Ytgmbkmlnoehomaa
