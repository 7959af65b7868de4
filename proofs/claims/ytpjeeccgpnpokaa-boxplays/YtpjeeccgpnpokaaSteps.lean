/- Steps that make rows of the document's entries, and its box as cells. Conditions: those of each theorem. -/
import Derived.Test.YtpjeeccgpnpokaaFinds
import Derived.Test.YtpjeeccgpnpokaaDocTake
import Derived.Test.YtpjeeccgpnpokaaLess
namespace Go.Proofs.Ytpjeeccgpnpokaa
open Go.RowKit

theorem info77 (r b : Int) : (Try.prog.info? 77).map (fun i => (i.zero, i.size, i.bytes)) = some (some (.agg (ent0.cs 0 0).toArray), (kEnt r b).n, 48) := by kernel_rfl
theorem info31 : (Try.prog.info? 31).map (fun i => (i.zero, i.size, i.bytes)) = some (some (.agg pre0.cs.toArray), kPre.n, 8) := by kernel_rfl
theorem size77 (r b : Int) (s : Ent) : (Try.prog.info? 77).map (·.size) = some (s.cs r b).length := by kernel_rfl
theorem size37 : (Try.prog.info? 37).map (·.size) = some 5 := by kernel_rfl
theorem run_emp (tt t : TypeId) (z : Value) (n b : Nat) (ht : Try.prog.underlying tt = some (.slice t)) (hz : (Try.prog.info? t).map (fun i => (i.zero, i.size, i.bytes)) = some (some z, n, b)) (w : World) :
    (Instr.buildSlice tt 0 #[]).run Try.prog w = .ok (.slice (some ⟨w.heap.size, 0, none⟩) 0 0) (w.alloc (.cells #[] t)) := by
  obtain ⟨i, hi, hh⟩ := Option.map_eq_some_iff.1 hz
  simp only [Prod.mk.injEq] at hh
  have e1 : ∀ W : World, (sizeOf t).run Try.prog W = .ok n W := fun W => by simp [sizeOf, typeInfo, hi, hh.2.1]
  simp [go_sem, Instr.buildSlice, run_underlying ht, e1]
theorem run_onep (s : Pre) (w : World) : (Instr.buildSlice 33 1 #[(0, .agg s.cs.toArray)]).run Try.prog w = .ok (.slice (some ⟨w.heap.size, 0, none⟩) 1 1) (w.alloc (.cells s.cs.toArray 31)) := by
  obtain ⟨i, hi, hh⟩ := Option.map_eq_some_iff.1 info31
  simp only [Prod.mk.injEq] at hh
  have e1 : ∀ W : World, (sizeOf 31).run Try.prog W = .ok 8 W := fun W => by simp [sizeOf, typeInfo, hi, hh.2.1]; rfl
  have e2 : ∀ W : World, (zeroValue 31).run Try.prog W = .ok (.agg pre0.cs.toArray) W := fun W => by simp [zeroValue, typeInfo, hi, hh.1]
  obtain ⟨v, a, b, c, d, e, f, g⟩ := s
  simp [go_sem, Instr.buildSlice, run_underlying Try.underlying33, e1, e2, Pre.cs, Pre.bs, cel, pre0]
theorem run_onee (r b : Int) (s : Ent) (w : World) : (Instr.buildSlice 35 1 #[(0, .agg (s.cs r b).toArray)]).run Try.prog w = .ok (.slice (some ⟨w.heap.size, 0, none⟩) 1 1) (w.alloc (.cells (s.cs r b).toArray 77)) := by
  obtain ⟨i, hi, hh⟩ := Option.map_eq_some_iff.1 (info77 r b)
  simp only [Prod.mk.injEq] at hh
  have e1 : ∀ W : World, (sizeOf 77).run Try.prog W = .ok 13 W := fun W => by simp [sizeOf, typeInfo, hi, hh.2.1]; rfl
  have e2 : ∀ W : World, (zeroValue 77).run Try.prog W = .ok (.agg (ent0.cs 0 0).toArray) W := fun W => by simp [zeroValue, typeInfo, hi, hh.1]
  obtain ⟨⟨v, a, b', c, d, e, f, g⟩, x, y, z⟩ := s
  simp [go_sem, Instr.buildSlice, run_underlying Try.underlying35, e1, e2, Pre.cs, Ent.cs, Pre.bs, cel, pre0, ent0]
section
variable {w w' : World} {ops : Array Oper} {o : Oper} {a : Act} {K : Act → World → Prop} {Q : Exit → Act → World → Prop} {E : Prop} {rest : List Oper}
/-- append, its run known, in a region that draws. -/
theorem step_app (hw : Region.wanted o (yielded ops a.tmps) = true) (tt : TypeId) (s x : Operand)
    (ho : o.op = .call { callee := .builtin .append, args := #[s, x], argTypes := #[tt, tt] }) (S X V : Value) (hs : a.eval s = S) (hx : a.eval x = X) (hrun : (Builtin.append_ #[tt, tt] o.type #[S, X]).run Try.prog w = .ok V w')
    (hK : K (a.put o.dst V) w') : if Region.wanted o (yielded ops a.tmps) = true then Oper.wp Try.prog o a w K Q else E := by
  rw [if_pos hw]
  unfold Oper.wp
  simp [execOp, ho, resolve, invoke, builtin, hs, hx, hrun, Result.andThen]
  exact hK
/-- An empty slice, a slice of one. -/
theorem step_emp (hw : Region.wanted o (yielded ops a.tmps) = true) (ho : o.op = .buildSlice 35 0 #[]) (hK : K (a.put o.dst (.slice (some ⟨w.heap.size, 0, none⟩) 0 0)) (w.alloc (.cells #[] 77))) : if Region.wanted o (yielded ops a.tmps) = true then Oper.wp Try.prog o a w K Q else E := by
  rw [if_pos hw]
  unfold Oper.wp
  have hrun := run_emp 35 77 _ _ _ Try.underlying35 (info77 0 0) w
  simp [execOp, ho, hrun, Result.andThen, Oper.upon]
  exact hK
theorem step_onee (hw : Region.wanted o (yielded ops a.tmps) = true) (x : Operand) (ho : o.op = .buildSlice 35 1 #[(0, x)]) (r b : Int) (s : Ent) (hx : a.eval x = .agg (s.cs r b).toArray) (hK : K (a.put o.dst (.slice (some ⟨w.heap.size, 0, none⟩) 1 1)) (w.alloc (.cells (s.cs r b).toArray 77))) : if Region.wanted o (yielded ops a.tmps) = true then Oper.wp Try.prog o a w K Q else E := by
  rw [if_pos hw]
  unfold Oper.wp
  have hrun := run_onee r b s w
  simp [execOp, ho, hx, hrun, Result.andThen, Oper.upon]
  exact hK
theorem wpList_onee (hgd : o.guard = none) (x : Operand) (ho : o.op = .buildSlice 35 1 #[(0, x)]) (r b : Int)
    (s : Ent) (hx : a.eval x = .agg (s.cs r b).toArray) (hK : wpList Try.prog ops Q rest (a.put o.dst (.slice (some ⟨w.heap.size, 0, none⟩) 1 1)) (w.alloc (.cells (s.cs r b).toArray 77))) : wpList Try.prog ops Q (o :: rest) a w := by
  refine wpList_plain hgd fun K hK' => ?_
  unfold Oper.wp
  have hrun := run_onee r b s w
  simp [execOp, ho, hx, hrun, Result.andThen, Oper.upon]
  exact hK' _ _ hK
theorem wpList_onep (hgd : o.guard = none) (x : Operand) (ho : o.op = .buildSlice 33 1 #[(0, x)])
    (s : Pre) (hx : a.eval x = .agg s.cs.toArray) (hK : wpList Try.prog ops Q rest (a.put o.dst (.slice (some ⟨w.heap.size, 0, none⟩) 1 1)) (w.alloc (.cells s.cs.toArray 31))) : wpList Try.prog ops Q (o :: rest) a w := by
  refine wpList_plain hgd fun K hK' => ?_
  unfold Oper.wp
  have hrun := run_onep s w
  simp [execOp, ho, hx, hrun, Result.andThen, Oper.upon]
  exact hK' _ _ hK
theorem wpList_loadE (hw : Region.wanted o (yielded ops a.tmps) = true) (t : TypeId) (d : TypeDesc) (hd : Try.prog.underlying t = some d) (h0 : d.isRow = true) (x : Operand) (ho : o.op = .load t x) (b k : Nat) (hx : a.eval x = .pointer (some ⟨b, k, none⟩)) (cs : List Value) (hc : w.rangeAt b k cs) (hs : (Try.prog.info? t).map (·.size) = some cs.length)
    (h : wpList Try.prog ops Q rest (a.put o.dst (.agg cs.toArray)) w) : wpList Try.prog ops Q (o :: rest) a w := by
  unfold wpList
  rw [if_pos hw]
  exact .inl (wp_load_mid t x ho b k hx cs d hc hd h0 hs h)
theorem yields_loadE {S : World → Prop} (hw : Region.wanted o (yielded ops a.tmps) = true) (t : TypeId) (d : TypeDesc) (hd : Try.prog.underlying t = some d) (h0 : d.isRow = true) (x : Operand) (ho : o.op = .load t x) (b k : Nat) (hx : a.eval x = .pointer (some ⟨b, k, none⟩)) (cs : List Value) (hS : ∀ W, S W → W.rangeAt b k cs) (hs : (Try.prog.info? t).map (·.size) = some cs.length) :
    YieldsIf Try.prog ops S o (.agg cs.toArray) a := yieldsIf_load_mid hw t x ho b k hx cs _ hS hd h0 hs
end
/-- It lies in memory made since. -/
def Fresh (w w' : World) (A : Option Addr) : Prop := ∀ ad, A = some ad → w.heap.size ≤ ad.block ∧ ad.block < w'.heap.size
theorem Fresh.own {A : Option Addr} {w w' : World} {v : Value} {base : Nat} (h : v.ownBlock = A.map (·.block)) (hl : ∀ k, v.ownBlock = some k → base ≤ k ∧ k < w'.heap.size) (hb : w.heap.size ≤ base) : Fresh w w' A := fun ad e => by
  subst e
  have := hl _ h
  exact ⟨Nat.le_trans hb this.1, this.2⟩
theorem Fresh.later {A : Option Addr} {w w' w'' : World} (h : Fresh w w' A) (hb : w'.heap.size ≤ w''.heap.size) : Fresh w w'' A := fun ad e => ⟨(h ad e).1, Nat.lt_of_lt_of_le (h ad e).2 hb⟩
theorem Fresh.from_ {A : Option Addr} {w w1 w' : World} (h : Fresh w1 w' A) (hb : w.heap.size ≤ w1.heap.size) : Fresh w w' A := fun ad e => ⟨Nat.le_trans hb (h ad e).1, (h ad e).2⟩
theorem elem35 : Try.prog.underlying 35 = some (.slice (Try.prog.elem 35)) := by kernel_rfl
theorem size35 (W : World) : (sizeOf (Try.prog.elem 35)).run Try.prog W = .ok 13 W := by kernel_rfl
theorem run_upto35 {A : Option Addr} {n c k : Nat} (W : World) (hk : k ≤ c) : (Instr.slice 35 (.slice A n c) none (some (.int .i64 k)) none).run Try.prog W = .ok (.slice A k c) W := by
  rw [run_slice_h (P := Try.prog) (w := W) 35 A n c elem35 .i64 (k : Int) (by omega) (by omega), size35]
  simp [sliced, go_sem]
theorem run_from35 {A : Option Addr} {n c k : Nat} (W : World) (hk : k ≤ n) :
    (Instr.slice 35 (.slice A n c) (some (.int .i64 (k : Int))) none none).run Try.prog W = .ok (.slice (if c = k then A else A.map (·.add (k * 13))) (n - k) (c - k)) W := by
  rw [run_slice_l (P := Try.prog) (w := W) 35 A n c elem35 .i64 (k : Int) (by omega) (by omega), size35]
  simp [sliced, go_sem]
/-- A slice of a slice, its run known. -/
theorem yields_slice {ops : Array Oper} {S : World → Prop} {op : Oper} {a : Act} (hw : Region.wanted op (yielded ops a.tmps) = true) (x : Operand) (lo hi mx : Option Operand) (ho : op.op = .slice 35 x lo hi mx)
    (X : Value) (L H M : Option Value) (hx : a.eval x = X) (hL : lo.map a.eval = L) (hH : hi.map a.eval = H) (hM : mx.map a.eval = M) (V : Value) (hb : ∀ w, (Instr.slice 35 X L H M).run Try.prog w = .ok V w) : YieldsIf Try.prog ops S op V a :=
  .inl ⟨hw, fun w _ => by
    subst hx hL hH hM
    simp only [execOp, ho]
    simp [run_sliceAt_slice (h := elem35), hb]⟩
/-- What a function answers that makes a slice of the document's things. -/
def DRes {α : Type} (K : Kin α) (L : List α) (w : World) (e : Ending) (w' : World) : Prop :=
  ∃ A c, e = .returned (.slice A L.length c) ∧ L.length ≤ c ∧ Els K w' A L ∧ Below w.heap.size w w'
/-! The document's box. -/
structure Cfg where
  room : Int
  term : Int
  r : Int
  b : Int
structure Cfg.Ok (C : Cfg) : Prop where
  term : 1 ≤ C.term ∧ C.term ≤ 4611686018427387903
  r : 0 ≤ C.r ∧ C.r ≤ 1073741824
  b : 1 ≤ C.b ∧ C.b ≤ 1073741824
  room : 1 ≤ C.room ∧ C.room ≤ 64
/-- Its cells. -/
def bcs (A : Option Addr) (n c : Nat) (C : Cfg) : List Value := [.slice A n c, .int .i64 C.room, .int .i64 C.term, .int .i64 C.r, .int .i64 C.b]
theorem bcs_each (A : Option Addr) (n c : Nat) (C : Cfg) : ∀ u ∈ bcs A n c C, u.oneCell' = true := by
  intro u hu
  simp only [bcs, List.mem_cons, List.not_mem_nil, or_false] at hu
  rcases hu with h | h | h | h | h <;> (rw [h]; rfl)
abbrev bx (A : Option Addr) (n c : Nat) (C : Cfg) : Value := .agg (bcs A n c C).toArray
theorem load_bx {w : World} {g : Nat} {t : TypeId} {xs : List Value} (h : Blk w g t xs) (hl : xs.length = 5) : (loadVar 37 ⟨g, 0, none⟩).run Try.prog w = .ok (.agg xs.toArray) w :=
  run_loadVar_row w g t 37 xs.toArray (0, 0) _ h Try.underlying37 rfl (by rw [List.size_toArray, hl]; exact size37)
/-- A moment, 0 at least. -/
def clm (x : Int) : Int := if x < 0 then 0 else x
theorem clm_bd {x : Int} (h : x ≤ 9223372036854775807) : 0 ≤ clm x ∧ clm x ≤ 9223372036854775807 := by unfold clm; split <;> omega
/-- Without those whose term is over. -/
def swp (L : List Ent) (x : Int) : List Ent := L.filter fun e => decide (clm x < e.u)
/-- What is right of an entry. -/
structure Right (C : Cfg) (e : Ent) : Prop where
  p : e.p.Ok
  u : -9223372036854775808 ≤ e.u ∧ e.u ≤ 9223372036854775807
  t : Ok C.r (C.b * 1048576) e.l e.m
def Oks (C : Cfg) (L : List Ent) : Prop := ∀ e ∈ L, Right C e
theorem Oks.swp {C : Cfg} {L : List Ent} (h : Oks C L) (x : Int) : Oks C (swp L x) := fun e he => h e (List.mem_filter.1 he).1
theorem swp_len (L : List Ent) (x : Int) : (swp L x).length ≤ L.length := List.length_filter_le _ _
/-- What answers a box. -/
def BRes (L : List Ent) (C : Cfg) (f : Value → Value) (w : World) (e : Ending) (w' : World) : Prop :=
  ∃ A c, e = .returned (f (bx A L.length c C)) ∧ L.length ≤ c ∧ Els (kEnt C.r C.b) w' A L ∧ Below w.heap.size w w' ∧ Fresh w w' A
/-- Behind the head of a call of it: the box that came, swept, a prefix, the answer's place. -/
structure Hd (w : World) (S : List Ent) (C : Cfg) (p : Pre) (A : Option Addr) (c : Nat) (W : World) : Prop where
  b : Blk W w.heap.size 37 (bcs A S.length c C)
  p : Blk W (w.heap.size + 1) 31 p.cs
  r : Blk W (w.heap.size + 2) 37 (bcs none 0 0 ⟨0, 0, 0, 0⟩)
  els : Els (kEnt C.r C.b) W A S
  cap : S.length ≤ c
  be : Below w.heap.size w W
  fr : ∀ ad, A = some ad → w.heap.size + 3 ≤ ad.block ∧ ad.block < W.heap.size
section
variable {w W W' : World} {S S' : List Ent} {C : Cfg} {p : Pre} {A A' : Option Addr} {c c' : Nat}
theorem Hd.below (h : Hd w S C p A c W) (hb : Below W.heap.size W W') : Hd w S C p A c W' := ⟨h.b.below hb, h.p.below hb, h.r.below hb, h.els.below hb, h.cap, h.be.trans (hb.mono h.be.size), fun ad e => ⟨(h.fr ad e).1, Nat.lt_of_lt_of_le (h.fr ad e).2 hb.size⟩⟩
theorem Hd.size (h : Hd w S C p A c W) : w.heap.size + 3 ≤ W.heap.size := h.r.lt
/-- Another list in its stead. -/
theorem Hd.turn (h : Hd w S C p A c W) (hf : Far (only w.heap.size) W W') (hb : Blk W' w.heap.size 37 (bcs A' S'.length c' C)) (he : Els (kEnt C.r C.b) W A' S') (hc : S'.length ≤ c') (hfr : ∀ ad, A' = some ad → w.heap.size + 3 ≤ ad.block ∧ ad.block < W.heap.size) : Hd w S' C p A' c' W' :=
  ⟨hb, h.p.far hf (fun e => by have e2 : w.heap.size + 1 = w.heap.size := e; omega), h.r.far hf (fun e => by have e2 : w.heap.size + 2 = w.heap.size := e; omega), he.far hf (fun q o e n => by have := (hfr _ e).1; have e2 : q = w.heap.size := n; simp at this; omega), hc,
    h.be.trans (hf.below h.be.size (fun k hk e => by have e2 : k = w.heap.size := e; omega)), fun ad e => ⟨(hfr ad e).1, Nat.lt_of_lt_of_le (hfr ad e).2 hf.size⟩⟩
/-- .. and the answer. -/
theorem Hd.fin (h : Hd w S C p A c W) (hf : Far (only (w.heap.size + 2)) W W') (f : Value → Value) : BRes S C f w (.returned (f (bx A S.length c C))) W' :=
  ⟨A, c, rfl, h.cap, h.els.far hf (fun q o e n => by have := (h.fr _ e).1; have e2 : q = w.heap.size + 2 := n; simp at this; omega), h.be.trans (hf.below h.be.size (fun k hk e => by have e2 : k = w.heap.size + 2 := e; omega)),
    fun ad e => ⟨by have := (h.fr ad e).1; omega, Nat.lt_of_lt_of_le (h.fr ad e).2 hf.size⟩⟩
/-- Three new blocks. -/
theorem three_new (A : Option Addr) (n c : Nat) (C : Cfg) (p : Pre) (w : World) : Blk (((w.alloc (.cells (bcs A n c C).toArray 37)).alloc (.cells p.cs.toArray 31)).alloc (.cells #[.slice none 0 0, .int .i64 0, .int .i64 0, .int .i64 0, .int .i64 0] 37)) w.heap.size 37 (bcs A n c C) ∧ Blk (((w.alloc (.cells (bcs A n c C).toArray 37)).alloc (.cells p.cs.toArray 31)).alloc (.cells #[.slice none 0 0, .int .i64 0, .int .i64 0, .int .i64 0, .int .i64 0] 37)) (w.heap.size + 1) 31 p.cs ∧
    Blk (((w.alloc (.cells (bcs A n c C).toArray 37)).alloc (.cells p.cs.toArray 31)).alloc (.cells #[.slice none 0 0, .int .i64 0, .int .i64 0, .int .i64 0, .int .i64 0] 37)) (w.heap.size + 2) 37 (bcs none 0 0 ⟨0, 0, 0, 0⟩) ∧ Below w.heap.size w (((w.alloc (.cells (bcs A n c C).toArray 37)).alloc (.cells p.cs.toArray 31)).alloc (.cells #[.slice none 0 0, .int .i64 0, .int .i64 0, .int .i64 0, .int .i64 0] 37)) := by
  refine ⟨((Blk.new w 37 _).alloc _).alloc _, ?_, ?_, (((Below.refl _ w).alloc (Nat.le_refl _) _).alloc (by simp) _).alloc (by simp; omega) _⟩
  · have := (Blk.new (w.alloc (.cells (bcs A n c C).toArray 37)) 31 p.cs).alloc (.cells #[.slice none 0 0, .int .i64 0, .int .i64 0, .int .i64 0, .int .i64 0] 37)
    rwa [show (w.alloc (.cells (bcs A n c C).toArray 37)).heap.size = w.heap.size + 1 by simp] at this
  · have := Blk.new ((w.alloc (.cells (bcs A n c C).toArray 37)).alloc (.cells p.cs.toArray 31)) 37 (bcs none 0 0 ⟨0, 0, 0, 0⟩)
    rwa [show ((w.alloc (.cells (bcs A n c C).toArray 37)).alloc (.cells p.cs.toArray 31)).heap.size = w.heap.size + 2 by simp] at this
theorem Hd.first {x1 x2 x3 : World} (n1 : Blk x1 (w.heap.size + 1) 31 p.cs) (n2 : Blk x1 (w.heap.size + 2) 37 (bcs none 0 0 ⟨0, 0, 0, 0⟩)) (n0 : Below w.heap.size w x1) (hb : Below x1.heap.size x1 x2) (he : Els (kEnt C.r C.b) x2 A S) (hc : S.length ≤ c) (hfr : Fresh x1 x2 A)
    (hB : Blk x3 w.heap.size 37 (bcs A S.length c C)) (hF : Far (only w.heap.size) x2 x3) : Hd w S C p A c x3 :=
  have hz := n2.lt
  ⟨hB, (n1.below hb).far hF (fun e => by have e2 : w.heap.size + 1 = w.heap.size := e; omega), (n2.below hb).far hF (fun e => by have e2 : w.heap.size + 2 = w.heap.size := e; omega), he.far hF (fun q o e n => by have := (hfr _ e).1; have e2 : q = w.heap.size := n; simp at this; omega), hc,
    (n0.trans (hb.mono n0.size)).trans (hF.below (by have := n0.size; have := hb.size; omega) (fun k hk e => by have e2 : k = w.heap.size := e; omega)), fun ad e => ⟨by have := (hfr ad e).1; omega, Nat.lt_of_lt_of_le (hfr ad e).2 hF.size⟩⟩
end
end Go.Proofs.Ytpjeeccgpnpokaa
