/- Steps that make rows; what the document's Put and Del answer. Conditions: those of each theorem. -/
import Derived.Test.YteddnbabgahhfaaFinds
namespace Go.Proofs.Yteddnbabgahhfaa
open Go.RowKit

theorem info43 : (Try.prog.info? 43).map (fun i => (i.zero, i.size, i.bytes)) = some (some (.agg ent0.cs.toArray), kEnt.n, 16) := by kernel_rfl
theorem info31 : (Try.prog.info? 31).map (fun i => (i.zero, i.size, i.bytes)) = some (some (.agg pre0.cs.toArray), kPre.n, 8) := by kernel_rfl
theorem run_emp (tt t : TypeId) (z : Value) (n b : Nat) (ht : Try.prog.underlying tt = some (.slice t)) (hz : (Try.prog.info? t).map (fun i => (i.zero, i.size, i.bytes)) = some (some z, n, b)) (w : World) :
    (Instr.buildSlice tt 0 #[]).run Try.prog w = .ok (.slice (some ⟨w.heap.size, 0, none⟩) 0 0) (w.alloc (.cells #[] t)) := by
  obtain ⟨i, hi, hh⟩ := Option.map_eq_some_iff.1 hz
  simp only [Prod.mk.injEq] at hh
  have e1 : ∀ W : World, (sizeOf t).run Try.prog W = .ok n W := fun W => by simp [sizeOf, typeInfo, hi, hh.2.1]
  simp [go_sem, Instr.buildSlice, run_underlying ht, e1]
theorem run_onep (s : Pre) (w : World) : (Instr.buildSlice 33 1 #[(0, .agg s.cs.toArray)]).run Try.prog w = .ok (.slice (some ⟨w.heap.size, 0, none⟩) 1 1) (w.alloc (.cells s.cs.toArray 31)) := by
  obtain ⟨i, hi, hh⟩ := Option.map_eq_some_iff.1 info31
  simp only [Prod.mk.injEq] at hh
  have e1 : ∀ W : World, (sizeOf 31).run Try.prog W = .ok 8 W := fun W => by simp [sizeOf, typeInfo, hi, hh.2.1]; rfl
  have e2 : ∀ W : World, (zeroValue 31).run Try.prog W = .ok (.agg pre0.cs.toArray) W := fun W => by simp [zeroValue, typeInfo, hi, hh.1]
  obtain ⟨v, a, b, c, d, e, f, g⟩ := s
  simp [go_sem, Instr.buildSlice, run_underlying Try.underlying33, e1, e2, Pre.cs, Pre.bs, cel, pre0]
theorem run_onee (s : Ent) (w : World) : (Instr.buildSlice 36 1 #[(0, .agg s.cs.toArray)]).run Try.prog w = .ok (.slice (some ⟨w.heap.size, 0, none⟩) 1 1) (w.alloc (.cells s.cs.toArray 43)) := by
  obtain ⟨i, hi, hh⟩ := Option.map_eq_some_iff.1 info43
  simp only [Prod.mk.injEq] at hh
  have e1 : ∀ W : World, (sizeOf 43).run Try.prog W = .ok 9 W := fun W => by simp [sizeOf, typeInfo, hi, hh.2.1]; rfl
  have e2 : ∀ W : World, (zeroValue 43).run Try.prog W = .ok (.agg ent0.cs.toArray) W := fun W => by simp [zeroValue, typeInfo, hi, hh.1]
  obtain ⟨⟨v, a, b, c, d, e, f, g⟩, x⟩ := s
  simp [go_sem, Instr.buildSlice, run_underlying Try.underlying36, e1, e2, Pre.cs, Ent.cs, Pre.bs, cel, pre0, ent0]
section
variable {w w' : World} {ops : Array Oper} {o : Oper} {a : Act} {K : Act → World → Prop} {Q : Exit → Act → World → Prop} {E : Prop} {rest : List Oper}
/-- append, its run known, in a region that draws. -/
theorem step_app (hw : Region.wanted o (yielded ops a.tmps) = true) (tt : TypeId) (s x : Operand)
    (ho : o.op = .call { callee := .builtin .append, args := #[s, x], argTypes := #[tt, tt] }) (S X V : Value) (hs : a.eval s = S) (hx : a.eval x = X) (hrun : (Builtin.append_ #[tt, tt] o.type #[S, X]).run Try.prog w = .ok V w')
    (hK : K (a.put o.dst V) w') : if Region.wanted o (yielded ops a.tmps) = true then Oper.wp Try.prog o a w K Q else E := by
  rw [if_pos hw]
  unfold Oper.wp
  simp [execOp, ho, resolve, invoke, builtin, hs, hx, hrun, Result.andThen]
  exact hK
/-- An empty slice, a slice of one. -/
theorem step_emp (hw : Region.wanted o (yielded ops a.tmps) = true) (ho : o.op = .buildSlice 36 0 #[]) (hK : K (a.put o.dst (.slice (some ⟨w.heap.size, 0, none⟩) 0 0)) (w.alloc (.cells #[] 43))) : if Region.wanted o (yielded ops a.tmps) = true then Oper.wp Try.prog o a w K Q else E := by
  rw [if_pos hw]
  unfold Oper.wp
  have hrun := run_emp 36 43 _ _ _ Try.underlying36 info43 w
  simp [execOp, ho, hrun, Result.andThen, Oper.upon]
  exact hK
theorem step_onee (hw : Region.wanted o (yielded ops a.tmps) = true) (x : Operand) (ho : o.op = .buildSlice 36 1 #[(0, x)]) (s : Ent) (hx : a.eval x = .agg s.cs.toArray) (hK : K (a.put o.dst (.slice (some ⟨w.heap.size, 0, none⟩) 1 1)) (w.alloc (.cells s.cs.toArray 43))) : if Region.wanted o (yielded ops a.tmps) = true then Oper.wp Try.prog o a w K Q else E := by
  rw [if_pos hw]
  unfold Oper.wp
  have hrun := run_onee s w
  simp [execOp, ho, hx, hrun, Result.andThen, Oper.upon]
  exact hK
theorem wpList_onep (hgd : o.guard = none) (x : Operand) (ho : o.op = .buildSlice 33 1 #[(0, x)])
    (s : Pre) (hx : a.eval x = .agg s.cs.toArray) (hK : wpList Try.prog ops Q rest (a.put o.dst (.slice (some ⟨w.heap.size, 0, none⟩) 1 1)) (w.alloc (.cells s.cs.toArray 31))) : wpList Try.prog ops Q (o :: rest) a w := by
  refine wpList_plain hgd fun K hK' => ?_
  unfold Oper.wp
  have hrun := run_onep s w
  simp [execOp, ho, hx, hrun, Result.andThen, Oper.upon]
  exact hK' _ _ hK
end
theorem elem36 : Try.prog.underlying 36 = some (.slice (Try.prog.elem 36)) := by kernel_rfl
/-- A slice of a slice, its run known. -/
theorem yields_slice {ops : Array Oper} {S : World → Prop} {op : Oper} {a : Act} (hw : Region.wanted op (yielded ops a.tmps) = true) (x : Operand) (lo hi mx : Option Operand) (ho : op.op = .slice 36 x lo hi mx)
    (X : Value) (L H M : Option Value) (hx : a.eval x = X) (hL : lo.map a.eval = L) (hH : hi.map a.eval = H) (hM : mx.map a.eval = M) (V : Value) (hb : ∀ w, (Instr.slice 36 X L H M).run Try.prog w = .ok V w) : YieldsIf Try.prog ops S op V a :=
  .inl ⟨hw, fun w _ => by
    subst hx hL hH hM
    simp only [execOp, ho]
    simp [run_sliceAt_slice (h := elem36), hb]⟩
/-- What a function answers that makes a slice of the document's things. -/
def DRes {α : Type} (K : Kin α) (L : List α) (w : World) (e : Ending) (w' : World) : Prop :=
  ∃ A c, e = .returned (.slice A L.length c) ∧ L.length ≤ c ∧ Els K w' A L ∧ Below w.heap.size w w'
/-- The slice as it came, or one of its own. -/
def Frm (A0 : Option Addr) (w w' : World) (A : Option Addr) : Prop := A = A0 ∨ ∀ ad, A = some ad → w.heap.size ≤ ad.block ∧ ad.block < w'.heap.size
theorem Frm.own {A0 A : Option Addr} {w w' : World} {v : Value} {base : Nat} (h : v.ownBlock = A.map (·.block)) (hl : ∀ k, v.ownBlock = some k → base ≤ k ∧ k < w'.heap.size) (hb : w.heap.size ≤ base) : Frm A0 w w' A := .inr fun ad e => by
  subst e
  have := hl _ h
  exact ⟨Nat.le_trans hb this.1, this.2⟩
/-- .. and where it lies. -/
def DResF {α : Type} (K : Kin α) (A0 : Option Addr) (L : List α) (w : World) (e : Ending) (w' : World) : Prop :=
  ∃ A c, e = .returned (.slice A L.length c) ∧ L.length ≤ c ∧ Els K w' A L ∧ Below w.heap.size w w' ∧ Frm A0 w w' A
theorem run_upto36 {A : Option Addr} {n c k : Nat} (W : World) (hk : k ≤ c) : (Instr.slice 36 (.slice A n c) none (some (.int .i64 k)) none).run Try.prog W = .ok (.slice A k c) W := by
  have h := run_slice_h (P := Try.prog) (w := W) 36 A n c (by kernel_rfl) .i64 (k : Int) (by omega) (by omega)
  rw [h]
  simp [sliced, go_sem]
theorem run_full36 {A : Option Addr} {n c k : Nat} (W : World) (hk : k ≤ c) : (Instr.slice 36 (.slice A n c) none (some (.int .i64 k)) (some (.int .i64 k))).run Try.prog W = .ok (.slice A k k) W := by
  have h := run_slice_hm (P := Try.prog) (w := W) 36 A n c (by kernel_rfl) .i64 .i64 (k : Int) (k : Int) (by omega) (by omega) (by omega)
  rw [h]
  simp [sliced, go_sem]
theorem run_from36 {A : Option Addr} {n c k : Nat} (W : World) (hk : k ≤ n) :
    (Instr.slice 36 (.slice A n c) (some (.int .i64 (k : Int))) none none).run Try.prog W = .ok (.slice (if c = k then A else A.map (·.add (k * 9))) (n - k) (c - k)) W := by
  have h := run_slice_l (P := Try.prog) (w := W) 36 A n c (by kernel_rfl) .i64 (k : Int) (by omega) (by omega)
  rw [h]
  simp [sliced, go_sem]
end Go.Proofs.Yteddnbabgahhfaa
