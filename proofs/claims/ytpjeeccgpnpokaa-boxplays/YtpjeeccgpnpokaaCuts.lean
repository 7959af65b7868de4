/- Slices of rows; copy, clear and slicing as steps of a walk, their run known. Conditions: those of each theorem. -/
import Derived.Test.YtpjeeccgpnpokaaKs
namespace Go.Proofs.Ytpjeeccgpnpokaa
open Go.RowKit

section
variable {tt : TypeId} {q n c : Nat}
theorem run_upT (ht : Try.prog.underlying tt = some (.slice (Try.prog.elem tt))) (hz : ∀ W, (sizeOf (Try.prog.elem tt)).run Try.prog W = .ok 10 W) (A : Option Addr) (h : Int) (k : Nat) (hh : h = (k : Int)) (hk : k ≤ c) (W : World) :
    (Instr.slice tt (.slice A n c) none (some (.int .i64 h)) none).run Try.prog W = .ok (.slice A k c) W := by
  subst hh
  rw [run_slice_h (P := Try.prog) (w := W) tt A n c ht .i64 (k : Int) (by omega) (by omega), hz]
  simp [sliced, go_sem]
theorem run_fromT (ht : Try.prog.underlying tt = some (.slice (Try.prog.elem tt))) (hz : ∀ W, (sizeOf (Try.prog.elem tt)).run Try.prog W = .ok 10 W) (h : Int) (k : Nat) (hh : h = (k : Int)) (hk : k ≤ n) (hc : k < c) (W : World) :
    (Instr.slice tt (.slice (some ⟨q, 0, none⟩) n c) (some (.int .i64 h)) none none).run Try.prog W = .ok (.slice (some ⟨q, k * 10, none⟩) (n - k) (c - k)) W := by
  subst hh
  rw [run_slice_l (P := Try.prog) (w := W) tt (some ⟨q, 0, none⟩) n c ht .i64 (k : Int) (by omega) (by omega), hz]
  have : ¬ c = k := by omega
  simp [sliced, go_sem, this, Addr.add_at]
/-- .. where nothing may be left. -/
theorem run_fromT' (ht : Try.prog.underlying tt = some (.slice (Try.prog.elem tt))) (hz : ∀ W, (sizeOf (Try.prog.elem tt)).run Try.prog W = .ok 10 W) (h : Int) (k : Nat) (hh : h = (k : Int)) (hk : k ≤ n) (W : World) :
    (Instr.slice tt (.slice (some ⟨q, 0, none⟩) n c) (some (.int .i64 h)) none none).run Try.prog W = .ok (.slice (some ⟨q, if c = k then 0 else k * 10, none⟩) (n - k) (c - k)) W := by
  subst hh
  rw [run_slice_l (P := Try.prog) (w := W) tt (some ⟨q, 0, none⟩) n c ht .i64 (k : Int) (by omega) (by omega), hz]
  simp only [sliced, Int.toNat_natCast, Result.andThen]
  split <;> simp [Addr.add_at]
theorem run_betT (ht : Try.prog.underlying tt = some (.slice (Try.prog.elem tt))) (hz : ∀ W, (sizeOf (Try.prog.elem tt)).run Try.prog W = .ok 10 W) (lo hi : Int) (k m : Nat) (h1 : lo = (k : Int)) (h2 : hi = (m : Int)) (hk : k ≤ m) (hm : m ≤ c) (hc : k < c) (W : World) :
    (Instr.slice tt (.slice (some ⟨q, 0, none⟩) n c) (some (.int .i64 lo)) (some (.int .i64 hi)) none).run Try.prog W = .ok (.slice (some ⟨q, k * 10, none⟩) (m - k) (c - k)) W := by
  subst h1 h2
  rw [run_slice_lh (P := Try.prog) (w := W) tt (some ⟨q, 0, none⟩) n c ht .i64 .i64 (k : Int) (m : Int) (by omega) (by omega) (by omega), hz]
  have : ¬ c = k := by omega
  simp [sliced, go_sem, this, Addr.add_at]
/-- Its bounds alone. -/
theorem run_cutT (ht : Try.prog.underlying tt = some (.slice (Try.prog.elem tt))) (hz : ∀ W, (sizeOf (Try.prog.elem tt)).run Try.prog W = .ok 10 W) (A : Option Addr) (lo hi mx : Int) (k m l : Nat) (h1 : lo = (k : Int)) (h2 : hi = (m : Int)) (h3 : mx = (l : Int)) (hk : k ≤ m) (hm : m ≤ l) (hc : l ≤ c) :
    ∃ V, ∀ W, (Instr.slice tt (.slice A n c) (some (.int .i64 lo)) (some (.int .i64 hi)) (some (.int .i64 mx))).run Try.prog W = .ok V W := by
  subst h1 h2 h3
  refine ⟨sliced A k m l 10, fun W => ?_⟩
  rw [run_slice_lhm (P := Try.prog) (w := W) tt A n c ht .i64 .i64 .i64 (k : Int) (m : Int) (l : Int) (by omega) (by omega) (by omega) (by omega), hz]
  rfl
theorem run_cutT1 (ht : Try.prog.underlying tt = some (.slice (Try.prog.elem tt))) (hz : ∀ W, (sizeOf (Try.prog.elem tt)).run Try.prog W = .ok 10 W) (A : Option Addr) (lo : Int) (k : Nat) (h1 : lo = (k : Int)) (hk : k ≤ n) :
    ∃ V, ∀ W, (Instr.slice tt (.slice A n c) (some (.int .i64 lo)) none none).run Try.prog W = .ok V W := by
  subst h1
  refine ⟨sliced A k n c 10, fun W => ?_⟩
  rw [run_slice_l (P := Try.prog) (w := W) tt A n c ht .i64 (k : Int) (by omega) (by omega), hz]
  rfl
end
section
variable {w w' : World} {ops : Array Oper} {rest : List Oper} {o : Oper} {a : Act} {Q : Exit → Act → World → Prop}
/-- A slice of a slice, its run known. -/
theorem wpList_sliceT (hgd : o.guard = none) (tt : TypeId) (ht : Try.prog.underlying tt = some (.slice (Try.prog.elem tt))) (x : Operand) (lo hi mx : Option Operand) (ho : o.op = .slice tt x lo hi mx)
    (X : Value) (L H M : Option Value) (hx : a.eval x = X) (hL : lo.map a.eval = L) (hH : hi.map a.eval = H) (hM : mx.map a.eval = M) (V : Value) (hb : (Instr.slice tt X L H M).run Try.prog w = .ok V w) (hK : wpList Try.prog ops Q rest (a.put o.dst V) w) : wpList Try.prog ops Q (o :: rest) a w := by
  subst hx hL hH hM
  refine wpList_plain hgd fun K hK' => ?_
  unfold Oper.wp
  simp only [execOp, ho]
  simp [run_sliceAt_slice (h := ht), hb, Oper.upon]
  exact hK' _ _ hK
theorem yields_sliceT {S : World → Prop} (hw : Region.wanted o (yielded ops a.tmps) = true) (tt : TypeId) (ht : Try.prog.underlying tt = some (.slice (Try.prog.elem tt))) (x : Operand) (lo hi mx : Option Operand) (ho : o.op = .slice tt x lo hi mx)
    (X : Value) (L H M : Option Value) (hx : a.eval x = X) (hL : lo.map a.eval = L) (hH : hi.map a.eval = H) (hM : mx.map a.eval = M) (V : Value) (hb : ∀ w, (Instr.slice tt X L H M).run Try.prog w = .ok V w) : YieldsIf Try.prog ops S o V a :=
  .inl ⟨hw, fun w _ => by
    subst hx hL hH hM
    simp only [execOp, ho]
    simp [run_sliceAt_slice (h := ht), hb]⟩
/-- copy, its run known. -/
theorem wpList_copyT (hgd : o.guard = none) (tt : TypeId) (s x : Operand) (ho : o.op = .call { callee := .builtin .copy, args := #[s, x], argTypes := #[tt, tt] }) (S X V : Value) (hs : a.eval s = S) (hx : a.eval x = X)
    (hrun : (Builtin.copy_ #[tt, tt] o.type #[S, X]).run Try.prog w = .ok V w') (hK : wpList Try.prog ops Q rest (a.put o.dst V) w') : wpList Try.prog ops Q (o :: rest) a w := by
  refine wpList_plain hgd fun K hK' => ?_
  unfold Oper.wp
  simp [execOp, ho, resolve, invoke, builtin, hs, hx, hrun, Result.andThen]
  exact hK' _ _ hK
theorem step_copyT {K : Act → World → Prop} {E : Prop} (hw : Region.wanted o (yielded ops a.tmps) = true) (tt : TypeId) (s x : Operand) (ho : o.op = .call { callee := .builtin .copy, args := #[s, x], argTypes := #[tt, tt] }) (S X V : Value) (hs : a.eval s = S) (hx : a.eval x = X)
    (hrun : (Builtin.copy_ #[tt, tt] o.type #[S, X]).run Try.prog w = .ok V w') (hK : K (a.put o.dst V) w') : if Region.wanted o (yielded ops a.tmps) = true then Oper.wp Try.prog o a w K Q else E := by
  rw [if_pos hw]
  unfold Oper.wp
  simp [execOp, ho, resolve, invoke, builtin, hs, hx, hrun, Result.andThen]
  exact hK
/-- clear, its run known. -/
theorem wpList_clearT (hgd : o.guard = none) (tt : TypeId) (s : Operand) (ho : o.op = .call { callee := .builtin .clear, args := #[s], argTypes := #[tt] }) (S V : Value) (hs : a.eval s = S)
    (hrun : (Builtin.clear_ #[tt] o.type #[S]).run Try.prog w = .ok V w') (hK : wpList Try.prog ops Q rest (a.put o.dst V) w') : wpList Try.prog ops Q (o :: rest) a w := by
  refine wpList_plain hgd fun K hK' => ?_
  unfold Oper.wp
  simp [execOp, ho, resolve, invoke, builtin, hs, hrun, Result.andThen]
  exact hK' _ _ hK
end
theorem Els.of_row {K : Kin Ent} {w : World} {q : Nat} {t : TypeId} {X : List Ent} (h : Blk w q t (K.flat X)) : Els K w (some ⟨q, 0, none⟩) X := Els.of_flat (fun j u hj => by rw [Nat.zero_add, h.cell]; exact hj)
theorem Els.tail {K : Kin Ent} {w : World} {q o : Nat} {L : List Ent} (h : Els K w (some ⟨q, o, none⟩) L) (k : Nat) : Els K w (some ⟨q, o + k * K.n, none⟩) (L.drop k) := fun j s hj => by
  rw [List.getElem?_drop] at hj
  obtain ⟨q', o', e, hr⟩ := h _ _ hj
  cases e
  refine ⟨_, _, rfl, ?_⟩
  rw [show o + k * K.n + j * K.n = o + (k + j) * K.n by rw [Nat.add_mul]; omega]
  exact hr
/-- What slices.Insert leaves. -/
def InsOut (K : Kin Ent) (tE : TypeId) (q c : Nat) (L : List Ent) (w : World) (e : Ending) (w' : World) : Prop := e = .returned (.slice (some ⟨q, 0, none⟩) (L.length : Nat) c) ∧ Blk w' q tE (K.flat (L ++ zs (c - L.length))) ∧ Far (only q) w w'
/-- Two slices in two blocks. -/
theorem run_overT (f : FuncId) (fn : Func) (tt e : TypeId) (hf : Try.prog.funcs[f]? = some fn) (hname : (fn.name == "runtime.NumGoroutine") = false) (hb : fn.body.isNone = true) (hn : Extern.findNext fn = none) (he : Extern.find fn = some (Extern.SlicesOverlaps.overlaps #[tt, tt] #[4]))
    (ht : Try.prog.underlying tt = some (.slice e)) (hz : ∀ w, (sizeOf e).run Try.prog w = .ok 10 w) (a b o la ca lb cb : Nat) (w : World) (A B : List Value) (tA tB : TypeId) (ha : Blk w a tA A) (hbb : Blk w b tB B) (hne : a ≠ b) (hB : B.length ≠ 0) :
    (callFunc f #[.slice (some ⟨a, 0, none⟩) la ca, .slice (some ⟨b, o, none⟩) lb cb]).run Try.prog w = .ok (.value (.bool false)) w := by
  rw [run_callFunc_extern hf hname hb hn he]
  have hs : ∀ {g : Nat} {t : TypeId} {cs : List Value}, Blk w g t cs → w.shape? g = some (t, cs.length) := fun h => by
    unfold Blk at h
    simp [World.shape?, h]
  rw [Go.Lib.run_overlaps_apart (P := Try.prog) w tt 4 e ht 10 hz ⟨a, 0, none⟩ ⟨b, o, none⟩ la ca lb cb hne tA tB _ _ (hs ha) (hs hbb) hB (ha.frozen 0) (ha.frozen _)]
  rfl
end Go.Proofs.Ytpjeeccgpnpokaa
