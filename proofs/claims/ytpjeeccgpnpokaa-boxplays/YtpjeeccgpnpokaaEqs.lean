/- What '==' of prefixes and slots answers; loads, stores and comparisons of them as steps of a walk. Conditions: those of each theorem. -/
import Derived.Test.YtpjeeccgpnpokaaSlots
namespace Go.Proofs.Ytpjeeccgpnpokaa
open Go.RowKit

theorem mapM_some {α β : Type} {f : α → Option β} {g : α → β} : ∀ (l : List α), (∀ x ∈ l, f x = some (g x)) → l.mapM f = some (l.map g)
  | [], _ => rfl
  | x :: r, h => by
    rw [List.mapM_cons, h x (by simp), mapM_some r (fun y hy => h y (by simp [hy]))]
    rfl
theorem byte_wf {z : Int} (h : byt z) : (Lit.int .u8 z).wf = true := by
  obtain ⟨k, rfl⟩ := Int.eq_ofNat_of_zero_le h.1
  have : k < 256 := by have := h.2; omega
  have h1 : IntKind.u8.min = 0 := rfl
  have h2 : IntKind.u8.max = 255 := rfl
  simp [Lit.wf]
  omega
theorem num_wf {z : Int} (h : num z) : (Lit.int .i64 z).wf = true := by
  obtain ⟨k, rfl⟩ := Int.eq_ofNat_of_zero_le h.1
  have := h.2
  have h1 : IntKind.i64.min = -9223372036854775808 := rfl
  have h2 : IntKind.i64.max = 9223372036854775807 := rfl
  simp [Lit.wf]
  omega
theorem cells5 : Try.prog.cellsOf 5 = 1 := by kernel_rfl
theorem lits_byte {z : Int} (h : byt z) (D : Nat) : Try.prog.keyLits (D + 1) 5 [.int .u8 z] = some [.int .u8 z] := by
  unfold Program.keyLits
  simp only [Try.underlying5]
  rw [if_pos ⟨trivial, byte_wf h⟩]
theorem lits_num {z : Int} (h : num z) (D : Nat) : Try.prog.keyLits (D + 1) 2 [.int .i64 z] = some [.int .i64 z] := by
  unfold Program.keyLits
  simp only [Try.underlying2]
  rw [if_pos ⟨trivial, num_wf h⟩]
theorem cel_length (s : List Int) : (cel s).length = s.length := by simp [cel]
theorem lits_seven {a b c d e f g : Int} (h : ∀ z ∈ [a, b, c, d, e, f, g], byt z) (D : Nat) : Try.prog.keyLits (D + 2) 29 (cel [a, b, c, d, e, f, g]) = some [.int .u8 a, .int .u8 b, .int .u8 c, .int .u8 d, .int .u8 e, .int .u8 f, .int .u8 g] := by
  have l0 := lits_byte (z := a) (h _ (by simp)) D
  have l1 := lits_byte (z := b) (h _ (by simp)) D
  have l2 := lits_byte (z := c) (h _ (by simp)) D
  have l3 := lits_byte (z := d) (h _ (by simp)) D
  have l4 := lits_byte (z := e) (h _ (by simp)) D
  have l5 := lits_byte (z := f) (h _ (by simp)) D
  have l6 := lits_byte (z := g) (h _ (by simp)) D
  unfold Program.keyLits
  simp only [Try.underlying29]
  rw [if_pos (by kernel_rfl), cells5]
  have e : List.range 7 = [0, 1, 2, 3, 4, 5, 6] := rfl
  rw [e]
  simp only [List.mapM_cons, List.mapM_nil, cel, List.map, Nat.mul_one, List.drop_zero, List.drop_succ_cons, List.take_succ_cons, List.take_zero, l0, l1, l2, l3, l4, l5, l6]
  rfl
def Pre.ls (p : Pre) : List Lit := [.bool p.v, .int .u8 p.a, .int .u8 p.b, .int .u8 p.c, .int .u8 p.d, .int .u8 p.e, .int .u8 p.f, .int .u8 p.g]
theorem lits_pre {p : Pre} (h : p.Ok) (D : Nat) : Try.prog.keyLits (D + 3) 31 p.cs = some p.ls := by
  obtain ⟨v, a, b, c, d, e, f, g⟩ := p
  have g1 := lits_seven h.h D
  have g0 : Try.prog.keyLits (D + 2) 4 [.bool v] = some [.bool v] := by unfold Program.keyLits; simp only [Try.underlying4]
  unfold Program.keyLits
  simp only [Try.underlying31]
  rw [if_pos ⟨by rw [cs8]; kernel_rfl, by kernel_rfl⟩]
  have f0 : ((Pre.mk v a b c d e f g).cs.drop 0).take (Try.prog.cellsOf 4) = [.bool v] := by rw [show Try.prog.cellsOf 4 = 1 by kernel_rfl]; rfl
  have f1 : ((Pre.mk v a b c d e f g).cs.drop 1).take (Try.prog.cellsOf 29) = cel [a, b, c, d, e, f, g] := by rw [show Try.prog.cellsOf 29 = 7 by kernel_rfl]; rfl
  simp only [List.mapM_cons, List.mapM_nil, f0, f1, g0, g1]
  rfl
theorem ls_pre {p q : Pre} (h : p.ls = q.ls) : p = q := by
  cases p
  cases q
  simpa [Pre.ls] using h
/-- Are two prefixes the same? -/
theorem eq_pre {p q : Pre} (h : p.Ok) (k : q.Ok) (w : World) : (Op.equalIn 10000 31 (.agg p.cs.toArray) (.agg q.cs.toArray)).run Try.prog w = .ok (decide (p = q)) w := by
  obtain ⟨r, hr, hi⟩ := run_equalIn_deep (P := Try.prog) 9990 10 31 (by kernel_rfl) w 3 3 (.agg p.cs.toArray) (.agg q.cs.toArray) _ _
    (by simp [Value.formed, Try.underlying31, cs8]; kernel_rfl) (by simp [Value.formed, Try.underlying31, cs8]; kernel_rfl) (lits_pre h 0) (lits_pre k 0)
  have e : r = decide (p = q) := by
    rw [Bool.eq_iff_iff, hi, decide_eq_true_eq]
    exact ⟨ls_pre, fun e => by rw [e]⟩
  rw [show (10000 : Nat) = 9990 + 10 by rfl, hr, e]
theorem size25 : (Try.prog.info? 31).map (·.size) = some 8 := by kernel_rfl
section
variable {ops : Array Oper} {rest : List Oper} {op : Oper} {a : Act} {w : World} {Q : Exit → Act → World → Prop} {S : World → Prop}
/-- A load of a prefix, of a slot. -/
theorem wpList_pre (hw : Region.wanted op (yielded ops a.tmps) = true) (x : Operand) (ho : op.op = .load 31 x) (b o : Nat) (hx : a.eval x = .pointer (some ⟨b, o, none⟩)) (p : Pre) (hc : w.rangeAt b o p.cs)
    (h : wpList Try.prog ops Q rest (a.put op.dst (.agg p.cs.toArray)) w) : wpList Try.prog ops Q (op :: rest) a w := by
  unfold wpList
  rw [if_pos hw]
  exact .inl (wp_load_mid 31 x ho b o hx p.cs _ hc Try.underlying31 rfl (by rw [cs8]; exact size25) h)
theorem yields_pre (hw : Region.wanted op (yielded ops a.tmps) = true) (x : Operand) (ho : op.op = .load 31 x) (b o : Nat) (hx : a.eval x = .pointer (some ⟨b, o, none⟩)) (p : Pre) (hS : ∀ W, S W → W.rangeAt b o p.cs) :
    YieldsIf Try.prog ops S op (.agg p.cs.toArray) a := yieldsIf_load_mid hw 31 x ho b o hx p.cs _ hS Try.underlying31 rfl (by rw [cs8]; exact size25)
/-- A comparison. -/
theorem wpList_eql (hw : Region.wanted op (yielded ops a.tmps) = true) (t : TypeId) (hg : Try.prog.eqGuardType Try.prog.depth t = false) (x y : Operand) (u : TypeId) (ho : op.op = .binOp .eql t x y u)
    (X Y : Array Value) (hx : a.eval x = .agg X) (hy : a.eval y = .agg Y) (r : Bool) (h : (Op.equalIn 10000 t (.agg X) (.agg Y)).run Try.prog w = .ok r w) (hk : wpList Try.prog ops Q rest (a.put op.dst (.bool r)) w) : wpList Try.prog ops Q (op :: rest) a w := by
  have h1 : (Op.equal t (.agg X) (.agg Y)).run Try.prog w = .ok r w := h
  unfold wpList
  rw [if_pos hw]
  refine .inl ?_
  unfold Oper.wp execOp
  simp [ho, hx, hy, eqGuard, binOp, hg, h1, Oper.upon]
  exact hk
theorem wpList_neq (hw : Region.wanted op (yielded ops a.tmps) = true) (t : TypeId) (hg : Try.prog.eqGuardType Try.prog.depth t = false) (x y : Operand) (u : TypeId) (ho : op.op = .binOp .neq t x y u)
    (X Y : Array Value) (hx : a.eval x = .agg X) (hy : a.eval y = .agg Y) (r : Bool) (h : (Op.equalIn 10000 t (.agg X) (.agg Y)).run Try.prog w = .ok r w) (hk : wpList Try.prog ops Q rest (a.put op.dst (.bool (!r))) w) : wpList Try.prog ops Q (op :: rest) a w := by
  have h1 : (Op.equal t (.agg X) (.agg Y)).run Try.prog w = .ok r w := h
  unfold wpList
  rw [if_pos hw]
  refine .inl ?_
  unfold Oper.wp execOp
  simp [ho, hx, hy, eqGuard, binOp, hg, h1, Oper.upon]
  exact hk
theorem yields_eql (hw : Region.wanted op (yielded ops a.tmps) = true) (t : TypeId) (hg : Try.prog.eqGuardType Try.prog.depth t = false) (x y : Operand) (u : TypeId) (ho : op.op = .binOp .eql t x y u)
    (X Y : Array Value) (hx : a.eval x = .agg X) (hy : a.eval y = .agg Y) (r : Bool) (h : ∀ w, (Op.equalIn 10000 t (.agg X) (.agg Y)).run Try.prog w = .ok r w) : YieldsIf Try.prog ops S op (.bool r) a :=
  .inl ⟨hw, fun w _ => by
    have h1 : (Op.equal t (.agg X) (.agg Y)).run Try.prog w = .ok r w := h w
    unfold execOp
    simp [ho, hx, hy, eqGuard, binOp, hg, h1]⟩
theorem yields_neq (hw : Region.wanted op (yielded ops a.tmps) = true) (t : TypeId) (hg : Try.prog.eqGuardType Try.prog.depth t = false) (x y : Operand) (u : TypeId) (ho : op.op = .binOp .neq t x y u)
    (X Y : Array Value) (hx : a.eval x = .agg X) (hy : a.eval y = .agg Y) (r : Bool) (h : ∀ w, (Op.equalIn 10000 t (.agg X) (.agg Y)).run Try.prog w = .ok r w) : YieldsIf Try.prog ops S op (.bool (!r)) a :=
  .inl ⟨hw, fun w _ => by
    have h1 : (Op.equal t (.agg X) (.agg Y)).run Try.prog w = .ok r w := h w
    unfold execOp
    simp [ho, hx, hy, eqGuard, binOp, hg, h1]⟩
end
theorem setRow_far (w : World) (g : Nat) (xs : Array Value) : Far (only g) w (w.setRow g xs) := by
  refine ⟨rfl, rfl, rfl, by simp [World.setRow], fun k _ hk => ?_⟩
  have hk' : k ≠ g := hk
  simp only [World.setRow, Array.getElem?_modify]
  rw [if_neg (by omega)]
theorem setRow_blk {w : World} {g : Nat} {t : TypeId} {cs : List Value} (h : Blk w g t cs) (xs : List Value) : Blk (w.setRow g xs.toArray) g t xs := by
  unfold Blk at h ⊢
  simp [World.setRow, Array.getElem?_modify, h]
theorem below_only {B g : Nat} {w0 w w' : World} (h : Below B w0 w) (hf : Far (only g) w w') (hg : B ≤ g) (hB : B ≤ w.heap.size) : Below B w0 w' :=
  h.trans (hf.below hB (fun k hk e => by unfold only at e; omega))
section
variable {ops : Array Oper} {rest : List Oper} {o : Oper} {a : Act} {Q : Exit → Act → World → Prop}
/-- Into a variable. -/
theorem wpList_lay {w : World} (hgd : o.guard = none) (ty : TypeId) (k : Nat) (hty : (Try.prog.info? ty).map (·.size) = some k) (x y : Operand) (ho : o.op = .store ty x y)
    (g : Nat) (xs : List Value) (hx : a.eval x = .pointer (some ⟨g, 0, none⟩)) (hy : a.eval y = .agg xs.toArray) (t : TypeId) (old : List Value) (hb : Blk w g t old) (hl : old.length = k) (hxl : xs.length = k) (h1 : xs.toArray.all (·.oneCell') = true)
    (h : ∀ w', Hid (Blk w' g t xs) → Hid (Far (only g) w w') → wpList Try.prog ops Q rest (a.put o.dst undef) w') : wpList Try.prog ops Q (o :: rest) a w :=
  wpList_store_row hgd ty x y ho g xs.toArray hx hy t old.toArray hb (by rw [List.size_toArray, hxl]; exact hty) (by rw [List.size_toArray, List.size_toArray, hl, hxl]) h1 (h _ (setRow_blk hb xs) (setRow_far w g _))
end
/-- append, its run known. -/
theorem wpList_app {w w' : World} {ops : Array Oper} {rest : List Oper} {o : Oper} {a : Act} {Q : Exit → Act → World → Prop} (hgd : o.guard = none) (tt : TypeId) (s x : Operand)
    (ho : o.op = .call { callee := .builtin .append, args := #[s, x], argTypes := #[tt, tt] }) (S X V : Value) (hs : a.eval s = S) (hx : a.eval x = X) (hrun : (Builtin.append_ #[tt, tt] o.type #[S, X]).run Try.prog w = .ok V w')
    (hK : wpList Try.prog ops Q rest (a.put o.dst V) w') : wpList Try.prog ops Q (o :: rest) a w := by
  refine wpList_plain hgd fun K hK' => ?_
  unfold Oper.wp
  simp [execOp, ho, resolve, invoke, builtin, hs, hx, hrun, Result.andThen]
  exact hK' _ _ hK
/-- A struct out of its parts. -/
theorem wpList_build {ops : Array Oper} {rest : List Oper} {o : Oper} {a : Act} {w : World} {Q : Exit → Act → World → Prop} (hgd : o.guard = none) (ty : TypeId) (parts : List (Nat × Operand)) (ho : o.op = .build ty parts.toArray)
    (vals : List (Nat × Value)) (hp : (parts.map fun px => (px.1, a.eval px.2)) = vals) (cells : List Value) (hb : (Instr.build ty vals.toArray).run Try.prog w = .ok (.agg cells.toArray) w)
    (h : wpList Try.prog ops Q rest (a.put o.dst (.agg cells.toArray)) w) : wpList Try.prog ops Q (o :: rest) a w := by
  subst hp
  refine wpList_plain hgd fun K hK => ?_
  unfold Oper.wp
  simp only [execOp, ho, List.map_toArray]
  simp [hb, Oper.upon]
  exact hK _ _ h
theorem yields_build {ops : Array Oper} {S : World → Prop} {op : Oper} {a : Act} (hw : Region.wanted op (yielded ops a.tmps) = true) (ty : TypeId) (parts : List (Nat × Operand)) (ho : op.op = .build ty parts.toArray)
    (vals : List (Nat × Value)) (hp : (parts.map fun px => (px.1, a.eval px.2)) = vals) (cells : List Value) (hb : ∀ w, (Instr.build ty vals.toArray).run Try.prog w = .ok (.agg cells.toArray) w) : YieldsIf Try.prog ops S op (.agg cells.toArray) a :=
  .inl ⟨hw, fun w _ => by
    subst hp
    simp only [execOp, ho, List.map_toArray]
    simp [hb]⟩
theorem run_pre0 (w : World) : (Instr.build 31 #[]).run Try.prog w = .ok (.agg pre0.cs.toArray) w := run_build w 31 _ _ (by kernel_rfl)
def pre6 : Pre := ⟨true, 0, 0, 0, 0, 0, 0, 0⟩
theorem run_pre6 (w : World) : (Instr.build 31 #[(0, .bool true)]).run Try.prog w = .ok (.agg pre6.cs.toArray) w := run_build w 31 _ _ (by kernel_rfl)
theorem whole_at {w : World} {g : Nat} {t : TypeId} {cs : List Value} (h : Blk w g t cs) : w.rangeAt g 0 cs := fun j v hv => by rw [h.cell, Nat.zero_add]; exact hv
theorem Blk.drew {w : World} {g : Nat} {t : TypeId} {cs : List Value} (h : Blk w g t cs) : Blk w.drew g t cs := h
theorem Blk.drewN {w : World} {g : Nat} {t : TypeId} {cs : List Value} (h : Blk w g t cs) (n : Nat) : Blk (w.drewN n) g t cs := h
theorem Blk.below {w w' : World} {g : Nat} {t : TypeId} {cs : List Value} (h : Blk w g t cs) (hb : Below w.heap.size w w') : Blk w' g t cs := h.far (Far.of_below hb nobody) (fun e => e)
theorem below_drewN {B : Nat} {a w : World} (h : Below B a w) (n : Nat) : Below B a (w.drewN n) := h.trans ⟨rfl, rfl, rfl, Nat.le_refl _, fun _ _ => rfl⟩
theorem ret_bool {a b : Bool} (h : a = b) : Ending.returned (.bool a) = .returned (.bool b) := by rw [h]
end Go.Proofs.Ytpjeeccgpnpokaa
