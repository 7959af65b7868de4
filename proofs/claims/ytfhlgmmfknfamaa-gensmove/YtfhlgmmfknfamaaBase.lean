/- Bytes as cells; steps of a walk: loads, stores, comparisons, builds, append. Conditions: those of each theorem. -/
import Derived.Test.YtfhlgmmfknfamaaRows
import Derived.Test.YtfhlgmmfknfamaaMem
import Derived.WalkKit
import Derived.WalkSpells
import Derived.WalkLawsBesides
import Derived.ProofKit
import Derived.OpenShut
import Derived.Deep.MidRow
import Derived.DeepKeys
import Derived.Laws.Tables
import Derived.Deep.DeepCutAuto
import Derived.RegionTactic
import Derived.Deep.RegionHeld
import Derived.Deep.RegionWith
import Derived.Deep.QuietTactic
import Derived.BigQuiet
import Derived.Lib.MinMax
namespace Go.Proofs.Ytfhlgmmfknfamaa
open Go.RowKit

/-- Bytes as cells. -/
def cel (s : List Int) : List Value := s.map (.int .u8)
abbrev byt (z : Int) : Prop := 0 ≤ z ∧ z ≤ 255
/-- A count. -/
abbrev num (z : Int) : Prop := 0 ≤ z ∧ z ≤ 4611686018427387904
theorem drop3 (a b c : List Value) {n : Nat} (h : a.length + b.length = n) : (a ++ (b ++ c)).drop n = c := by
  subst h
  rw [← List.append_assoc, ← List.length_append, List.drop_left]
theorem Blk.setCells {g : Nat} {t : TypeId} : ∀ (vs cs : List Value) (o : Nat) (w : World), Blk w g t cs → o + vs.length ≤ cs.length → Blk (w.setCells g o vs) g t (cs.take o ++ (vs ++ cs.drop (o + vs.length)))
  | [], cs, o, w, h, _ => by simpa [World.setCells] using h
  | v :: r, cs, o, w, h, hl => by
    simp at hl
    have := Blk.setCells r (cs.set o v) (o + 1) (w.setCell ⟨g, o, none⟩ v) (h.set_ o v) (by simp; omega)
    rw [World.setCells]
    have e1 : (cs.set o v).take (o + 1) = cs.take o ++ [v] := by
      apply List.ext_getElem?
      intro i
      simp only [List.getElem?_take, List.getElem?_set, List.getElem?_append, List.length_take]
      by_cases h1 : i < o
      · rw [if_pos (by omega), if_neg (by omega), if_pos (by omega), if_pos h1]
      · by_cases h2 : i = o
        · subst h2
          rw [if_pos (by omega), if_pos rfl, if_pos (by omega), if_neg (by omega), show i - min i cs.length = 0 by omega]
          rfl
        · rw [if_neg (by omega), if_neg (by omega), List.getElem?_eq_none (by simp; omega)]
    have e2 : (cs.set o v).drop (o + 1 + r.length) = cs.drop (o + (v :: r).length) := by
      apply List.ext_getElem?
      intro i
      simp only [List.getElem?_drop, List.getElem?_set, List.length_cons]
      rw [if_neg (by omega), show o + 1 + r.length + i = o + (r.length + 1) + i by omega]
    rw [e1, e2] at this
    simpa using this
theorem far_setCells {S : Nat → Prop} {g : Nat} : ∀ (vs : List Value) (o : Nat) (w0 w : World), Far S w0 w → (g < w0.heap.size → S g) → Far S w0 (w.setCells g o vs)
  | [], _, _, _, h, _ => h
  | v :: r, o, w0, w, h, hg => far_setCells r (o + 1) w0 (w.setCell ⟨g, o, none⟩ v) (h.set_ (p := ⟨g, o, none⟩) hg v) hg

def only (g : Nat) : Nat → Prop := fun k => k = g
def nobody : Nat → Prop := fun _ => False
theorem mapM_some {α β : Type} {f : α → Option β} {g : α → β} : ∀ (l : List α), (∀ x ∈ l, f x = some (g x)) → l.mapM f = some (l.map g)
  | [], _ => rfl
  | x :: r, h => by
    rw [List.mapM_cons, h x (by simp), mapM_some r (fun y hy => h y (by simp [hy]))]
    rfl
theorem byte_wf {z : Int} (h : byt z) : (Lit.int .u8 z).wf = true := by
  obtain ⟨k, rfl⟩ := Int.eq_ofNat_of_zero_le h.1
  have : k < 256 := by have := h.2; omega
  have h1 : IntKind.u8.min = 0 := rfl
  have h2 : IntKind.u8.max = 255 := rfl
  simp [Lit.wf]
  omega
theorem num_wf {z : Int} (h : num z) : (Lit.int .i64 z).wf = true := by
  obtain ⟨k, rfl⟩ := Int.eq_ofNat_of_zero_le h.1
  have := h.2
  have h1 : IntKind.i64.min = -9223372036854775808 := rfl
  have h2 : IntKind.i64.max = 9223372036854775807 := rfl
  simp [Lit.wf]
  omega
theorem cells5 : Try.prog.cellsOf 5 = 1 := by kernel_rfl
theorem lits_byte {z : Int} (h : byt z) (D : Nat) : Try.prog.keyLits (D + 1) 5 [.int .u8 z] = some [.int .u8 z] := by
  unfold Program.keyLits
  simp only [Try.underlying5]
  rw [if_pos ⟨trivial, byte_wf h⟩]
theorem lits_num {z : Int} (h : num z) (D : Nat) : Try.prog.keyLits (D + 1) 2 [.int .i64 z] = some [.int .i64 z] := by
  unfold Program.keyLits
  simp only [Try.underlying2]
  rw [if_pos ⟨trivial, num_wf h⟩]
theorem cel_length (s : List Int) : (cel s).length = s.length := by simp [cel]
section
variable {ops : Array Oper} {rest : List Oper} {op : Oper} {a : Act} {w : World} {Q : Exit → Act → World → Prop} {S : World → Prop}
/-- A comparison. -/
theorem wpList_eql (hw : Region.wanted op (yielded ops a.tmps) = true) (t : TypeId) (hg : Try.prog.eqGuardType Try.prog.depth t = false) (x y : Operand) (u : TypeId) (ho : op.op = .binOp .eql t x y u)
    (X Y : Array Value) (hx : a.eval x = .agg X) (hy : a.eval y = .agg Y) (r : Bool) (h : (Op.equalIn 10000 t (.agg X) (.agg Y)).run Try.prog w = .ok r w) (hk : wpList Try.prog ops Q rest (a.put op.dst (.bool r)) w) : wpList Try.prog ops Q (op :: rest) a w := by
  have h1 : (Op.equal t (.agg X) (.agg Y)).run Try.prog w = .ok r w := h
  unfold wpList
  rw [if_pos hw]
  refine .inl ?_
  unfold Oper.wp execOp
  simp [ho, hx, hy, eqGuard, binOp, hg, h1, Oper.upon]
  exact hk
theorem wpList_neq (hw : Region.wanted op (yielded ops a.tmps) = true) (t : TypeId) (hg : Try.prog.eqGuardType Try.prog.depth t = false) (x y : Operand) (u : TypeId) (ho : op.op = .binOp .neq t x y u)
    (X Y : Array Value) (hx : a.eval x = .agg X) (hy : a.eval y = .agg Y) (r : Bool) (h : (Op.equalIn 10000 t (.agg X) (.agg Y)).run Try.prog w = .ok r w) (hk : wpList Try.prog ops Q rest (a.put op.dst (.bool (!r))) w) : wpList Try.prog ops Q (op :: rest) a w := by
  have h1 : (Op.equal t (.agg X) (.agg Y)).run Try.prog w = .ok r w := h
  unfold wpList
  rw [if_pos hw]
  refine .inl ?_
  unfold Oper.wp execOp
  simp [ho, hx, hy, eqGuard, binOp, hg, h1, Oper.upon]
  exact hk
theorem yields_eql (hw : Region.wanted op (yielded ops a.tmps) = true) (t : TypeId) (hg : Try.prog.eqGuardType Try.prog.depth t = false) (x y : Operand) (u : TypeId) (ho : op.op = .binOp .eql t x y u)
    (X Y : Array Value) (hx : a.eval x = .agg X) (hy : a.eval y = .agg Y) (r : Bool) (h : ∀ w, (Op.equalIn 10000 t (.agg X) (.agg Y)).run Try.prog w = .ok r w) : YieldsIf Try.prog ops S op (.bool r) a :=
  .inl ⟨hw, fun w _ => by
    have h1 : (Op.equal t (.agg X) (.agg Y)).run Try.prog w = .ok r w := h w
    unfold execOp
    simp [ho, hx, hy, eqGuard, binOp, hg, h1]⟩
theorem yields_neq (hw : Region.wanted op (yielded ops a.tmps) = true) (t : TypeId) (hg : Try.prog.eqGuardType Try.prog.depth t = false) (x y : Operand) (u : TypeId) (ho : op.op = .binOp .neq t x y u)
    (X Y : Array Value) (hx : a.eval x = .agg X) (hy : a.eval y = .agg Y) (r : Bool) (h : ∀ w, (Op.equalIn 10000 t (.agg X) (.agg Y)).run Try.prog w = .ok r w) : YieldsIf Try.prog ops S op (.bool (!r)) a :=
  .inl ⟨hw, fun w _ => by
    have h1 : (Op.equal t (.agg X) (.agg Y)).run Try.prog w = .ok r w := h w
    unfold execOp
    simp [ho, hx, hy, eqGuard, binOp, hg, h1]⟩
end
theorem setRow_far (w : World) (g : Nat) (xs : Array Value) : Far (only g) w (w.setRow g xs) := by
  refine ⟨rfl, rfl, rfl, by simp [World.setRow], fun k _ hk => ?_⟩
  have hk' : k ≠ g := hk
  simp only [World.setRow, Array.getElem?_modify]
  rw [if_neg (by omega)]
theorem setRow_blk {w : World} {g : Nat} {t : TypeId} {cs : List Value} (h : Blk w g t cs) (xs : List Value) : Blk (w.setRow g xs.toArray) g t xs := by
  unfold Blk at h ⊢
  simp [World.setRow, Array.getElem?_modify, h]
theorem below_only {B g : Nat} {w0 w w' : World} (h : Below B w0 w) (hf : Far (only g) w w') (hg : B ≤ g) (hB : B ≤ w.heap.size) : Below B w0 w' :=
  h.trans (hf.below hB (fun k hk e => by unfold only at e; omega))
section
variable {ops : Array Oper} {rest : List Oper} {o : Oper} {a : Act} {Q : Exit → Act → World → Prop}
/-- Into a variable. -/
theorem wpList_lay {w : World} (hgd : o.guard = none) (ty : TypeId) (k : Nat) (hty : (Try.prog.info? ty).map (·.size) = some k) (x y : Operand) (ho : o.op = .store ty x y)
    (g : Nat) (xs : List Value) (hx : a.eval x = .pointer (some ⟨g, 0, none⟩)) (hy : a.eval y = .agg xs.toArray) (t : TypeId) (old : List Value) (hb : Blk w g t old) (hl : old.length = k) (hxl : xs.length = k) (h1 : xs.toArray.all (·.oneCell') = true)
    (h : ∀ w', Hid (Blk w' g t xs) → Hid (Far (only g) w w') → wpList Try.prog ops Q rest (a.put o.dst undef) w') : wpList Try.prog ops Q (o :: rest) a w :=
  wpList_store_row hgd ty x y ho g xs.toArray hx hy t old.toArray hb (by rw [List.size_toArray, hxl]; exact hty) (by rw [List.size_toArray, List.size_toArray, hl, hxl]) h1 (h _ (setRow_blk hb xs) (setRow_far w g _))
end
/-- append, its run known. -/
theorem wpList_app {w w' : World} {ops : Array Oper} {rest : List Oper} {o : Oper} {a : Act} {Q : Exit → Act → World → Prop} (hgd : o.guard = none) (tt : TypeId) (s x : Operand)
    (ho : o.op = .call { callee := .builtin .append, args := #[s, x], argTypes := #[tt, tt] }) (S X V : Value) (hs : a.eval s = S) (hx : a.eval x = X) (hrun : (Builtin.append_ #[tt, tt] o.type #[S, X]).run Try.prog w = .ok V w')
    (hK : wpList Try.prog ops Q rest (a.put o.dst V) w') : wpList Try.prog ops Q (o :: rest) a w := by
  refine wpList_plain hgd fun K hK' => ?_
  unfold Oper.wp
  simp [execOp, ho, resolve, invoke, builtin, hs, hx, hrun, Result.andThen]
  exact hK' _ _ hK
/-- A struct out of its parts. -/
theorem wpList_build {ops : Array Oper} {rest : List Oper} {o : Oper} {a : Act} {w : World} {Q : Exit → Act → World → Prop} (hgd : o.guard = none) (ty : TypeId) (parts : List (Nat × Operand)) (ho : o.op = .build ty parts.toArray)
    (vals : List (Nat × Value)) (hp : (parts.map fun px => (px.1, a.eval px.2)) = vals) (cells : List Value) (hb : (Instr.build ty vals.toArray).run Try.prog w = .ok (.agg cells.toArray) w)
    (h : wpList Try.prog ops Q rest (a.put o.dst (.agg cells.toArray)) w) : wpList Try.prog ops Q (o :: rest) a w := by
  subst hp
  refine wpList_plain hgd fun K hK => ?_
  unfold Oper.wp
  simp only [execOp, ho, List.map_toArray]
  simp [hb, Oper.upon]
  exact hK _ _ h
theorem yields_build {ops : Array Oper} {S : World → Prop} {op : Oper} {a : Act} (hw : Region.wanted op (yielded ops a.tmps) = true) (ty : TypeId) (parts : List (Nat × Operand)) (ho : op.op = .build ty parts.toArray)
    (vals : List (Nat × Value)) (hp : (parts.map fun px => (px.1, a.eval px.2)) = vals) (cells : List Value) (hb : ∀ w, (Instr.build ty vals.toArray).run Try.prog w = .ok (.agg cells.toArray) w) : YieldsIf Try.prog ops S op (.agg cells.toArray) a :=
  .inl ⟨hw, fun w _ => by
    subst hp
    simp only [execOp, ho, List.map_toArray]
    simp [hb]⟩
theorem whole_at {w : World} {g : Nat} {t : TypeId} {cs : List Value} (h : Blk w g t cs) : w.rangeAt g 0 cs := fun j v hv => by rw [h.cell, Nat.zero_add]; exact hv
theorem Blk.drew {w : World} {g : Nat} {t : TypeId} {cs : List Value} (h : Blk w g t cs) : Blk w.drew g t cs := h
theorem Blk.drewN {w : World} {g : Nat} {t : TypeId} {cs : List Value} (h : Blk w g t cs) (n : Nat) : Blk (w.drewN n) g t cs := h
theorem Blk.below {w w' : World} {g : Nat} {t : TypeId} {cs : List Value} (h : Blk w g t cs) (hb : Below w.heap.size w w') : Blk w' g t cs := h.far (Far.of_below hb nobody) (fun e => e)
theorem below_drewN {B : Nat} {a w : World} (h : Below B a w) (n : Nat) : Below B a (w.drewN n) := h.trans ⟨rfl, rfl, rfl, Nat.le_refl _, fun _ _ => rfl⟩
theorem ret_bool {a b : Bool} (h : a = b) : Ending.returned (.bool a) = .returned (.bool b) := by rw [h]
section
variable {ops : Array Oper} {rest : List Oper} {o : Oper} {a : Act} {w : World} {Q : Exit → Act → World → Prop}
theorem wpList_loadE (hw : Region.wanted o (yielded ops a.tmps) = true) (t : TypeId) (d : TypeDesc) (hd : Try.prog.underlying t = some d) (h0 : d.isRow = true) (x : Operand) (ho : o.op = .load t x) (b k : Nat) (hx : a.eval x = .pointer (some ⟨b, k, none⟩)) (cs : List Value) (hc : w.rangeAt b k cs) (hs : (Try.prog.info? t).map (·.size) = some cs.length)
    (h : wpList Try.prog ops Q rest (a.put o.dst (.agg cs.toArray)) w) : wpList Try.prog ops Q (o :: rest) a w := by
  unfold wpList
  rw [if_pos hw]
  exact .inl (wp_load_mid t x ho b k hx cs d hc hd h0 hs h)
end
section
variable {ops : Array Oper} {rest : List Oper} {o : Oper} {a : Act} {w : World} {Q : Exit → Act → World → Prop}
theorem yields_loadE {S : World → Prop} (hw : Region.wanted o (yielded ops a.tmps) = true) (t : TypeId) (d : TypeDesc) (hd : Try.prog.underlying t = some d) (h0 : d.isRow = true) (x : Operand) (ho : o.op = .load t x) (b k : Nat) (hx : a.eval x = .pointer (some ⟨b, k, none⟩)) (cs : List Value) (hS : ∀ W, S W → W.rangeAt b k cs) (hs : (Try.prog.info? t).map (·.size) = some cs.length) :
    YieldsIf Try.prog ops S o (.agg cs.toArray) a := yieldsIf_load_mid hw t x ho b k hx cs _ hS hd h0 hs
end
theorem wpList_buildG {ops : Array Oper} {rest : List Oper} {o : Oper} {a : Act} {w : World} {Q : Exit → Act → World → Prop} (hw : Region.wanted o (yielded ops a.tmps) = true) (ty : TypeId) (parts : List (Nat × Operand)) (ho : o.op = .build ty parts.toArray)
    (vals : List (Nat × Value)) (hp : (parts.map fun px => (px.1, a.eval px.2)) = vals) (cells : List Value) (hb : (Instr.build ty vals.toArray).run Try.prog w = .ok (.agg cells.toArray) w)
    (h : wpList Try.prog ops Q rest (a.put o.dst (.agg cells.toArray)) w) : wpList Try.prog ops Q (o :: rest) a w := by
  subst hp
  unfold wpList
  rw [if_pos hw]
  refine .inl ?_
  unfold Oper.wp
  simp only [execOp, ho, List.map_toArray]
  simp [hb, Oper.upon]
  exact h
/-- What something answers that only reads, or makes memory of its own. -/
def Ans (v : Value) (w : World) (e : Ending) (w' : World) : Prop := e = .returned v ∧ Below w.heap.size w w'
end Go.Proofs.Ytfhlgmmfknfamaa
