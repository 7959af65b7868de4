/- What a packet tells, as the cells of a struct; words for a struct that is written whole, or a part of it. Conditions: those of each theorem. -/
import Derived.Test.YtebpemknmcgamaaIns
import Derived.BigQuiet
import Derived.Deep.RegionHeld3
import Derived.Deep.MidRow
import Derived.Deep.WholeRow
import Derived.Laws.Rows
import Derived.Deep.CutBlock
import Derived.ChangeKeysEq
import Derived.Deep.DeepCutAuto
namespace Go.Proofs.Ytebpemknmcgamaa
open Go.RowKit

/-- A struct's cells. -/
def net (p : Int) (s d : List Int) (B : Value) (f : Bool) : List Value := .int .u8 p :: (cel s ++ (cel d ++ [B, .bool f]))
/-- An address. -/
def Sixteen (s : List Int) : Prop := s.length = 16
/-- All zero. -/
def zz : List Int := List.replicate 16 0
theorem zz_sixteen : Sixteen zz := rfl
section
variable {p : Int} {s d : List Int} {B : Value} {f : Bool}
theorem net_length (hs : Sixteen s) (hd : Sixteen d) : (net p s d B f).length = 35 := by
  unfold Sixteen at *
  simp [net, cel_length, hs, hd]
theorem net_0 : (net p s d B f)[0]? = some (.int .u8 p) := rfl
theorem net_33 (hs : Sixteen s) (hd : Sixteen d) : (net p s d B f)[33]? = some B := by
  unfold Sixteen at *
  simp [net, cel, hs, hd]
theorem net_34 (hs : Sixteen s) (hd : Sixteen d) : (net p s d B f)[34]? = some (.bool f) := by
  unfold Sixteen at *
  simp [net, cel, hs, hd]
theorem net_src {w : World} {g : Nat} {t : TypeId} (h : Blk w g t (net p s d B f)) : w.rangeAt g 1 (cel s) := by
  intro j v hv
  have hj := (List.getElem?_eq_some_iff.1 hv).1
  rw [h.cell, net, Nat.add_comm, List.getElem?_cons_succ, List.getElem?_append_left hj]
  exact hv
theorem net_dst (hs : Sixteen s) {w : World} {g : Nat} {t : TypeId} (h : Blk w g t (net p s d B f)) : w.rangeAt g 17 (cel d) := by
  intro j v hv
  have hj := (List.getElem?_eq_some_iff.1 hv).1
  unfold Sixteen at hs
  rw [h.cell, net, show 17 + j = (16 + j) + 1 by omega, List.getElem?_cons_succ, List.getElem?_append_right (by rw [cel_length, hs]; omega), cel_length, hs, show 16 + j - 16 = j by omega, List.getElem?_append_left hj]
  exact hv
theorem net_one (hB : B.oneCell' = true) : (net p s d B f).toArray.all (·.oneCell') = true := by
  rw [Array.all_eq_true_iff_forall_mem]
  intro x hx
  rcases List.mem_cons.1 (List.mem_toArray.1 hx) with rfl | hx
  · rfl
  · rcases List.mem_append.1 hx with hx | hx
    · exact cel_one s x hx
    · rcases List.mem_append.1 hx with hx | hx
      · exact cel_one d x hx
      · rcases List.mem_cons.1 hx with rfl | hx
        · exact hB
        · rcases List.mem_cons.1 hx with rfl | hx
          · rfl
          · cases hx
end
theorem net_zero : net 0 zz zz (.slice none 0 0) false = [.int .u8 0, .int .u8 0, .int .u8 0, .int .u8 0, .int .u8 0, .int .u8 0, .int .u8 0, .int .u8 0, .int .u8 0, .int .u8 0, .int .u8 0, .int .u8 0, .int .u8 0, .int .u8 0, .int .u8 0, .int .u8 0, .int .u8 0, .int .u8 0, .int .u8 0, .int .u8 0, .int .u8 0, .int .u8 0, .int .u8 0, .int .u8 0, .int .u8 0, .int .u8 0, .int .u8 0, .int .u8 0, .int .u8 0, .int .u8 0, .int .u8 0, .int .u8 0, .int .u8 0, .slice none 0 0, .bool false] := rfl
theorem size26 : (Try.prog.info? 72).map (·.size) = some 35 := by kernel_rfl
theorem size30 : (Try.prog.info? 54).map (·.size) = some 35 := by kernel_rfl
theorem size24 : (Try.prog.info? 24).map (·.size) = some 16 := by kernel_rfl
/-- Into a new variable. -/
theorem store26 (p : Int) (s d : List Int) (A : Option Addr) (n c : Nat) (f : Bool) (hs : Sixteen s) (hd : Sixteen d) (x : World) : (storeCells ⟨x.heap.size, 0, none⟩ (net p s d (.slice A n c) f)).run Try.prog (x.alloc (.cells #[.int .u8 0, .int .u8 0, .int .u8 0, .int .u8 0, .int .u8 0, .int .u8 0, .int .u8 0, .int .u8 0, .int .u8 0, .int .u8 0, .int .u8 0, .int .u8 0, .int .u8 0, .int .u8 0, .int .u8 0, .int .u8 0, .int .u8 0, .int .u8 0, .int .u8 0, .int .u8 0, .int .u8 0, .int .u8 0, .int .u8 0, .int .u8 0, .int .u8 0, .int .u8 0, .int .u8 0, .int .u8 0, .int .u8 0, .int .u8 0, .int .u8 0, .int .u8 0, .int .u8 0, .slice none 0 0, .bool false] 72)) = .ok () (x.alloc (.cells (net p s d (.slice A n c) f).toArray 72)) :=
  run_storeCells_new (P := Try.prog) x 72 _ (net p s d (.slice A n c) f).toArray (by rw [List.size_toArray, net_length hs hd]; exact size26) (by rw [show (net p s d (.slice A n c) f).toArray.size = 35 from net_length hs hd]; rfl) (net_one rfl)
theorem store30 (p : Int) (s d : List Int) (A : Option Addr) (n c : Nat) (f : Bool) (hs : Sixteen s) (hd : Sixteen d) (x : World) : (storeCells ⟨x.heap.size, 0, none⟩ (net p s d (.slice A n c) f)).run Try.prog (x.alloc (.cells #[.int .u8 0, .int .u8 0, .int .u8 0, .int .u8 0, .int .u8 0, .int .u8 0, .int .u8 0, .int .u8 0, .int .u8 0, .int .u8 0, .int .u8 0, .int .u8 0, .int .u8 0, .int .u8 0, .int .u8 0, .int .u8 0, .int .u8 0, .int .u8 0, .int .u8 0, .int .u8 0, .int .u8 0, .int .u8 0, .int .u8 0, .int .u8 0, .int .u8 0, .int .u8 0, .int .u8 0, .int .u8 0, .int .u8 0, .int .u8 0, .int .u8 0, .int .u8 0, .int .u8 0, .slice none 0 0, .bool false] 54)) = .ok () (x.alloc (.cells (net p s d (.slice A n c) f).toArray 54)) :=
  run_storeCells_new (P := Try.prog) x 54 _ (net p s d (.slice A n c) f).toArray (by rw [List.size_toArray, net_length hs hd]; exact size30) (by rw [show (net p s d (.slice A n c) f).toArray.size = 35 from net_length hs hd]; rfl) (net_one rfl)

theorem cel_size {s : List Int} (hs : Sixteen s) : (Try.prog.info? 24).map (·.size) = some (cel s).length := by
  unfold Sixteen at hs
  rw [cel_length, hs]
  exact size24
/-- An address out of a struct. -/
theorem wpList_addr {ops : Array Oper} {rest : List Oper} {op : Oper} {a : Act} {w : World} {Q : Exit → Act → World → Prop} (hw : Region.wanted op (yielded ops a.tmps) = true) (x : Operand) (ho : op.op = .load 24 x)
    (b o : Nat) (hx : a.eval x = .pointer (some ⟨b, o, none⟩)) (s : List Int) (hc : w.rangeAt b o (cel s)) (hs : Sixteen s)
    (h : wpList Try.prog ops Q rest (a.put op.dst (.agg (cel s).toArray)) w) : wpList Try.prog ops Q (op :: rest) a w := by
  unfold wpList
  rw [if_pos hw]
  exact .inl (wp_load_mid 24 x ho b o hx (cel s) _ hc Try.underlying24 rfl (cel_size hs) h)

theorem setRow_far (w : World) (g : Nat) (cs : Array Value) : Far (only g) w (w.setRow g cs) :=
  ⟨rfl, rfl, rfl, by simp [World.setRow], fun k _ hn => by
    have : ¬ g = k := fun e => hn e.symm
    simp [World.setRow, Array.getElem?_modify, this]⟩
theorem setRow_blk {w : World} {g : Nat} {t : TypeId} {cs : List Value} (h : Blk w g t cs) (xs : List Value) : Blk (w.setRow g xs.toArray) g t xs := by
  unfold Blk at h ⊢
  simp [World.setRow, Array.getElem?_modify, h]

/-- A struct of 35 cells into a variable. -/
theorem wpList_put {ops : Array Oper} {rest : List Oper} {o : Oper} {a : Act} {w : World} {Q : Exit → Act → World → Prop} (hgd : o.guard = none) (ty : TypeId) (hty : (Try.prog.info? ty).map (·.size) = some 35) (x y : Operand) (ho : o.op = .store ty x y)
    (g : Nat) (xs : List Value) (hx : a.eval x = .pointer (some ⟨g, 0, none⟩)) (hy : a.eval y = .agg xs.toArray) (t : TypeId) (old : List Value) (hb : Blk w g t old) (hl : old.length = 35) (hxl : xs.length = 35) (h1 : xs.toArray.all (·.oneCell') = true)
    (h : ∀ w', Hid (Blk w' g t xs) → Hid (Far (only g) w w') → wpList Try.prog ops Q rest (a.put o.dst undef) w') : wpList Try.prog ops Q (o :: rest) a w :=
  wpList_store_row hgd ty x y ho g xs.toArray hx hy t old.toArray hb (by rw [List.size_toArray, hxl]; exact hty) (by rw [List.size_toArray, List.size_toArray, hl, hxl]) h1 (h _ (setRow_blk hb xs) (setRow_far w g _))
/-- The same as an operation of a region that draws. -/
theorem step_put {ops : Array Oper} {o : Oper} {a : Act} {w : World} {K : Act → World → Prop} {Q : Exit → Act → World → Prop} {E : Prop} (hgd : o.guard = none) (ty : TypeId) (hty : (Try.prog.info? ty).map (·.size) = some 35) (x y : Operand) (ho : o.op = .store ty x y)
    (g : Nat) (xs : List Value) (hx : a.eval x = .pointer (some ⟨g, 0, none⟩)) (hy : a.eval y = .agg xs.toArray) (t : TypeId) (old : List Value) (hb : Blk w g t old) (hl : old.length = 35) (hxl : xs.length = 35) (h1 : xs.toArray.all (·.oneCell') = true)
    (h : ∀ w', Hid (Blk w' g t xs) → Hid (Far (only g) w w') → K (a.put o.dst undef) w') : if Region.wanted o (yielded ops a.tmps) = true then Oper.wp Try.prog o a w K Q else E := by
  have hw : Region.wanted o (yielded ops a.tmps) = true := by simp [Region.wanted, hgd]
  rw [if_pos hw]
  exact wp_store_row ty x y ho g xs.toArray hx hy t old.toArray hb (by rw [List.size_toArray, hxl]; exact hty) (by rw [List.size_toArray, List.size_toArray, hl, hxl]) h1 (h _ (setRow_blk hb xs) (setRow_far w g _))
theorem load30 {w : World} {g : Nat} {t : TypeId} {xs : List Value} (h : Blk w g t xs) (hl : xs.length = 35) : (loadVar 54 ⟨g, 0, none⟩).run Try.prog w = .ok (.agg xs.toArray) w :=
  run_loadVar_row w g t 54 xs.toArray (0, 0) _ h Try.underlying54 rfl (by rw [List.size_toArray, hl]; exact size30)
theorem load26 {w : World} {g : Nat} {t : TypeId} {xs : List Value} (h : Blk w g t xs) (hl : xs.length = 35) : (loadVar 72 ⟨g, 0, none⟩).run Try.prog w = .ok (.agg xs.toArray) w :=
  run_loadVar_row w g t 72 xs.toArray (0, 0) _ h Try.underlying72 rfl (by rw [List.size_toArray, hl]; exact size26)
theorem keep9 {wr W : World} {q : Addr} {v : Value} (h : Below wr.heap.size wr W) (hc : wr.cell? q = some v) : W.cell? q = some v := (h.cell (World.block_lt_of_cell? wr _ hc)).trans hc
theorem wpList_var26 {ops : Array Oper} {rest : List Oper} {o : Oper} {a : Act} {Q : Exit → Act → World → Prop} (hgd : o.guard = none) (x y : Operand) (ho : o.op = .store 72 x y) (z : World) (xs : List Value)
    (hx : a.eval x = .pointer (some ⟨z.heap.size, 0, none⟩)) (hy : a.eval y = .agg xs.toArray) (hxl : xs.length = 35) (h1 : xs.toArray.all (·.oneCell') = true)
    (h : ∀ w', Hid (Blk w' z.heap.size 72 xs) → Hid (Below z.heap.size z w') → wpList Try.prog ops Q rest (a.put o.dst undef) w') : wpList Try.prog ops Q (o :: rest) a (z.alloc (.cells #[.int .u8 0, .int .u8 0, .int .u8 0, .int .u8 0, .int .u8 0, .int .u8 0, .int .u8 0, .int .u8 0, .int .u8 0, .int .u8 0, .int .u8 0, .int .u8 0, .int .u8 0, .int .u8 0, .int .u8 0, .int .u8 0, .int .u8 0, .int .u8 0, .int .u8 0, .int .u8 0, .int .u8 0, .int .u8 0, .int .u8 0, .int .u8 0, .int .u8 0, .int .u8 0, .int .u8 0, .int .u8 0, .int .u8 0, .int .u8 0, .int .u8 0, .int .u8 0, .int .u8 0, .slice none 0 0, .bool false] 72)) :=
  wpList_put hgd 72 size26 x y ho z.heap.size xs hx hy 72 (net 0 zz zz (.slice none 0 0) false) (Blk.new z 72 (net 0 zz zz (.slice none 0 0) false)) (net_length zz_sixteen zz_sixteen) hxl h1 fun w' hb hf =>
    h w' hb (below_only ((Below.refl _ _).alloc (Nat.le_refl _) _) hf.out (Nat.le_refl _) (by simp))
theorem wpList_var30 {ops : Array Oper} {rest : List Oper} {o : Oper} {a : Act} {Q : Exit → Act → World → Prop} (hgd : o.guard = none) (x y : Operand) (ho : o.op = .store 54 x y) (z : World) (xs : List Value)
    (hx : a.eval x = .pointer (some ⟨z.heap.size, 0, none⟩)) (hy : a.eval y = .agg xs.toArray) (hxl : xs.length = 35) (h1 : xs.toArray.all (·.oneCell') = true)
    (h : ∀ w', Hid (Blk w' z.heap.size 54 xs) → Hid (Below z.heap.size z w') → wpList Try.prog ops Q rest (a.put o.dst undef) w') : wpList Try.prog ops Q (o :: rest) a (z.alloc (.cells #[.int .u8 0, .int .u8 0, .int .u8 0, .int .u8 0, .int .u8 0, .int .u8 0, .int .u8 0, .int .u8 0, .int .u8 0, .int .u8 0, .int .u8 0, .int .u8 0, .int .u8 0, .int .u8 0, .int .u8 0, .int .u8 0, .int .u8 0, .int .u8 0, .int .u8 0, .int .u8 0, .int .u8 0, .int .u8 0, .int .u8 0, .int .u8 0, .int .u8 0, .int .u8 0, .int .u8 0, .int .u8 0, .int .u8 0, .int .u8 0, .int .u8 0, .int .u8 0, .int .u8 0, .slice none 0 0, .bool false] 54)) :=
  wpList_put hgd 54 size30 x y ho z.heap.size xs hx hy 54 (net 0 zz zz (.slice none 0 0) false) (Blk.new z 54 (net 0 zz zz (.slice none 0 0) false)) (net_length zz_sixteen zz_sixteen) hxl h1 fun w' hb hf =>
    h w' hb (below_only ((Below.refl _ _).alloc (Nat.le_refl _) _) hf.out (Nat.le_refl _) (by simp))

theorem wpList_whole26 {ops : Array Oper} {rest : List Oper} {op : Oper} {a : Act} {w : World} {Q : Exit → Act → World → Prop} (hw : Region.wanted op (yielded ops a.tmps) = true) (x : Operand) (ho : op.op = .load 72 x)
    (g : Nat) (hx : a.eval x = .pointer (some ⟨g, 0, none⟩)) {t : TypeId} (xs : List Value) (hb : Blk w g t xs) (hl : xs.length = 35)
    (h : wpList Try.prog ops Q rest (a.put op.dst (.agg xs.toArray)) w) : wpList Try.prog ops Q (op :: rest) a w := by
  unfold wpList
  rw [if_pos hw]
  exact .inl (wp_load_row 72 x ho g hx t xs.toArray (0, 0) _ hb Try.underlying72 rfl (by rw [List.size_toArray, hl]; exact size26) h)
theorem wpList_whole30 {ops : Array Oper} {rest : List Oper} {op : Oper} {a : Act} {w : World} {Q : Exit → Act → World → Prop} (hw : Region.wanted op (yielded ops a.tmps) = true) (x : Operand) (ho : op.op = .load 54 x)
    (g : Nat) (hx : a.eval x = .pointer (some ⟨g, 0, none⟩)) {t : TypeId} (xs : List Value) (hb : Blk w g t xs) (hl : xs.length = 35)
    (h : wpList Try.prog ops Q rest (a.put op.dst (.agg xs.toArray)) w) : wpList Try.prog ops Q (op :: rest) a w := by
  unfold wpList
  rw [if_pos hw]
  exact .inl (wp_load_row 54 x ho g hx t xs.toArray (0, 0) _ hb Try.underlying54 rfl (by rw [List.size_toArray, hl]; exact size30) h)

theorem own_cap {w : World} {base : Nat} {A : Option Addr} {n c : Nat} {bs : List Int} (h : w.ownsRow base 5 1 (.slice A n c) n (cel bs)) : n ≤ c := by
  obtain ⟨A', c', e, hc, _⟩ := Byts.of_row h
  cases e
  exact hc
/-- A block of bytes as an own row. -/
theorem own_blk {w : World} {g base : Nat} {bs : List Int} {n : Nat} (h : Blk w g 5 (cel bs)) (hn : bs.length = n) (hm : n ≤ 1000000) (hb : base ≤ g) : w.ownsRow base 5 1 (.slice (some ⟨g, 0, none⟩) n n) n (cel bs) := by
  subst hn
  exact ⟨by simp [cel], .inr ⟨g, bs.length, (cel bs).toArray, rfl, hb, h, Nat.le_refl _, by unfold maxLen; omega, by simp [cel], by simp [cel, List.take_of_length_le]⟩⟩
/-- A new empty row. -/
theorem own_new (w : World) (base : Nat) (h : base ≤ w.heap.size) : (w.alloc (.cells #[] 5)).ownsRow base 5 1 (.slice (some ⟨w.heap.size, 0, none⟩) 0 0) 0 (cel []) :=
  ⟨rfl, .inr ⟨w.heap.size, 0, #[], rfl, h, heap_alloc_new w _, Nat.le_refl _, by decide, rfl, rfl⟩⟩
theorem own_some {w : World} {base : Nat} {A : Option Addr} {n c : Nat} {xs : List Value} (h : w.ownsRow base 5 1 (.slice A n c) n xs) (h0 : 0 < n) : ∃ g, A = some ⟨g, 0, none⟩ ∧ base ≤ g := by
  rcases h.2 with ⟨e, e0⟩ | ⟨g, cap, cur, e, hb, _⟩
  · omega
  · cases e
    exact ⟨g, rfl, hb⟩
/-- append of bytes onto an own row, in a region that draws. -/
theorem step_app {ops : Array Oper} {o : Oper} {a : Act} {w : World} {K : Act → World → Prop} {Q : Exit → Act → World → Prop} {E : Prop} (hgd : o.guard = none) (s x : Operand)
    (ho : o.op = .call { callee := .builtin .append, args := #[s, x], argTypes := #[22, 22] })
    (base : Nat) (v : Value) (n : Nat) (xs : List Int) (hs : a.eval s = v) (hown : w.ownsRow base 5 1 v n (cel xs))
    (A : Option Addr) (m c : Nat) (bs : List Int) (hx : a.eval x = .slice A m c) (h : Byts w A m bs) (k : Nat) (hk : n + m = k) (zs : List Int) (hz : xs ++ bs = zs) (hn : k ≤ 1000000) (hb : base ≤ w.heap.size)
    (hK : ∀ A' c' w', Hid (w'.ownsRow base 5 1 (.slice A' k c') k (cel zs)) → Hid (w.grownBy w' v.ownBlock) → K (a.put o.dst (.slice A' k c')) w') : if Region.wanted o (yielded ops a.tmps) = true then Oper.wp Try.prog o a w K Q else E := by
  subst hk hz
  have hw : Region.wanted o (yielded ops a.tmps) = true := by simp [Region.wanted, hgd]
  rw [if_pos hw]
  obtain ⟨v', w', hrun, h2, h3, _⟩ := run_append_bytes (P := Try.prog) w base 22 o.type 5 Try.underlying22 info5 v n xs hown A m c bs h hn hb
  obtain ⟨A', c', rfl, _⟩ := Byts.of_row h2
  unfold Oper.wp
  simp [execOp, ho, resolve, invoke, builtin, hs, hx, hrun, Result.andThen]
  exact hK A' c' w' h2 h3

theorem below_drewN {B : Nat} {w w' : World} (h : Below B w w') (k : Nat) : Below B w (w'.drewN k) := ⟨h.os, h.tape, h.output, h.size, h.block⟩
end Go.Proofs.Ytebpemknmcgamaa
