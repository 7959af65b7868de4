/- A flow as cells, and words for memory of it; a flow's key, said of plain lists. Conditions: those of each theorem. -/
import Derived.Test.YtfhlgmmfknfamaaKdNet
import Derived.Laws.Tables
namespace Go.Proofs.Ytfhlgmmfknfamaa.kd
open Go.RowKit

/-- A flow's cells. -/
def flo (v : Bool) (p : Int) (s d : List Int) (a b : Nat) : List Value := .bool v :: .int .u8 p :: (cel s ++ (cel d ++ [.int .u16 ((a : Nat) : Int), .int .u16 ((b : Nat) : Int)]))
/-- A flow's key. -/
def key (v : Bool) (p : Int) (s d : List Int) (a b : Nat) : List Int :=
  (if v then 6 else 4) :: p :: (s.take (if v then 16 else 4) ++ (d.take (if v then 16 else 4) ++ [((a / 256 : Nat) : Int), ((a % 256 : Nat) : Int), ((b / 256 : Nat) : Int), ((b % 256 : Nat) : Int)]))

theorem sizeOfflow : (Try.prog.info? 45).map (·.size) = some 36 := by kernel_rfl
theorem sixteen_ex {s : List Int} (h : Sixteen s) : ∃ x0 x1 x2 x3 x4 x5 x6 x7 x8 x9 x10 x11 x12 x13 x14 x15, s = [x0, x1, x2, x3, x4, x5, x6, x7, x8, x9, x10, x11, x12, x13, x14, x15] := by
  unfold Sixteen at h
  match s, h with
  | [x0, x1, x2, x3, x4, x5, x6, x7, x8, x9, x10, x11, x12, x13, x14, x15], _ => exact ⟨_, _, _, _, _, _, _, _, _, _, _, _, _, _, _, _, rfl⟩
section
variable {v : Bool} {p : Int} {s d : List Int} {a b n : Nat}
theorem flo_length (hs : Sixteen s) (hd : Sixteen d) : (flo v p s d a b).length = 36 := by
  unfold Sixteen at *
  simp [flo, cel_length, hs, hd]
theorem one_all {cs : List Value} (h : ∀ u ∈ cs, u.oneCell' = true) : cs.toArray.all (·.oneCell') = true := all_oneCell_toArray h
theorem flo_each : ∀ u ∈ flo v p s d a b, u.oneCell' = true := by
  intro u hu
  simp only [flo, List.mem_cons, List.mem_append, List.not_mem_nil, or_false] at hu
  rcases hu with rfl | rfl | h | h | rfl | rfl
  · rfl
  · rfl
  · exact cel_one s u h
  · exact cel_one d u h
  · rfl
  · rfl
theorem flo_0 : (flo v p s d a b)[0]? = some (.bool v) := rfl
theorem flo_1 : (flo v p s d a b)[1]? = some (.int .u8 p) := rfl
theorem flo_34 (hs : Sixteen s) (hd : Sixteen d) : (flo v p s d a b)[34]? = some (.int .u16 ((a : Nat) : Int)) := by
  unfold Sixteen at *
  simp [flo, cel, hs, hd]
theorem flo_35 (hs : Sixteen s) (hd : Sixteen d) : (flo v p s d a b)[35]? = some (.int .u16 ((b : Nat) : Int)) := by
  unfold Sixteen at *
  simp [flo, cel, hs, hd]
theorem flo_src {w : World} {g : Nat} {t : TypeId} (h : Blk w g t (flo v p s d a b)) : w.rangeAt g 2 (cel s) := by
  intro j u hu
  have hj := (List.getElem?_eq_some_iff.1 hu).1
  rw [h.cell, flo, Nat.add_comm, List.getElem?_cons_succ, List.getElem?_cons_succ, List.getElem?_append_left hj]
  exact hu
theorem flo_dst (hs : Sixteen s) {w : World} {g : Nat} {t : TypeId} (h : Blk w g t (flo v p s d a b)) : w.rangeAt g 18 (cel d) := by
  intro j u hu
  have hj := (List.getElem?_eq_some_iff.1 hu).1
  unfold Sixteen at hs
  rw [h.cell, flo, show 18 + j = (16 + j) + 2 by omega, List.getElem?_cons_succ, List.getElem?_cons_succ, List.getElem?_append_right (by rw [cel_length, hs]; omega), cel_length, hs, show 16 + j - 16 = j by omega, List.getElem?_append_left hj]
  exact hu
/-- Made of its parts. -/
theorem built_flo (hs : Sixteen s) (hd : Sixteen d) : Try.prog.built 45 [(0, .bool v), (1, .int .u8 p), (2, .agg (cel s).toArray), (3, .agg (cel d).toArray), (4, .int .u16 ((a : Nat) : Int)), (5, .int .u16 ((b : Nat) : Int))] = some (flo v p s d a b).toArray := by
  obtain ⟨x0, x1, x2, x3, x4, x5, x6, x7, x8, x9, x10, x11, x12, x13, x14, x15, rfl⟩ := sixteen_ex hs
  obtain ⟨y0, y1, y2, y3, y4, y5, y6, y7, y8, y9, y10, y11, y12, y13, y14, y15, rfl⟩ := sixteen_ex hd
  kernel_rfl
end
theorem run_flo {v : Bool} {p : Int} {s d : List Int} {a b : Nat} (hs : Sixteen s) (hd : Sixteen d) (w : World) : (Instr.build 45 #[(0, .bool v), (1, .int .u8 p), (2, .agg (cel s).toArray), (3, .agg (cel d).toArray), (4, .int .u16 ((a : Nat) : Int)), (5, .int .u16 ((b : Nat) : Int))]).run Try.prog w = .ok (.agg (flo v p s d a b).toArray) w :=
  run_build w 45 _ _ (built_flo hs hd)
/-- Into a variable. -/
theorem wpList_lay {ops : Array Oper} {rest : List Oper} {o : Oper} {a : Act} {w : World} {Q : Exit → Act → World → Prop} (hgd : o.guard = none) (ty : TypeId) (k : Nat) (hty : (Try.prog.info? ty).map (·.size) = some k) (x y : Operand) (ho : o.op = .store ty x y)
    (g : Nat) (xs : List Value) (hx : a.eval x = .pointer (some ⟨g, 0, none⟩)) (hy : a.eval y = .agg xs.toArray) (t : TypeId) (old : List Value) (hb : Blk w g t old) (hl : old.length = k) (hxl : xs.length = k) (h1 : xs.toArray.all (·.oneCell') = true)
    (h : ∀ w', Hid (Blk w' g t xs) → Hid (Far (only g) w w') → wpList Try.prog ops Q rest (a.put o.dst undef) w') : wpList Try.prog ops Q (o :: rest) a w :=
  wpList_store_row hgd ty x y ho g xs.toArray hx hy t old.toArray hb (by rw [List.size_toArray, hxl]; exact hty) (by rw [List.size_toArray, List.size_toArray, hl, hxl]) h1 (h _ (setRow_blk hb xs) (setRow_far w g _))
theorem wpList_flow {ops : Array Oper} {rest : List Oper} {o : Oper} {a : Act} {Q : Exit → Act → World → Prop} (hgd : o.guard = none) (x y : Operand) (ho : o.op = .store 45 x y) (z : World) (xs : List Value)
    (hx : a.eval x = .pointer (some ⟨z.heap.size, 0, none⟩)) (hy : a.eval y = .agg xs.toArray) (hxl : xs.length = 36) (h1 : xs.toArray.all (·.oneCell') = true)
    (h : ∀ w', Hid (Blk w' z.heap.size 45 xs) → Hid (Below z.heap.size z w') → wpList Try.prog ops Q rest (a.put o.dst undef) w') : wpList Try.prog ops Q (o :: rest) a (z.alloc (.cells #[.bool false, .int .u8 0, .int .u8 0, .int .u8 0, .int .u8 0, .int .u8 0, .int .u8 0, .int .u8 0, .int .u8 0, .int .u8 0, .int .u8 0, .int .u8 0, .int .u8 0, .int .u8 0, .int .u8 0, .int .u8 0, .int .u8 0, .int .u8 0, .int .u8 0, .int .u8 0, .int .u8 0, .int .u8 0, .int .u8 0, .int .u8 0, .int .u8 0, .int .u8 0, .int .u8 0, .int .u8 0, .int .u8 0, .int .u8 0, .int .u8 0, .int .u8 0, .int .u8 0, .int .u8 0, .int .u16 0, .int .u16 0] 45)) :=
  wpList_lay hgd 45 36 sizeOfflow x y ho z.heap.size xs hx hy 45 (flo false 0 zz zz 0 0) (Blk.new z 45 (flo false 0 zz zz 0 0)) rfl hxl h1 fun w' hb hf =>
    h w' hb (below_only ((Below.refl _ _).alloc (Nat.le_refl _) _) hf.out (Nat.le_refl _) (by simp))
theorem wpList_whole_flow {ops : Array Oper} {rest : List Oper} {op : Oper} {a : Act} {w : World} {Q : Exit → Act → World → Prop} (hw : Region.wanted op (yielded ops a.tmps) = true) (x : Operand) (ho : op.op = .load 45 x)
    (g : Nat) (hx : a.eval x = .pointer (some ⟨g, 0, none⟩)) {t : TypeId} (xs : List Value) (hb : Blk w g t xs) (hl : xs.length = 36)
    (h : wpList Try.prog ops Q rest (a.put op.dst (.agg xs.toArray)) w) : wpList Try.prog ops Q (op :: rest) a w := by
  unfold wpList
  rw [if_pos hw]
  exact .inl (wp_load_row 45 x ho g hx t xs.toArray (0, 0) _ hb Try.underlying45 rfl (by rw [List.size_toArray, hl]; exact sizeOfflow) h)
/-- A struct out of its parts, as a step of the walk. -/
theorem wpList_build {ops : Array Oper} {rest : List Oper} {o : Oper} {a : Act} {w : World} {Q : Exit → Act → World → Prop} (hgd : o.guard = none) (ty : TypeId) (parts : List (Nat × Operand)) (ho : o.op = .build ty parts.toArray)
    (vals : List (Nat × Value)) (hp : (parts.map fun px => (px.1, a.eval px.2)) = vals) (cells : List Value) (hb : (Instr.build ty vals.toArray).run Try.prog w = .ok (.agg cells.toArray) w)
    (h : wpList Try.prog ops Q rest (a.put o.dst (.agg cells.toArray)) w) : wpList Try.prog ops Q (o :: rest) a w := by
  subst hp
  refine wpList_plain hgd fun K hK => ?_
  unfold Oper.wp
  simp only [execOp, ho, List.map_toArray]
  simp [hb, Oper.upon]
  exact hK _ _ h
theorem yields_build {ops : Array Oper} {S : World → Prop} {op : Oper} {a : Act} (hw : Region.wanted op (yielded ops a.tmps) = true) (ty : TypeId) (parts : List (Nat × Operand)) (ho : op.op = .build ty parts.toArray)
    (vals : List (Nat × Value)) (hp : (parts.map fun px => (px.1, a.eval px.2)) = vals) (cells : List Value) (hb : ∀ w, (Instr.build ty vals.toArray).run Try.prog w = .ok (.agg cells.toArray) w) : YieldsIf Try.prog ops S op (.agg cells.toArray) a :=
  .inl ⟨hw, fun w _ => by
    subst hp
    simp only [execOp, ho, List.map_toArray]
    simp [hb]⟩
/-- Into a variable, in a region that draws. -/
theorem step_lay {ops : Array Oper} {o : Oper} {a : Act} {w : World} {K : Act → World → Prop} {Q : Exit → Act → World → Prop} {E : Prop} (hgd : o.guard = none) (ty : TypeId) (k : Nat) (hty : (Try.prog.info? ty).map (·.size) = some k) (x y : Operand) (ho : o.op = .store ty x y)
    (g : Nat) (xs : List Value) (hx : a.eval x = .pointer (some ⟨g, 0, none⟩)) (hy : a.eval y = .agg xs.toArray) (t : TypeId) (old : List Value) (hb : Blk w g t old) (hl : old.length = k) (hxl : xs.length = k) (h1 : xs.toArray.all (·.oneCell') = true)
    (h : ∀ w', Hid (Blk w' g t xs) → Hid (Far (only g) w w') → K (a.put o.dst undef) w') : if Region.wanted o (yielded ops a.tmps) = true then Oper.wp Try.prog o a w K Q else E := by
  have hw : Region.wanted o (yielded ops a.tmps) = true := by simp [Region.wanted, hgd]
  rw [if_pos hw]
  exact wp_store_row ty x y ho g xs.toArray hx hy t old.toArray hb (by rw [List.size_toArray, hxl]; exact hty) (by rw [List.size_toArray, List.size_toArray, hl, hxl]) h1 (h _ (setRow_blk hb xs) (setRow_far w g _))
end Go.Proofs.Ytfhlgmmfknfamaa.kd
