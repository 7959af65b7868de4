/- The program's gens as cells. Conditions: those of each theorem. -/
import Derived.Test.YtfhlgmmfknfamaaBridge
namespace Go.Proofs.Ytfhlgmmfknfamaa
open Go.RowKit

/-- Its cells: buckets, both keys, which is old, moving, moved, epoch. -/
def gcs (n : Nat) (p q : Key) (o v : Bool) (m e : Nat) : List Value := .int .i64 (n : Nat) :: (p.cs ++ (q.cs ++ [.int .i64 (nm o : Nat), .bool v, .int .i64 (m : Nat), .int .i64 (e : Nat)]))
def kof (p q : Key) (o : Bool) : Key := if o then q else p
section
variable {n m e : Nat} {p q : Key} {o v : Bool} {w : World} {g : Nat} {t : TypeId}
theorem gcs_len : (gcs n p q o v m e).length = 37 := by
  show (p.cs ++ (q.cs ++ [_, _, _, _])).length + 1 = 37
  rw [List.length_append, List.length_append, key16, key16]
  rfl
theorem gcs_each : ∀ u ∈ gcs n p q o v m e, u.oneCell' = true := by
  intro u hu
  rcases List.mem_cons.1 hu with rfl | hu
  · rfl
  rcases List.mem_append.1 hu with hu | hu
  · exact cel_each _ u hu
  rcases List.mem_append.1 hu with hu | hu
  · exact cel_each _ u hu
  simp only [List.mem_cons, List.not_mem_nil, or_false] at hu
  rcases hu with h | h | h | h <;> (rw [h]; rfl)
theorem size56 : (Try.prog.info? 56).map (·.size) = some 37 := by kernel_rfl
theorem gtail (i : Nat) : (gcs n p q o v m e)[33 + i]? = [Value.int .i64 (nm o : Nat), .bool v, .int .i64 (m : Nat), .int .i64 (e : Nat)][i]? := by
  rw [show 33 + i = (32 + i) + 1 by omega]
  show (p.cs ++ (q.cs ++ [_, _, _, _]))[32 + i]? = _
  rw [List.getElem?_append_right (by rw [key16]; omega), key16, List.getElem?_append_right (by rw [key16]; omega), key16, show 32 + i - 16 - 16 = i by omega]
theorem gcell0 (h : Blk w g t (gcs n p q o v m e)) : w.cell? ⟨g, 0, none⟩ = some (.int .i64 (n : Nat)) := h.cell 0
theorem gcell_o (h : Blk w g t (gcs n p q o v m e)) : w.cell? ⟨g, 33, none⟩ = some (.int .i64 (nm o : Nat)) := (h.cell 33).trans (gtail 0)
theorem gcell_f (h : Blk w g t (gcs n p q false v m e)) : w.cell? ⟨g, 33, none⟩ = some (.int .i64 0) := gcell_o h
theorem gcell_t (h : Blk w g t (gcs n p q true v m e)) : w.cell? ⟨g, 33, none⟩ = some (.int .i64 1) := gcell_o h
theorem gcell_v (h : Blk w g t (gcs n p q o v m e)) : w.cell? ⟨g, 34, none⟩ = some (.bool v) := (h.cell 34).trans (gtail 1)
theorem gcell_m (h : Blk w g t (gcs n p q o v m e)) : w.cell? ⟨g, 35, none⟩ = some (.int .i64 (m : Nat)) := (h.cell 35).trans (gtail 2)
theorem gcell_e (h : Blk w g t (gcs n p q o v m e)) : w.cell? ⟨g, 36, none⟩ = some (.int .i64 (e : Nat)) := (h.cell 36).trans (gtail 3)
theorem gkey (h : Blk w g t (gcs n p q o v m e)) (s : Bool) : w.rangeAt g (1 + nm s * 16) (kof p q s).cs := fun j u hj => by
  have hl := (List.getElem?_eq_some_iff.1 hj).1
  rw [key16] at hl
  rw [h.cell]
  cases s
  · rw [show 1 + nm false * 16 + j = j + 1 by show 1 + 0 * 16 + j = _; omega]
    show (p.cs ++ (q.cs ++ [_, _, _, _]))[j]? = _
    rw [List.getElem?_append_left (by rw [key16]; omega)]
    exact hj
  · rw [show 1 + nm true * 16 + j = (16 + j) + 1 by show 1 + 1 * 16 + j = _; omega]
    show (p.cs ++ (q.cs ++ [_, _, _, _]))[16 + j]? = _
    rw [List.getElem?_append_right (by rw [key16]; omega), key16, show 16 + j - 16 = j by omega, List.getElem?_append_left (by rw [key16]; omega)]
    exact hj
theorem gset_tail (i : Nat) (u : Value) : (gcs n p q o v m e).set (33 + i) u = .int .i64 (n : Nat) :: (p.cs ++ (q.cs ++ [Value.int .i64 (nm o : Nat), .bool v, .int .i64 (m : Nat), .int .i64 (e : Nat)].set i u)) := by
  rw [show 33 + i = (32 + i) + 1 by omega]
  show _ :: (p.cs ++ (q.cs ++ [_, _, _, _])).set (32 + i) u = _
  rw [List.set_append_right _ _ (by rw [key16]; omega), key16, List.set_append_right _ _ (by rw [key16]; omega), key16, show 32 + i - 16 - 16 = i by omega]
theorem gset_o (s : Bool) : (gcs n p q o v m e).set 33 (.int .i64 (nm s : Nat)) = gcs n p q s v m e := gset_tail 0 _
theorem gset_v (v' : Bool) : (gcs n p q o v m e).set 34 (.bool v') = gcs n p q o v' m e := gset_tail 1 _
theorem gset_m (m' : Nat) : (gcs n p q o v m e).set 35 (.int .i64 (m' : Nat)) = gcs n p q o v m' e := gset_tail 2 _
theorem gset_e (e' : Nat) : (gcs n p q o v m e).set 36 (.int .i64 (e' : Nat)) = gcs n p q o v m e' := gset_tail 3 _
theorem gput_p (k : Key) : (gcs n p q o v m e).take 1 ++ (k.cs ++ (gcs n p q o v m e).drop (1 + 16)) = gcs n k q o v m e := by
  show _ :: (k.cs ++ (p.cs ++ (q.cs ++ _)).drop 16) = _
  rw [List.drop_left' (key16 _)]
  rfl
theorem gput_q (k : Key) : (gcs n p q o v m e).take 17 ++ (k.cs ++ (gcs n p q o v m e).drop (17 + 16)) = gcs n p k o v m e := by
  show (_ :: (p.cs ++ (q.cs ++ _)).take 16) ++ (k.cs ++ (p.cs ++ (q.cs ++ _)).drop (16 + 16)) = _
  rw [List.take_left' (key16 _), ← List.drop_drop, List.drop_left' (key16 _), List.drop_left' (key16 _), List.cons_append]
  rfl
end
end Go.Proofs.Ytfhlgmmfknfamaa
