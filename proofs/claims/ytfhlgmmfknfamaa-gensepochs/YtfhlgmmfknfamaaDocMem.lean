/- The document's gens as cells; what the laws want of layer 13's calls. Conditions: those of each theorem. -/
import Derived.Test.YtfhlgmmfknfamaaEpochsWalk
namespace Go.Proofs.Ytfhlgmmfknfamaa
open Go.RowKit

/-- Layer 13's, as the document has them. -/
structure RefK (K : Ks) : Prop where
  bucket : ∀ (k : Key) (f : Flo) (n : Nat) w, k.Ok → f.Ok → 1 ≤ n → n ≤ 64 → Calls Try.prog 30 #[.agg k.cs.toArray, .agg f.cs.toArray, .int .i64 (n : Nat)] w (Ans (.int .i64 (K.bk k f n : Nat)) w)
  bins : ∀ (k : Key) (f : Flo) l n w, k.Ok → f.Ok → i64 l → i64 n → Calls Try.prog 31 #[.agg k.cs.toArray, .agg f.cs.toArray, .int .i64 l, .int .i64 n] w (IRes (K.bi k f l n) w)
def mvI (S : St) : Int := match S.mv with
  | none => -1
  | some m => (m : Nat)
/-- Its cells. -/
def dcs (S : St) : List Value := .int .i64 (S.n : Nat) :: (S.a.cs ++ (S.b.cs ++ [.int .i64 (nm S.o : Nat), .int .i64 (mvI S), .int .i64 (S.ep : Nat)]))
theorem dcs_len (S : St) : (dcs S).length = 36 := by
  show (S.a.cs ++ (S.b.cs ++ [_, _, _])).length + 1 = 36
  rw [List.length_append, List.length_append, key16, key16]
  rfl
theorem dcs_each (S : St) : ∀ u ∈ dcs S, u.oneCell' = true := by
  intro u hu
  rcases List.mem_cons.1 hu with rfl | hu
  · rfl
  rcases List.mem_append.1 hu with hu | hu
  · exact cel_each _ u hu
  rcases List.mem_append.1 hu with hu | hu
  · exact cel_each _ u hu
  simp only [List.mem_cons, List.not_mem_nil, or_false] at hu
  rcases hu with h | h | h <;> (rw [h]; rfl)
theorem size34 : (Try.prog.info? 34).map (·.size) = some 36 := by kernel_rfl
theorem tail_at (S : St) (i : Nat) : (dcs S)[33 + i]? = [Value.int .i64 (nm S.o : Nat), .int .i64 (mvI S), .int .i64 (S.ep : Nat)][i]? := by
  rw [show 33 + i = (32 + i) + 1 by omega]
  show (S.a.cs ++ (S.b.cs ++ [_, _, _]))[32 + i]? = _
  rw [List.getElem?_append_right (by rw [key16]; omega), key16, List.getElem?_append_right (by rw [key16]; omega), key16, show 32 + i - 16 - 16 = i by omega]
section
variable {w : World} {g : Nat} {t : TypeId} {S : St}
theorem dcells (h : Blk w g t (dcs S)) : w.cell? ⟨g, 0, none⟩ = some (.int .i64 (S.n : Nat)) ∧ w.cell? ⟨g, 33, none⟩ = some (.int .i64 (nm S.o : Nat)) ∧ w.cell? ⟨g, 34, none⟩ = some (.int .i64 (mvI S)) ∧ w.cell? ⟨g, 35, none⟩ = some (.int .i64 (S.ep : Nat)) :=
  ⟨h.cell 0, (h.cell 33).trans (tail_at S 0), (h.cell 34).trans (tail_at S 1), (h.cell 35).trans (tail_at S 2)⟩
theorem dkey (h : Blk w g t (dcs S)) (o : Bool) : w.rangeAt g (1 + nm o * 16) (S.key o).cs := fun j v hj => by
  have hl := (List.getElem?_eq_some_iff.1 hj).1
  rw [key16] at hl
  rw [h.cell]
  cases o
  · rw [show 1 + nm false * 16 + j = j + 1 by show 1 + 0 * 16 + j = _; omega]
    show (S.a.cs ++ (S.b.cs ++ [_, _, _]))[j]? = _
    rw [List.getElem?_append_left (by rw [key16]; omega)]
    exact hj
  · rw [show 1 + nm true * 16 + j = (16 + j) + 1 by show 1 + 1 * 16 + j = _; omega]
    show (S.a.cs ++ (S.b.cs ++ [_, _, _]))[16 + j]? = _
    rw [List.getElem?_append_right (by rw [key16]; omega), key16, show 16 + j - 16 = j by omega, List.getElem?_append_left (by rw [key16]; omega)]
    exact hj
theorem yields_key {ops : Array Oper} {op : Oper} {a : Act} {X : World → Prop} (hw : Region.wanted op (yielded ops a.tmps) = true) (x : Operand) (ho : op.op = .load 22 x) (b o : Nat) (hx : a.eval x = .pointer (some ⟨b, o, none⟩)) (k : Key) (hS : ∀ W, X W → W.rangeAt b o k.cs) :
    YieldsIf Try.prog ops X op (.agg k.cs.toArray) a := yieldsIf_load_mid hw 22 x ho b o hx k.cs _ hS Try.underlying22 rfl (by rw [key16]; exact sizeK)
end
end Go.Proofs.Ytfhlgmmfknfamaa
