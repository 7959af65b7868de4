/- The kinds of entries: with a number, with a text. No conditions. -/
import Derived.Test.YteddnbabgahhfaaSearch
import Derived.Test.YteddnbabgahhfaaTabs
namespace Go.Proofs.Yteddnbabgahhfaa
open Go.RowKit

/-- The text that a number stands for: 0: none. -/
def tx (s : ByteArray) (z : Int) : ByteArray := if z = 0 then ByteArray.empty else s
def kTx (s : ByteArray) : Kin Ent := ⟨fun e => e.p.cs ++ [.string (tx s e.v)], 9, by decide, fun _ => rfl, fun e u hu => by
  rcases List.mem_append.1 hu with h | h
  · exact pre_each _ u h
  · simp only [List.mem_cons, List.not_mem_nil, or_false] at h
    rw [h]; rfl⟩
theorem kTx_n (s : ByteArray) : (kTx s).n = 9 := rfl
theorem kEnt_n : kEnt.n = 9 := rfl
/-- The prefix of an entry that is read. -/
theorem els_pre {K : Kin Ent} (hK : ∀ e, (K.cs e).take 8 = e.p.cs) (hn : K.n = 9) {w : World} {q o : Nat} {L : List Ent} (h : Els K w (some ⟨q, o, none⟩) L) {k : Nat} (hk : k < L.length) : w.rangeAt q (o + k * 9) (at_ L k).p.cs := by
  obtain ⟨q', o', e, hr⟩ := h k _ (at_some hk)
  cases e
  rw [hn] at hr
  intro j u hj
  refine hr j u ?_
  rw [← hK] at hj
  rw [List.getElem?_take] at hj
  split at hj
  · exact hj
  · cases hj
/-- .. and what it has. -/
theorem els_val {K : Kin Ent} (hn : K.n = 9) {w : World} {q o : Nat} {L : List Ent} (h : Els K w (some ⟨q, o, none⟩) L) {k : Nat} (hk : k < L.length) {u : Value} (hu : (K.cs (at_ L k))[8]? = some u) : w.cell? ⟨q, o + k * 9 + 8, none⟩ = some u := by
  obtain ⟨q', o', e, hr⟩ := h k _ (at_some hk)
  cases e
  rw [hn] at hr
  exact hr 8 u hu
theorem box_two (g : Nat) (t : TypeId) (p : Pre) (w : World) : ((w.alloc (.cells #[.pointer (some ⟨g, 0, none⟩)] t)).alloc (.cells p.cs.toArray 31)).cell? ⟨w.heap.size, 0, none⟩ = some (.pointer (some ⟨g, 0, none⟩)) ∧ Blk ((w.alloc (.cells #[.pointer (some ⟨g, 0, none⟩)] t)).alloc (.cells p.cs.toArray 31)) (w.heap.size + 1) 31 p.cs ∧ Below w.heap.size w ((w.alloc (.cells #[.pointer (some ⟨g, 0, none⟩)] t)).alloc (.cells p.cs.toArray 31)) := by
  refine ⟨((Blk.new w t [.pointer (some ⟨g, 0, none⟩)]).alloc _).cell 0, ?_, ((Below.refl _ w).alloc (Nat.le_refl _) _).alloc (by simp) _⟩
  have := Blk.new (w.alloc (.cells #[.pointer (some ⟨g, 0, none⟩)] t)) 31 p.cs
  rwa [show (w.alloc (.cells #[.pointer (some ⟨g, 0, none⟩)] t)).heap.size = w.heap.size + 1 by simp] at this
end Go.Proofs.Yteddnbabgahhfaa
