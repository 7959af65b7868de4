/- The kinds of entries: with a number, with a text. No conditions. -/
import Derived.Test.YtpjeeccgpnpokaaSearch
import Derived.Test.YtpjeeccgpnpokaaTabs
namespace Go.Proofs.Ytpjeeccgpnpokaa
open Go.RowKit

/-- What a prefix has, f its tokens' block; the zero of it where the term is 0. -/
def sv (f : Pre → Nat) (e : Ent) : List Value := [.int .i64 e.u, .pointer (if e.u = 0 then none else some ⟨f e.p, 0, none⟩)]
def kSt (f : Pre → Nat) : Kin Ent := ⟨fun e => e.p.cs ++ sv f e, 10, by decide, fun _ => rfl, fun e u hu => by
  rcases List.mem_append.1 hu with h | h
  · exact pre_each _ u h
  · simp only [sv, List.mem_cons, List.not_mem_nil, or_false] at h
    rcases h with h | h <;> (rw [h]; rfl)⟩
theorem kSt_n (f : Pre → Nat) : (kSt f).n = 10 := rfl
theorem sv_of (f : Pre → Nat) (e : Ent) (h : e.u ≠ 0) : sv f e = [.int .i64 e.u, .pointer (some ⟨f e.p, 0, none⟩)] := by simp [sv, h]
/-- The prefix of an entry that is read. -/
theorem els_pre {K : Kin Ent} (hK : ∀ e, (K.cs e).take 8 = e.p.cs) (hn : K.n = 10) {w : World} {q o : Nat} {L : List Ent} (h : Els K w (some ⟨q, o, none⟩) L) {k : Nat} (hk : k < L.length) : w.rangeAt q (o + k * 10) (at_ L k).p.cs := by
  obtain ⟨q', o', e, hr⟩ := h k _ (at_some hk)
  cases e
  rw [hn] at hr
  intro j u hj
  refine hr j u ?_
  rw [← hK] at hj
  rw [List.getElem?_take] at hj
  split at hj
  · exact hj
  · cases hj
/-- .. and what it has. -/
theorem els_val {f : Pre → Nat} {w : World} {q o : Nat} {L : List Ent} (h : Els (kSt f) w (some ⟨q, o, none⟩) L) {k : Nat} (hk : k < L.length) : w.rangeAt q (o + k * 10 + 8) (sv f (at_ L k)) := by
  obtain ⟨q', o', e, hr⟩ := h k _ (at_some hk)
  cases e
  rw [kSt_n] at hr
  intro j u hj
  have := hr (8 + j) u (by
    rw [show (kSt f).cs (at_ L k) = (at_ L k).p.cs ++ sv f (at_ L k) from rfl, List.getElem?_append_right (by rw [cs8]; omega), cs8, show 8 + j - 8 = j by omega]
    exact hj)
  rwa [← Nat.add_assoc] at this
theorem box_two (g : Nat) (t : TypeId) (p : Pre) (w : World) : ((w.alloc (.cells #[.pointer (some ⟨g, 0, none⟩)] t)).alloc (.cells p.cs.toArray 31)).cell? ⟨w.heap.size, 0, none⟩ = some (.pointer (some ⟨g, 0, none⟩)) ∧ Blk ((w.alloc (.cells #[.pointer (some ⟨g, 0, none⟩)] t)).alloc (.cells p.cs.toArray 31)) (w.heap.size + 1) 31 p.cs ∧ Below w.heap.size w ((w.alloc (.cells #[.pointer (some ⟨g, 0, none⟩)] t)).alloc (.cells p.cs.toArray 31)) := by
  refine ⟨((Blk.new w t [.pointer (some ⟨g, 0, none⟩)]).alloc _).cell 0, ?_, ((Below.refl _ w).alloc (Nat.le_refl _) _).alloc (by simp) _⟩
  have := Blk.new (w.alloc (.cells #[.pointer (some ⟨g, 0, none⟩)] t)) 31 p.cs
  rwa [show (w.alloc (.cells #[.pointer (some ⟨g, 0, none⟩)] t)).heap.size = w.heap.size + 1 by simp] at this
end Go.Proofs.Ytpjeeccgpnpokaa
