/- Where a law's loop of countings stands; what Slots told. Conditions: those of each theorem. -/
import Derived.Test.YteeobeeoefokdaaAwake
import Derived.Test.YteeobeeoefokdaaTruth
namespace Go.Proofs.Yteeobeeoefokdaa
open Go.RowKit

/-- Where a law's loop of countings stands. -/
def Ran (w : World) (g q M : Nat) (P : Nat → Pre) (X : Nat → Int) (k : Nat) (w' : World) : Prop := SAt w' g q M (ran M P X k) (tot X k) ∧ Below w.heap.size w w'
theorem Ran.next {w w' w'' : World} {g q M : Nat} {P : Nat → Pre} {X : Nat → Int} {k : Nat} (h : Ran w g q M P X k w') (hs : SAt w'' g q M (stp M (ran M P X k) (P k) (X k)) (addK (tot X k) (X k))) (hf : Far (two g q) w' w'') (hg : w.heap.size ≤ g) (hq : w.heap.size ≤ q) : Ran w g q M P X (k + 1) w'' :=
  ⟨hs, below_far h.2 hf hg hq h.2.size⟩
theorem Ran.at_ {w w' : World} {g q M : Nat} {P : Nat → Pre} {X : Nat → Int} {k : Nat} (h : Ran w g q M P X k w') : SAt w' g q M (ran M P X k) (tot X k) := h.1
theorem Ran.be {w w' : World} {g q M : Nat} {P : Nat → Pre} {X : Nat → Int} {k : Nat} (h : Ran w g q M P X k w') : Below w.heap.size w w' := h.2

/-- What Slots told: the slots L, from block base on. -/
def RowAt (base : Nat) (A : Option Addr) (c : Nat) (L : List Slo) (w : World) : Prop := (A = none ∧ L = []) ∨ ∃ q, A = some ⟨q, 0, none⟩ ∧ base ≤ q ∧ Rw w 52 q c L
theorem RowAt.below {base c : Nat} {A : Option Addr} {L : List Slo} {w w' : World} (h : RowAt base A c L w) (hb : Below w.heap.size w w') : RowAt base A c L w' := by
  rcases h with h | ⟨q, e, hq, hr⟩
  · exact .inl h
  · exact .inr ⟨q, e, hq, hr.below hb⟩
theorem RowAt.drewN {base c : Nat} {A : Option Addr} {L : List Slo} {w : World} (h : RowAt base A c L w) (n : Nat) : RowAt base A c L (w.drewN n) := h
theorem RowAt.far {base c g : Nat} {A : Option Addr} {L : List Slo} {w w' : World} (h : RowAt base A c L w) (hf : Far (only g) w w') (hn : ∀ q, A = some ⟨q, 0, none⟩ → g ≠ q) : RowAt base A c L w' := by
  rcases h with h | ⟨q, e, hq, hr⟩
  · exact .inl h
  · exact .inr ⟨q, e, hq, hr.far hf (fun e' => hn q e (Eq.symm e'))⟩
theorem RowAt.at_ {base c k : Nat} {A : Option Addr} {L : List Slo} {w : World} (h : RowAt base A c L w) (hk : k < L.length) : ∃ q, A = some ⟨q, 0, none⟩ ∧ base ≤ q ∧ Rw w 52 q c L := by
  rcases h with ⟨_, rfl⟩ | h
  · simp at hk
  · exact h
end Go.Proofs.Yteeobeeoefokdaa
