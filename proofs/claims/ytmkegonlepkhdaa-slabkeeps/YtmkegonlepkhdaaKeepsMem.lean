/- Where the loops of the law SlabKeeps stand. Conditions: those of each theorem. -/
import Derived.Test.YtmkegonlepkhdaaRowed
namespace Go.Proofs.Ytmkegonlepkhdaa
open Go.RowKit

/-- The slab, and the list of places. -/
def KeepsRel (w : World) (g q f n k : Nat) (vs : List (Option Value)) (fr : List Nat) (At : Nat → Nat) (v : Value) (w' : World) : Prop :=
  SlabAt 49 51 (.int .i64 0) w' g q f n vs fr ∧ w'.ownsRow w.heap.size 3 1 v k (ints (ats At k)) ∧ v.ownBlock ≠ some f ∧ Below w.heap.size w w'
/-- What came in: numbers, and which are given back. -/
def KeepsArgs (w : World) (A B : Option Addr) (n : Nat) (X : Nat → Int) (Y : Nat → Bool) : Prop :=
  ∀ k, k < n → ∃ a b : Addr, A = some a ∧ B = some b ∧ w.cell? (a.add k) = some (.int .i64 (X k)) ∧ w.cell? (b.add k) = some (.bool (Y k))
/-- The first loop: k have been taken. -/
def Took (X : Nat → Int) (At : Nat → Nat) (k : Nat) (vs : List (Option Value)) : Prop :=
  (∀ j, j < k → vs[At j]? = some (some (Value.int .i64 (X j)))) ∧ ∀ i j, i < k → j < k → At i = At j → i = j
/-- The second loop: of the first k some have been given back. -/
def Gave (X : Nat → Int) (Y : Nat → Bool) (At : Nat → Nat) (n k : Nat) (vs : List (Option Value)) : Prop :=
  ∀ j, j < n → vs[At j]? = if j < k ∧ Y j = true then some none else some (some (Value.int .i64 (X j)))
/-- The third loop: what was given back is free, or taken again. -/
def Again (X : Nat → Int) (Y : Nat → Bool) (At : Nat → Nat) (n : Nat) (vs : List (Option Value)) : Prop :=
  ∀ j, j < n → (Y j = false → vs[At j]? = some (some (Value.int .i64 (X j)))) ∧ (Y j = true → vs[At j]? = some none ∨ vs[At j]? = some (some (Value.int .i64 (-7))))

theorem Took.more {X : Nat → Int} {At : Nat → Nat} {k p : Nat} {vs : List (Option Value)} (h : Took X At k vs) (hp : vs[p]? = some none) : Took X (more At k p) (k + 1) (vs.set p (some (.int .i64 (X k)))) := by
  have hne : ∀ j, j < k → p ≠ At j := fun j hj e => by
    have := h.1 j hj
    rw [← e, hp] at this
    cases this
  refine ⟨fun j hj => ?_, fun i j hi hj e => ?_⟩
  · by_cases e : j = k
    · subst e
      rw [show Ytmkegonlepkhdaa.more At j p j = p by simp [Ytmkegonlepkhdaa.more]]
      exact List.getElem?_set_self (List.getElem?_eq_some_iff.1 hp).1
    · rw [show Ytmkegonlepkhdaa.more At k p j = At j by simp [Ytmkegonlepkhdaa.more, e], List.getElem?_set_ne (hne j (by omega))]
      exact h.1 j (by omega)
  · unfold Ytmkegonlepkhdaa.more at e
    split at e <;> split at e
    · omega
    · exact absurd e (hne j (by omega))
    · exact absurd e.symm (hne i (by omega))
    · exact h.2 i j (by omega) (by omega) e
theorem Gave.first {X : Nat → Int} {Y : Nat → Bool} {At : Nat → Nat} {n : Nat} {vs : List (Option Value)} (h : Took X At n vs) : Gave X Y At n 0 vs := fun j hj => by
  rw [if_neg (by omega)]
  exact h.1 j hj
theorem Gave.skip {X : Nat → Int} {Y : Nat → Bool} {At : Nat → Nat} {n k : Nat} {vs : List (Option Value)} (h : Gave X Y At n k vs) (hy : Y k = false) : Gave X Y At n (k + 1) vs := fun j hj => by
  rw [h j hj]
  by_cases e : j = k
  · subst e
    simp [hy]
  · simp only [show j < k + 1 ↔ j < k by omega]
theorem Gave.step {X : Nat → Int} {Y : Nat → Bool} {At : Nat → Nat} {n k : Nat} {vs : List (Option Value)} (h : Gave X Y At n k vs) (hy : Y k = true) (hk : k < n) (hinj : ∀ i j, i < n → j < n → At i = At j → i = j) : Gave X Y At n (k + 1) (vs.set (At k) none) := fun j hj => by
  have hk' := h k hk
  rw [if_neg (by omega)] at hk'
  by_cases e : j = k
  · subst e
    rw [if_pos ⟨by omega, hy⟩]
    exact List.getElem?_set_self (List.getElem?_eq_some_iff.1 hk').1
  · rw [List.getElem?_set_ne (fun e' => e (hinj _ _ hk hj e').symm), h j hj]
    simp only [show j < k + 1 ↔ j < k by omega]
theorem Again.first {X : Nat → Int} {Y : Nat → Bool} {At : Nat → Nat} {n : Nat} {vs : List (Option Value)} (h : Gave X Y At n n vs) : Again X Y At n vs := fun j hj => by
  have := h j hj
  refine ⟨fun hy => ?_, fun hy => .inl ?_⟩
  · rw [if_neg (by simp [hy])] at this
    exact this
  · rw [if_pos ⟨hj, hy⟩] at this
    exact this
theorem Again.step {X : Nat → Int} {Y : Nat → Bool} {At : Nat → Nat} {n p : Nat} {vs : List (Option Value)} (h : Again X Y At n vs) (hp : vs[p]? = some none) : Again X Y At n (vs.set p (some (.int .i64 (-7)))) := fun j hj => by
  obtain ⟨h1, h2⟩ := h j hj
  refine ⟨fun hy => ?_, fun hy => ?_⟩
  · have hv := h1 hy
    rw [List.getElem?_set_ne (fun e => by rw [e, hv] at hp; cases hp)]
    exact hv
  · by_cases e : p = At j
    · rw [← e]
      exact .inr (List.getElem?_set_self (List.getElem?_eq_some_iff.1 hp).1)
    · rw [List.getElem?_set_ne e]
      exact h2 hy
section
variable {w wr w' : World} {g q f n k : Nat} {vs vs' : List (Option Value)} {fr fr' : List Nat} {At : Nat → Nat} {v : Value}
theorem KeepsRel.turn (h : KeepsRel w g q f n k vs fr At v wr) (hr : SlabAt 49 51 (.int .i64 0) w' g q f n vs' fr') (hf : Far (three g q f) wr w') (a1 : w.heap.size ≤ g) (a2 : w.heap.size ≤ q) (a3 : w.heap.size ≤ f) : KeepsRel w g q f n k vs' fr' At v w' := by
  obtain ⟨h1, h2, h3, h4⟩ := h
  refine ⟨hr, hf.row h2 (fun b e hb => ?_), h3, below_three h4 hf a1 a2 a3 h4.size⟩
  obtain ⟨cs, fs, b1, b2, b3, _⟩ := h1
  rcases hb with rfl | rfl | rfl
  · exact b1.row_apart h2 (by decide) e
  · exact b2.row_apart h2 (by decide) e
  · exact h3 e
theorem KeepsRel.app {A' : Option Addr} {c' p : Nat} {o : Obj} (h : KeepsRel w g q f n k vs fr At v wr) (h1 : w'.ownsRow w.heap.size 3 1 (.slice A' (k + 1) c') (k + 1) (ints (ats (more At k p) (k + 1)))) (h2 : (wr.alloc o).grownBy w' v.ownBlock)
    (h3 : (Value.slice A' (k + 1) c').ownBlock = v.ownBlock ∨ (Value.slice A' (k + 1) c').ownBlock = some (wr.alloc o).heap.size) : KeepsRel w g q f n (k + 1) vs fr (more At k p) (.slice A' (k + 1) c') w' := by
  obtain ⟨r1, r2, r3, r4⟩ := h
  have hlt := r1.lt
  have hg : v.ownBlock ≠ some g := by obtain ⟨cs, fs, b1, b2, b3, _⟩ := r1; exact b1.row_apart r2 (by decide)
  have hq : v.ownBlock ≠ some q := by obtain ⟨cs, fs, b1, b2, b3, _⟩ := r1; exact b2.row_apart r2 (by decide)
  refine ⟨r1.far (S := fun b => v.ownBlock = some b) (((Far.refl _ wr).alloc o).grown h2 (fun k e _ => e)) hg hq r3, h1, ?_, (r4.alloc r4.size o).grown h2 (by have := r4.size; simp; omega) (fun k e => (r2.lt k e).1)⟩
  rcases h3 with h | h
  · rw [h]; exact r3
  · rw [h]
    simp
    omega
end
end Go.Proofs.Ytmkegonlepkhdaa
