/- Counting places: all lines together have as many as there are places in one. Conditions: those of each theorem. -/
import Derived.Test.YtlbloopiajjpfaaNews
namespace Go.Proofs.Ytlbloopiajjpfaa
open Go.RowKit

/-- How many places the first lines have. -/
def sumTo (L : List (List Nat)) : Nat → Nat
  | 0 => 0
  | l + 1 => sumTo L l + lenOf L (l : Int)
/-- How many of the first places are in a line. -/
def countIn (L : List (List Nat)) : Nat → Nat
  | 0 => 0
  | p + 1 => countIn L p + if (lineOf L (p : Int)).isSome then 1 else 0
theorem filter_more (F : List Nat) (hd : F.Nodup) (m : Nat) : (F.filter (fun x => decide (x < m + 1))).length = (F.filter (fun x => decide (x < m))).length + if m ∈ F then 1 else 0 := by
  induction F with
  | nil => simp
  | cons x F ih =>
    obtain ⟨h1, h2⟩ := List.nodup_cons.1 hd
    have ih := ih h2
    by_cases e : x = m
    · subst e
      rw [if_neg h1] at ih
      simp
      omega
    · by_cases hlt : x < m
      · have e1 : decide (x < m + 1) = true := by simp; omega
        have e2 : decide (x < m) = true := by simp; omega
        have e3 : m ∈ x :: F ↔ m ∈ F := by simp; omega
        simp only [List.filter_cons, e1, e2, if_true, List.length_cons, e3]
        omega
      · have e1 : decide (x < m + 1) = false := by simp; omega
        have e2 : decide (x < m) = false := by simp; omega
        have e3 : m ∈ x :: F ↔ m ∈ F := by simp; omega
        simp only [List.filter_cons, e1, e2, Bool.false_eq_true, if_false, e3]
        exact ih
theorem sumTo_take (L : List (List Nat)) (l : Nat) (hl : l ≤ L.length) : sumTo L l = ((L.take l).map List.length).sum := by
  induction l with
  | zero => simp [sumTo]
  | succ l ih =>
    have hlt : l < L.length := by omega
    have : lenOf L (l : Int) = L[l].length := by simp [lenOf, rowOf_nat (List.getElem?_eq_getElem hlt)]
    rw [sumTo, ih (by omega), this, ← List.take_append_getElem hlt, List.map_append, List.sum_append]
    rfl
theorem countIn_is (L : List (List Nat)) (hd : L.flatten.Nodup) (m : Nat) : countIn L m = (L.flatten.filter (fun x => decide (x < m))).length := by
  induction m with
  | zero =>
    have : L.flatten.filter (fun x => decide (x < 0)) = [] := by
      rw [List.filter_eq_nil_iff]
      intro x _
      simp
    rw [this]
    rfl
  | succ m ih =>
    rw [countIn, ih, filter_more _ hd]
    have : (lineOf L (m : Int)).isSome = true ↔ m ∈ L.flatten := by
      rcases e : lineOf L (m : Int) with _ | l
      · rcases lineOf_none e with h | ⟨p, hp, hno⟩
        · omega
        · obtain rfl : m = p := by omega
          simp
          intro xs hxs hm
          obtain ⟨l, hl⟩ := List.getElem?_of_mem hxs
          exact hno l xs hl hm
      · obtain ⟨p, xs, hp, hl, hm⟩ := lineOf_some e
        obtain rfl : m = p := by omega
        simp
        exact ⟨xs, List.mem_of_getElem? hl, hm⟩
    simp only [this]
theorem Lined.flat {n m : Nat} {L : List (List Nat)} {qs ss : List Value} (H : Lined n m L qs ss) : L.flatten.Nodup := by
  unfold List.Nodup
  rw [List.pairwise_flatten]
  refine ⟨fun xs hxs => ?_, ?_⟩
  · obtain ⟨l, hl⟩ := List.getElem?_of_mem hxs
    exact (H.link l xs hl).2
  · rw [List.pairwise_iff_getElem]
    intro i j hi hj hij x hx y hy e
    subst e
    have := H.one (List.getElem?_eq_getElem hi) (List.getElem?_eq_getElem hj) hx hy
    omega
theorem ChAt.counts {w : World} {g q s n m : Nat} {L : List (List Nat)} (h : ChAt w g q s n m L) : sumTo L n = countIn L m := by
  obtain ⟨qs, ss, b1, b2, b3, n1, n2, n3, H⟩ := h
  rw [countIn_is L H.flat, sumTo_take L n (by rw [H.len]; exact Nat.le_refl _)]
  have e1 : L.take n = L := by rw [← H.len]; exact List.take_length
  have e2 : L.flatten.filter (fun x => decide (x < m)) = L.flatten := by
    rw [List.filter_eq_self]
    intro x hx
    obtain ⟨xs, hxs, hx⟩ := List.mem_flatten.1 hx
    obtain ⟨l, hl⟩ := List.getElem?_of_mem hxs
    simpa using (H.inn l xs x hl hx).1
  rw [e1, e2, List.length_flatten]
theorem countIn_le (L : List (List Nat)) (p : Nat) : countIn L p ≤ p := by
  induction p with
  | zero => simp [countIn]
  | succ p ih => rw [countIn]; split <;> omega
theorem ChAt.short {w : World} {g q s n m : Nat} {L : List (List Nat)} (h : ChAt w g q s n m L) (x : Int) : lenOf L x ≤ m := by
  obtain ⟨qs, ss, b1, b2, b3, n1, n2, n3, H⟩ := h
  rcases e : rowOf L x with _ | xs
  · simp [lenOf, e]
  · obtain ⟨l, rfl, hl⟩ := rowOf_some e
    simpa [lenOf, e] using H.short hl
theorem ChAt.sum_le {w : World} {g q s n m : Nat} {L : List (List Nat)} (h : ChAt w g q s n m L) (l : Nat) : sumTo L l ≤ l * m := by
  induction l with
  | zero => simp [sumTo]
  | succ l ih =>
    have := h.short (l : Int)
    rw [sumTo, Nat.succ_mul]
    omega
/-- A place of a line is in that line. -/
theorem ChAt.there {w : World} {g q s n m : Nat} {L : List (List Nat)} (h : ChAt w g q s n m L) {l i : Nat} (hi : i < lenOf L (l : Int)) : ∃ p : Nat, atOf L (l : Int) (i : Int) = some p ∧ lineOf L (p : Int) = some l := by
  rcases e : atOf L (l : Int) (i : Int) with _ | p
  · have := atOf_none e
    omega
  · obtain ⟨l', j, xs, hl', hj', hl, hj, _⟩ := atOf_some e
    obtain rfl : l = l' := by omega
    refine ⟨p, rfl, ?_⟩
    obtain ⟨qs, ss, b1, b2, b3, n1, n2, n3, H⟩ := h
    have hm := List.mem_of_getElem? hj
    rcases e2 : lineOf L (p : Int) with _ | l'
    · rcases lineOf_none e2 with h | ⟨p', hp, hno⟩
      · omega
      · obtain rfl : p = p' := by omega
        exact absurd hm (hno l xs hl)
    · obtain ⟨p', xs', hp, hl', hm'⟩ := lineOf_some e2
      obtain rfl : p = p' := by omega
      rw [H.one hl hl' hm hm']
end Go.Proofs.Ytlbloopiajjpfaa
