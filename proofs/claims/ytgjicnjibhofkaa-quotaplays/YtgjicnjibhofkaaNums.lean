/- Plain mathematics of a quota: what all classes have as a list of numbers, what is shared, and what Fits, Add, Sub and Move make of it. Conditions: those of each theorem. -/
namespace Go.Proofs.Ytgjicnjibhofkaa

/-- What class k has. -/
def atOf (L : List Nat) (k : Nat) : Nat := L.getD k 0
/-- What is shared. -/
def used (R : Nat) : List Nat → Nat
  | [] => 0
  | x :: xs => (x - R) + used R xs
/-- What all have. -/
def total : List Nat → Nat
  | [] => 0
  | x :: xs => x + total xs
def has (L : List Nat) (x : Int) : Bool := decide (0 ≤ x) && decide (x < (L.length : Int))
def isz (n : Int) : Bool := decide (0 ≤ n) && decide (n ≤ 1073741824)
def plus (L : List Nat) (k n : Nat) : List Nat := L.set k (atOf L k + n)
def less (L : List Nat) (k n : Nat) : List Nat := L.set k (atOf L k - n)
def fits (R S : Nat) (L : List Nat) (x n : Int) : Bool := has L x && isz n && decide (used R (plus L x.toNat n.toNat) ≤ S)
def addOf (R S : Nat) (L : List Nat) (x n : Int) : List Nat := if fits R S L x n then plus L x.toNat n.toNat else L
def canSub (L : List Nat) (x n : Int) : Bool := has L x && decide (0 ≤ n) && decide (n ≤ (atOf L x.toNat : Int))
def subOf (L : List Nat) (x n : Int) : List Nat := if canSub L x n then less L x.toNat n.toNat else L
def canMove (L : List Nat) (x y n : Int) : Bool := canSub L x n && has L y
def moveOf (L : List Nat) (x y n : Int) : List Nat := if canMove L x y n then plus (less L x.toNat n.toNat) y.toNat n.toNat else L
def bytesOf (L : List Nat) (x : Int) : Nat := if has L x then atOf L x.toNat else 0

section
variable {R S : Nat} {L : List Nat} {k v : Nat}
theorem used_set (h : k < L.length) : used R (L.set k v) + (atOf L k - R) = used R L + (v - R) := by
  induction L generalizing k with
  | nil => simp at h
  | cons x xs ih =>
    rcases k with _ | k
    · simp [used, atOf]; omega
    · have := @ih k (by simpa using h)
      simp [used, atOf] at this ⊢
      omega
theorem total_set (h : k < L.length) : total (L.set k v) + atOf L k = total L + v := by
  induction L generalizing k with
  | nil => simp at h
  | cons x xs ih =>
    rcases k with _ | k
    · simp [total, atOf]; omega
    · have := @ih k (by simpa using h)
      simp [total, atOf] at this ⊢
      omega
theorem used_le (R : Nat) (L : List Nat) : used R L ≤ total L := by
  induction L with
  | nil => simp [used, total]
  | cons x xs ih => simp [used, total]; omega
theorem total_le (R : Nat) (L : List Nat) : total L ≤ used R L + L.length * R := by
  induction L with
  | nil => simp [used, total]
  | cons x xs ih => simp [used, total, Nat.succ_mul]; omega
theorem at_le (L : List Nat) (k : Nat) : atOf L k ≤ total L := by
  induction L generalizing k with
  | nil => simp [atOf]
  | cons x xs ih =>
    rcases k with _ | k
    · simp [total, atOf]
    · have := ih k
      simp [total, atOf] at this ⊢
      omega
theorem at_used (R : Nat) (L : List Nat) (k : Nat) : atOf L k - R ≤ used R L := by
  induction L generalizing k with
  | nil => simp [atOf, used]
  | cons x xs ih =>
    rcases k with _ | k
    · simp [used, atOf]
    · have := ih k
      simp [used, atOf] at this ⊢
      omega
theorem at_set_self (h : k < L.length) : atOf (L.set k v) k = v := by simp [atOf, List.getD_eq_getElem?_getD, h]
theorem at_set_ne {j : Nat} (h : k ≠ j) : atOf (L.set k v) j = atOf L j := by simp [atOf, List.getD_eq_getElem?_getD, h]
theorem at_some (h : k < L.length) : L[k]? = some (atOf L k) := by simp [atOf, List.getD_eq_getElem?_getD, h]
theorem used_zero (R n : Nat) : used R (List.replicate n 0) = 0 := by
  induction n with
  | zero => rfl
  | succ n ih => simp [List.replicate_succ, used, ih]
theorem total_zero (n : Nat) : total (List.replicate n 0) = 0 := by
  induction n with
  | zero => rfl
  | succ n ih => simp [List.replicate_succ, total, ih]
theorem has_iff {x : Int} : has L x = true ↔ ∃ j : Nat, x = j ∧ j < L.length := by
  simp [has]
  constructor
  · rintro ⟨h1, h2⟩
    exact ⟨x.toNat, by omega, by omega⟩
  · rintro ⟨j, rfl, h⟩
    exact ⟨by omega, by omega⟩
theorem has_not {x : Int} : has L x = false ↔ x < 0 ∨ (L.length : Int) ≤ x := by
  rcases h : has L x with _ | _
  · simp
    simp [has] at h
    omega
  · simp
    simp [has] at h
    omega
theorem set_same (L : List Nat) (k : Nat) : L.set k (atOf L k) = L := by
  by_cases h : k < L.length
  · apply List.ext_getElem (by simp)
    intro i h1 h2
    rw [List.getElem_set]
    split
    · subst k; simp [atOf, List.getD_eq_getElem?_getD, h2]
    · rfl
  · exact List.set_eq_of_length_le (by omega)
theorem plus_length (L : List Nat) (k n : Nat) : (plus L k n).length = L.length := by simp [plus]
theorem less_length (L : List Nat) (k n : Nat) : (less L k n).length = L.length := by simp [less]
theorem less_plus (L : List Nat) (k n : Nat) : less (plus L k n) k n = L := by
  by_cases h : k < L.length
  · unfold less plus
    rw [at_set_self h, List.set_set, Nat.add_sub_cancel, set_same]
  · unfold less plus
    rw [List.set_eq_of_length_le (by simp; omega), List.set_eq_of_length_le (by omega)]
theorem plus_less {n : Nat} (h : n ≤ atOf L k) : plus (less L k n) k n = L := by
  by_cases hk : k < L.length
  · unfold less plus
    rw [at_set_self hk, List.set_set, Nat.sub_add_cancel h, set_same]
  · unfold less plus
    rw [List.set_eq_of_length_le (by simp; omega), List.set_eq_of_length_le (by omega)]
/-- Moved there and back. -/
theorem move_back {x y n : Nat} (h : n ≤ atOf L x) (hy : y < L.length) :
    n ≤ atOf (plus (less L x n) y n) y ∧ plus (less (plus (less L x n) y n) y n) x n = L := by
  constructor
  · unfold plus
    rw [at_set_self (by rw [less_length]; exact hy)]
    omega
  · rw [less_plus, plus_less h]
end

/-- What may be. -/
structure Ok (R S : Nat) (L : List Nat) : Prop where
  lo : 1 ≤ L.length
  hi : L.length ≤ 129
  r : R ≤ 1073741824
  s : S ≤ 1073741824
  all : total L ≤ 139586437120
section
variable {R S : Nat} {L : List Nat}
theorem Ok.new {n : Nat} (h1 : 1 ≤ n) (h2 : n ≤ 129) (hr : R ≤ 1073741824) (hs : S ≤ 1073741824) : Ok R S (List.replicate n 0) :=
  ⟨by simpa using h1, by simpa using h2, hr, hs, by rw [total_zero]; omega⟩
theorem Ok.plus_fits (h : Ok R S L) {k n : Nat} (hu : used R (plus L k n) ≤ S) : Ok R S (plus L k n) := by
  refine ⟨by rw [plus_length]; exact h.lo, by rw [plus_length]; exact h.hi, h.r, h.s, ?_⟩
  have h1 := total_le R (plus L k n)
  have h2 := Nat.mul_le_mul (show (plus L k n).length ≤ 129 by rw [plus_length]; exact h.hi) h.r
  have := h.s
  omega
theorem Ok.less (h : Ok R S L) (k n : Nat) : Ok R S (less L k n) := by
  refine ⟨by rw [less_length]; exact h.lo, by rw [less_length]; exact h.hi, h.r, h.s, ?_⟩
  have := h.all
  by_cases hk : k < L.length
  · have h1 := total_set (v := atOf L k - n) hk
    unfold Ytgjicnjibhofkaa.less
    omega
  · unfold Ytgjicnjibhofkaa.less
    rw [List.set_eq_of_length_le (by omega)]
    omega
theorem Ok.move (h : Ok R S L) {k j n : Nat} (hk : k < L.length) (hn : n ≤ atOf L k) : Ok R S (plus (Ytgjicnjibhofkaa.less L k n) j n) := by
  have hl := h.less k n
  refine ⟨by rw [plus_length]; exact hl.lo, by rw [plus_length]; exact hl.hi, h.r, h.s, ?_⟩
  have h0 := h.all
  have h1 := total_set (v := atOf L k - n) hk
  by_cases hj : j < L.length
  · have h2 := total_set (L := Ytgjicnjibhofkaa.less L k n) (k := j) (v := atOf (Ytgjicnjibhofkaa.less L k n) j + n) (by rw [less_length]; exact hj)
    unfold plus
    have h3 : total (Ytgjicnjibhofkaa.less L k n) = total (L.set k (atOf L k - n)) := rfl
    omega
  · unfold plus
    rw [List.set_eq_of_length_le (by rw [less_length]; omega)]
    exact hl.all
theorem Ok.add (h : Ok R S L) (x n : Int) : Ok R S (addOf R S L x n) := by
  unfold addOf
  split
  · rename_i hf
    simp [fits] at hf
    exact h.plus_fits hf.2
  · exact h
theorem Ok.sub (h : Ok R S L) (x n : Int) : Ok R S (subOf L x n) := by
  unfold subOf
  split
  · exact h.less _ _
  · exact h
theorem Ok.moved (h : Ok R S L) (x y n : Int) : Ok R S (moveOf L x y n) := by
  unfold moveOf
  split
  · rename_i hf
    simp [canMove, canSub] at hf
    obtain ⟨j, rfl, hj⟩ := has_iff.1 hf.1.1.1
    exact h.move (by simpa using hj) (by have := hf.1.2; omega)
  · exact h
theorem addOf_length (R S : Nat) (L : List Nat) (x n : Int) : (addOf R S L x n).length = L.length := by
  unfold addOf; split <;> simp [plus]
theorem subOf_length (L : List Nat) (x n : Int) : (subOf L x n).length = L.length := by
  unfold subOf; split <;> simp [less]
theorem moveOf_length (L : List Nat) (x y n : Int) : (moveOf L x y n).length = L.length := by
  unfold moveOf; split <;> simp [plus, less]
end
end Go.Proofs.Ytgjicnjibhofkaa
