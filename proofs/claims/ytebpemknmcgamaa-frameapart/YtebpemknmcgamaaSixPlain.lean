/- What a packet tells, said of plain lists. Conditions: those of each theorem. -/
import Derived.Test.YtebpemknmcgamaaMem
namespace Go.Proofs.Ytebpemknmcgamaa.six

/-- The number of two bytes at a place. -/
def wd (bs : List Int) (p : Nat) : Nat := (bs.getD p 0).toNat * 256 + (bs.getD (p + 1) 0).toNat
theorem wd_int {bs : List Int} (ho : Octs bs) (p : Nat) : bs.getD p 0 * 256 + bs.getD (p + 1) 0 = ((wd bs p : Nat) : Int) := by
  have h1 := ho.at_ p
  have h2 := ho.at_ (p + 1)
  unfold wd
  omega
theorem wd_bd {bs : List Int} (ho : Octs bs) (p : Nat) : wd bs p ≤ 65535 := by
  have h1 := ho.at_ p
  have h2 := ho.at_ (p + 1)
  unfold wd
  omega
theorem wd_drop (bs : List Int) (p q : Nat) : wd (bs.drop p) q = wd bs (p + q) := by
  unfold wd
  simp [List.getD_eq_getElem?_getD, List.getElem?_drop, Nat.add_assoc]
theorem getD_take {bs : List Int} {x j : Nat} (h : j < x) : (bs.take x).getD j 0 = bs.getD j 0 := by
  rw [List.getD_eq_getElem?_getD, List.getD_eq_getElem?_getD, List.getElem?_take_of_lt h]
theorem getD_left {bs cs : List Int} {j : Nat} (h : j < bs.length) : (bs ++ cs).getD j 0 = bs.getD j 0 := by
  rw [List.getD_eq_getElem?_getD, List.getD_eq_getElem?_getD, List.getElem?_append_left h]

/-- Does the number tell of one more head? -/
def tells (p : Int) : Bool := p == 0 || p == 43 || p == 44 || p == 60
/-- How many bytes that head has. -/
def size_ (p : Int) (ls : List Int) : Nat := if p = 44 ∨ ls.length < 8 then 8 else ((ls.getD 1 0).toNat + 1) * 8
/-- Is what stands behind that head no later piece? -/
def early (p : Int) (ls : List Int) : Bool := p != 44 || wd ls 2 / 8 == 0
/-- A reason, what comes next, what is left, and whether it is no later piece. -/
abbrev Ans := Nat × Int × List Int × Bool
def no (r : Nat) : Ans := (r, 0, [], false)
/-- Head by head, k more at most; f: is it no later piece yet? -/
def goes : Nat → Bool → Int → List Int → Ans
  | _, false, p, ls => (0, p, ls, false)
  | 0, true, p, ls => if tells p then no 6 else (0, p, ls, true)
  | k + 1, true, p, ls => if tells p then (if ls.length < size_ p ls then no 1 else goes k (early p ls) (ls.getD 0 0) (ls.drop (size_ p ls))) else (0, p, ls, true)
/-- Why b begins with no head and all that it says, or 0. -/
def why (bs : List Int) : Nat :=
  if bs.length < 40 then 1 else if (bs.getD 0 0).toNat / 16 ≠ 6 then 3 else if bs.length < 40 + wd bs 4 then 5 else 0
/-- What stands behind the head. -/
def behind (bs : List Int) : List Int := (bs.take (40 + wd bs 4)).drop 40
/-- What a packet tells. -/
def tel (bs : List Int) : Ans := if why bs = 0 then goes 8 true (bs.getD 6 0) (behind bs) else no (why bs)

theorem goes_false (k : Nat) (p : Int) (ls : List Int) : goes k false p ls = (0, p, ls, false) := by cases k <;> rfl
theorem goes_plain {k : Nat} {p : Int} {ls : List Int} (h : tells p = false) : goes k true p ls = (0, p, ls, true) := by
  cases k <;> simp [goes, h]
theorem goes_many {p : Int} {ls : List Int} (h : tells p = true) : goes 0 true p ls = no 6 := by simp [goes, h]
theorem goes_short {k : Nat} {p : Int} {ls : List Int} (h : tells p = true) (hl : ls.length < size_ p ls) : goes (k + 1) true p ls = no 1 := by simp [goes, h, hl]
theorem goes_on {k : Nat} {p : Int} {ls : List Int} (h : tells p = true) (hl : size_ p ls ≤ ls.length) : goes (k + 1) true p ls = goes k (early p ls) (ls.getD 0 0) (ls.drop (size_ p ls)) := by
  rw [goes, if_pos h, if_neg (by omega)]
theorem size_8 (p : Int) (ls : List Int) : 8 ≤ size_ p ls := by
  unfold size_
  split <;> omega
theorem size_bd {ls : List Int} (ho : Octs ls) (p : Int) : size_ p ls ≤ 2048 := by
  have := ho.at_ 1
  unfold size_
  split <;> omega

/-- Beside a reason: nothing. -/
theorem goes_no : ∀ {k : Nat} {f : Bool} {p : Int} {ls : List Int}, (goes k f p ls).1 ≠ 0 → goes k f p ls = no (goes k f p ls).1
  | k, false, p, ls, h => by rw [goes_false] at h; exact absurd rfl h
  | 0, true, p, ls, h => by
    rw [goes] at h ⊢
    split
    · rfl
    · next hp => rw [if_neg hp] at h; exact absurd rfl h
  | k + 1, true, p, ls, h => by
    rw [goes] at h ⊢
    split
    · next hp =>
      rw [if_pos hp] at h
      split
      · rfl
      · next hl =>
        rw [if_neg hl] at h
        exact goes_no h
    · next hp => rw [if_neg hp] at h; exact absurd rfl h
theorem tel_no {bs : List Int} (h : (tel bs).1 ≠ 0) : tel bs = no (tel bs).1 := by
  unfold tel at h ⊢
  split
  · next hw =>
    rw [if_pos hw] at h
    exact goes_no h
  · rfl
theorem tel_why {bs : List Int} (h : (tel bs).1 = 0) : why bs = 0 := by
  unfold tel at h
  split at h
  · assumption
  · next hw => exact absurd h hw
theorem why_fine {bs : List Int} (h : why bs = 0) : 40 ≤ bs.length ∧ (bs.getD 0 0).toNat / 16 = 6 ∧ 40 + wd bs 4 ≤ bs.length := by
  unfold why at h
  split at h
  · omega
  · split at h
    · omega
    · split at h
      · omega
      · omega
/-- What is left is of bytes. -/
theorem goes_octs : ∀ {k : Nat} {f : Bool} {p : Int} {ls : List Int}, Octs ls → Octs (goes k f p ls).2.2.1
  | k, false, p, ls, h => by rw [goes_false]; exact h
  | 0, true, p, ls, h => by
    rw [goes]
    split
    · exact Octs.nil
    · exact h
  | k + 1, true, p, ls, h => by
    rw [goes]
    split
    · split
      · exact Octs.nil
      · exact goes_octs (h.drop _)
    · exact h
/-- With one head fewer: the same, or too many. -/
theorem goes_less : ∀ {k : Nat} {f : Bool} {p : Int} {ls : List Int}, (goes (k + 1) f p ls).1 = 0 → goes k f p ls = goes (k + 1) f p ls ∨ goes k f p ls = no 6
  | k, false, p, ls, _ => .inl (by rw [goes_false, goes_false])
  | k, true, p, ls, h => by
    by_cases hp : tells p = true
    · by_cases hl : ls.length < size_ p ls
      · rw [goes_short hp hl] at h
        exact absurd h (by simp [no])
      · rw [goes_on hp (by omega)] at h ⊢
        cases k with
        | zero => exact .inr (goes_many hp)
        | succ k =>
          rw [goes_on hp (by omega)]
          exact goes_less h
    · rw [goes_plain (by simpa using hp), goes_plain (by simpa using hp)]
      exact .inl rfl
end Go.Proofs.Ytebpemknmcgamaa.six
