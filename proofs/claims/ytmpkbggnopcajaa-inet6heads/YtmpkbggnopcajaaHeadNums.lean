/- One more head ahead of all: plain lists. Conditions: those of each theorem. -/
import Derived.Test.YtmpkbggnopcajaaCutNums
namespace Go.Proofs.Ytmpkbggnopcajaa
open Go.RowKit

theorem Octs.set_ {l : List Int} (h : Octs l) (i : Nat) {x : Int} (h0 : 0 ≤ x) (h1 : x ≤ 255) : Octs (l.set i x) := fun z hz => by
  rcases List.mem_or_eq_of_mem_set hz with hz | rfl
  · exact h z hz
  · exact ⟨h0, h1⟩
theorem getD_set_self {l : List Int} {i : Nat} {x : Int} (h : i < l.length) : (l.set i x).getD i 0 = x := by
  rw [List.getD_eq_getElem?_getD, List.getElem?_set_self h]
  rfl
theorem getD_set_ne {l : List Int} {i j : Nat} {x : Int} (h : i ≠ j) : (l.set i x).getD j 0 = l.getD j 0 := by
  rw [List.getD_eq_getElem?_getD, List.getElem?_set_ne h, ← List.getD_eq_getElem?_getD]

/-- The head's first 40 bytes, with 8 more bytes behind, and another number of what comes next. -/
def first40 (bs : List Int) (kd : Int) : List Int := (((bs.take 40).set 4 (((8 + wd bs 4) / 256 : Nat) : Int)).set 5 (((8 + wd bs 4) % 256 : Nat) : Int)).set 6 kd
/-- The head that is put ahead. -/
def eight (p : Int) : List Int := [p, 0, 0, 0, 0, 0, 0, 0]
def ahead (bs : List Int) (kd : Int) : List Int := (first40 bs kd ++ eight (bs.getD 6 0)) ++ bs.drop 40
/-- Which number. -/
def kdOf (j : Nat) : Int := [0, 43, 60, 44].getD j 0
theorem kd_tells {j : Nat} (h : j < 4) : tells (kdOf j) = true ∧ 0 ≤ kdOf j ∧ kdOf j ≤ 255 := by
  rcases (by omega : j = 0 ∨ j = 1 ∨ j = 2 ∨ j = 3) with rfl | rfl | rfl | rfl <;> decide

theorem adr_ext2 {bs cs : List Int} {p k : Nat} (h : ∀ j, j < k → cs[p + j]? = bs[p + j]?) : adr cs p k = adr bs p k := by
  unfold adr
  congr 1
  apply List.ext_getElem?
  intro i
  rw [List.getElem?_take, List.getElem?_take]
  split
  · next hi => rw [List.getElem?_drop, List.getElem?_drop, h i hi]
  · rfl
theorem first_length {bs : List Int} {kd : Int} (h : 40 ≤ bs.length) : (first40 bs kd).length = 40 := by
  unfold first40
  simp
  omega
theorem ahead_length {bs : List Int} {kd : Int} (h : 40 ≤ bs.length) : (ahead bs kd).length = bs.length + 8 := by
  unfold ahead eight
  simp [first_length h]
  omega
theorem ahead_at {bs : List Int} {kd : Int} (h : 40 ≤ bs.length) {j : Nat} (hj : j < 40) : (ahead bs kd)[j]? = (first40 bs kd)[j]? := by
  unfold ahead
  rw [List.append_assoc, List.getElem?_append_left (by rw [first_length h]; exact hj)]
theorem ahead_getD {bs : List Int} {kd : Int} (h : 40 ≤ bs.length) {j : Nat} (hj : j < 40) : (ahead bs kd).getD j 0 = (first40 bs kd).getD j 0 := by
  rw [List.getD_eq_getElem?_getD, ahead_at h hj, ← List.getD_eq_getElem?_getD]
theorem first_old {bs : List Int} {kd : Int} {j : Nat} (hj : j < 40) (h4 : 4 ≠ j) (h5 : 5 ≠ j) (h6 : 6 ≠ j) : (first40 bs kd)[j]? = bs[j]? := by
  unfold first40
  rw [List.getElem?_set_ne h6, List.getElem?_set_ne h5, List.getElem?_set_ne h4, List.getElem?_take_of_lt hj]
theorem ahead_behind {bs : List Int} {kd : Int} (h : why bs = 0) (hw : wd (ahead bs kd) 4 = 8 + wd bs 4) : behind (ahead bs kd) = eight (bs.getD 6 0) ++ behind bs := by
  obtain ⟨f1, f2, f3⟩ := why_fine h
  unfold behind
  rw [hw, List.drop_take, List.drop_take]
  unfold ahead
  rw [List.append_assoc, List.drop_left' (first_length f1), List.take_append]
  simp [eight]
  rw [List.take_of_length_le (by simp)]
  rfl
theorem eight_on {k : Nat} {kd p : Int} {ls : List Int} (h : tells kd = true) : goes (k + 1) true kd (eight p ++ ls) = goes k true p ls := by
  have hs : size_ kd (eight p ++ ls) = 8 := by
    unfold size_ eight
    split <;> simp
  have he : early kd (eight p ++ ls) = true := by
    unfold early wd eight
    simp
  rw [goes_on h (by rw [hs]; simp [eight]), hs, he]
  simp [eight]
theorem ahead_wd {bs : List Int} {kd : Int} (h : 40 ≤ bs.length) (hall : 8 + wd bs 4 ≤ 65535) : wd (ahead bs kd) 4 = 8 + wd bs 4 := by
  unfold wd
  rw [ahead_getD h (by omega), ahead_getD h (by omega)]
  have e4 : (first40 bs kd).getD 4 0 = (((8 + wd bs 4) / 256 : Nat) : Int) := by
    unfold first40
    rw [getD_set_ne (by omega), getD_set_ne (by omega), getD_set_self (by simp; omega)]
  have e5 : (first40 bs kd).getD (4 + 1) 0 = (((8 + wd bs 4) % 256 : Nat) : Int) := by
    unfold first40
    rw [getD_set_ne (by omega), getD_set_self (by simp; omega)]
  rw [e4, e5]
  show _ = 8 + wd bs 4
  omega
theorem ahead_tel {bs : List Int} {kd : Int} (h : why bs = 0) (hall : 8 + wd bs 4 ≤ 65535) (hk : tells kd = true) :
    tel (ahead bs kd) = goes 7 true (bs.getD 6 0) (behind bs) ∧ (∀ r, sr (ahead bs kd) r = sr bs r) ∧ ∀ r, ds (ahead bs kd) r = ds bs r := by
  obtain ⟨f1, f2, f3⟩ := why_fine h
  have hw := ahead_wd (kd := kd) f1 hall
  have hwhy : why (ahead bs kd) = 0 := by
    have e0 : (ahead bs kd).getD 0 0 = bs.getD 0 0 := by
      rw [List.getD_eq_getElem?_getD, ahead_at f1 (by omega), first_old (by omega) (by omega) (by omega) (by omega), ← List.getD_eq_getElem?_getD]
    unfold why
    rw [ahead_length f1, e0, hw, if_neg (by omega), if_neg (by omega), if_neg (by omega)]
  have e6 : (ahead bs kd).getD 6 0 = kd := by
    rw [ahead_getD f1 (by omega)]
    unfold first40
    rw [getD_set_self (by simp; omega)]
  refine ⟨?_, fun r => ?_, fun r => ?_⟩
  · unfold tel
    rw [if_pos hwhy, e6, ahead_behind h hw, eight_on hk]
  · unfold sr
    rw [adr_ext2 (bs := bs) fun j hj => by rw [ahead_at f1 (by omega), first_old (by omega) (by omega) (by omega) (by omega)]]
  · unfold ds
    rw [adr_ext2 (bs := bs) fun j hj => by rw [ahead_at f1 (by omega), first_old (by omega) (by omega) (by omega) (by omega)]]
/-- The same, or too many. -/
theorem ahead_same {bs : List Int} {kd : Int} {q : Int} {ks : List Int} {f : Bool} (hR : tel bs = (0, q, ks, f)) (hall : 8 + wd bs 4 ≤ 65535) (hk : tells kd = true) :
    (tel (ahead bs kd) = (0, q, ks, f) ∨ tel (ahead bs kd) = (6, 0, [], false)) ∧ sr (ahead bs kd) 0 = sr bs 0 ∧ ds (ahead bs kd) 0 = ds bs 0 := by
  have hw : why bs = 0 := tel_why (by rw [hR])
  obtain ⟨h1, h2, h3⟩ := ahead_tel hw hall hk
  refine ⟨?_, h2 0, h3 0⟩
  rw [h1]
  have e : tel bs = goes (7 + 1) true (bs.getD 6 0) (behind bs) := by unfold tel; rw [if_pos hw]
  rw [e] at hR
  rcases goes_less (k := 7) (f := true) (p := bs.getD 6 0) (ls := behind bs) (by rw [hR]) with h | h
  · exact .inl (h.trans hR)
  · exact .inr h
theorem first_octs {bs : List Int} {kd : Int} (ho : Octs bs) (hall : 8 + wd bs 4 ≤ 65535) (h0 : 0 ≤ kd) (h1 : kd ≤ 255) : Octs (first40 bs kd) :=
  (((ho.take 40).set_ 4 (by omega) (by omega)).set_ 5 (by omega) (by omega)).set_ 6 h0 h1
theorem eight_octs {p : Int} (h0 : 0 ≤ p) (h1 : p ≤ 255) : Octs (eight p) := fun z hz => by
  simp [eight] at hz
  omega
theorem ahead_octs {bs : List Int} {kd : Int} (ho : Octs bs) (hall : 8 + wd bs 4 ≤ 65535) (h0 : 0 ≤ kd) (h1 : kd ≤ 255) : Octs (ahead bs kd) :=
  ((first_octs ho hall h0 h1).app (eight_octs (ho.at_ 6).1 (ho.at_ 6).2)).app (ho.drop _)
end Go.Proofs.Ytmpkbggnopcajaa
