/- Space-Saving on plain lists: where a prefix's slot is, what counting leaves, and what follows. Conditions: those of each theorem. -/
import Derived.Test.YteeobeeoefokdaaSlots
namespace Go.Proofs.Yteeobeeoefokdaa

/-- Where p's slot is: L.length, if it has none. -/
def idx (L : List Slo) (p : Pre) : Nat := L.findIdx fun s => decide (s.p = p)
def has (L : List Slo) (p : Pre) : Bool := decide (idx L p < L.length)
def fnd (L : List Slo) (p : Pre) : Int := if has L p then (idx L p : Nat) else -1
/-- The k-th slot. -/
def at_ (L : List Slo) (k : Nat) : Slo := L.getD k slo0
/-- The first one of the first k whose count is least. -/
def low (L : List Slo) : Nat → Nat
  | 0 => 0
  | k + 1 => if (at_ L k).c < (at_ L (low L k)).c then k else low L k
def addK (c n : Int) : Int := addC (cnt c) (cnt n)
/-- Where p's slot is behind 'place'; what 'place' leaves. -/
def pos (M : Nat) (L : List Slo) (p : Pre) : Nat := if has L p then idx L p else if L.length < M then L.length else low L L.length
def plc (M : Nat) (L : List Slo) (p : Pre) : List Slo := if has L p then L else if L.length < M then L ++ [⟨p, 0, 0⟩] else L.set (low L L.length) ⟨p, (at_ L (low L L.length)).c, (at_ L (low L L.length)).c⟩
/-- n more in slot k. -/
def inc (L : List Slo) (k : Nat) (n : Int) : List Slo := L.set k ⟨(at_ L k).p, addK (at_ L k).c n, (at_ L k).e⟩
def stp (M : Nat) (L : List Slo) (p : Pre) (n : Int) : List Slo := inc (plc M L p) (pos M L p) n
/-- What Get tells. -/
def get (L : List Slo) (p : Pre) : Slo := if has L p then at_ L (idx L p) else slo0
theorem num0 : num 0 := by decide
def Oks (L : List Slo) : Prop := ∀ s ∈ L, s.Ok

section
variable {L : List Slo} {p : Pre} {M k : Nat} {n : Int} {s : Slo}
theorem at_some (h : k < L.length) : L[k]? = some (at_ L k) := by simp [at_, List.getD_eq_getElem?_getD, h]
theorem at_of (h : L[k]? = some s) : at_ L k = s := by simp [at_, List.getD_eq_getElem?_getD, h]
theorem at_mem (h : k < L.length) : at_ L k ∈ L := List.mem_of_getElem? (at_some h)
theorem Oks.at_ (h : Oks L) (hk : k < L.length) : (at_ L k).Ok := h _ (at_mem hk)
theorem Oks.get_ (h : Oks L) (k : Nat) : (Yteeobeeoefokdaa.at_ L k).Ok := by
  by_cases hk : k < L.length
  · exact h.at_ hk
  · have : Yteeobeeoefokdaa.at_ L k = slo0 := by simp [Yteeobeeoefokdaa.at_, List.getD_eq_getElem?_getD, List.getElem?_eq_none (Nat.not_lt.1 hk)]
    rw [this]
    exact slo0_ok
theorem idx_le : idx L p ≤ L.length := List.findIdx_le_length
theorem idx_at (h : idx L p < L.length) : (at_ L (idx L p)).p = p := by
  have := List.findIdx_getElem (xs := L) (p := fun s : Slo => decide (s.p = p)) (w := h)
  rw [at_of (s := L[idx L p]) (by simp [h])]
  exact of_decide_eq_true this
theorem idx_not (h : k < idx L p) : (at_ L k).p ≠ p := by
  have hk : k < L.length := Nat.lt_of_lt_of_le h idx_le
  have := List.not_of_lt_findIdx (xs := L) (p := fun s : Slo => decide (s.p = p)) (i := k) h
  rw [at_of (s := L[k]) (by simp [hk])]
  simpa using this
theorem idx_first (hk : k ≤ L.length) (h1 : ∀ j, j < k → (at_ L j).p ≠ p) (h2 : k < L.length → (at_ L k).p = p) : idx L p = k := by
  rcases Nat.lt_trichotomy (idx L p) k with h | h | h
  · exact absurd (idx_at (Nat.lt_of_lt_of_le h hk)) (h1 _ h)
  · exact h
  · have := Nat.lt_of_lt_of_le h idx_le
    exact absurd (h2 this) (idx_not h)
theorem has_iff : has L p = true ↔ idx L p < L.length := by simp [has]
theorem has_mem : has L p = true ↔ ∃ s ∈ L, s.p = p := by
  rw [has_iff]
  unfold idx
  rw [List.findIdx_lt_length]
  simp
theorem low_lt (h : 0 < L.length) : ∀ k, k ≤ L.length → low L k < L.length
  | 0, _ => h
  | k + 1, hk => by
    unfold low
    split
    · omega
    · exact low_lt h k (by omega)
theorem low_le : ∀ (k j : Nat), j < k → (at_ L (low L k)).c ≤ (at_ L j).c
  | 0, _, h => absurd h (by omega)
  | k + 1, j, h => by
    unfold low
    split
    · rename_i hc
      by_cases hj : j < k
      · have := low_le k j hj; omega
      · obtain rfl : j = k := by omega
        omega
    · rename_i hc
      by_cases hj : j < k
      · exact low_le k j hj
      · obtain rfl : j = k := by omega
        omega
theorem plc_has (h : has L p = true) : plc M L p = L := by simp [plc, h]
theorem pos_has (h : has L p = true) : pos M L p = idx L p := by simp [pos, h]
theorem plc_room (h : has L p = false) (hm : L.length < M) : plc M L p = L ++ [⟨p, 0, 0⟩] := by simp [plc, h, hm]
theorem pos_room (h : has L p = false) (hm : L.length < M) : pos M L p = L.length := by simp [pos, h, hm]
theorem plc_full (h : has L p = false) (hm : ¬ L.length < M) : plc M L p = L.set (low L L.length) ⟨p, (at_ L (low L L.length)).c, (at_ L (low L L.length)).c⟩ := by simp [plc, h, hm]
theorem pos_full (h : has L p = false) (hm : ¬ L.length < M) : pos M L p = low L L.length := by simp [pos, h, hm]
theorem set_length (s : Slo) : (L.set k s).length = L.length := by simp
theorem plc_length (hl : L.length ≤ M) : (plc M L p).length ≤ M := by
  unfold plc
  split
  · exact hl
  · split
    · simp; omega
    · simpa using hl
theorem pos_lt (h1 : 1 ≤ M) : pos M L p < (plc M L p).length := by
  rcases h : has L p with _ | _
  · by_cases hm : L.length < M
    · rw [plc_room h hm, pos_room h hm]; simp
    · rw [plc_full h hm, pos_full h hm, set_length]
      exact low_lt (by omega) _ (Nat.le_refl _)
  · rw [plc_has h, pos_has h]
    exact has_iff.1 h
theorem inc_length : (inc L k n).length = L.length := by simp [inc]
theorem stp_length (hl : L.length ≤ M) : (stp M L p n).length ≤ M := by unfold stp; rw [inc_length]; exact plc_length hl
theorem addK_num (c n : Int) : num (addK c n) := addC_bd (cnt_bd c).1 (cnt_bd n).1
theorem Oks.set_ (h : Oks L) (hs : s.Ok) : Oks (L.set k s) := fun u hu => by
  rcases List.mem_or_eq_of_mem_set hu with hu | rfl
  · exact h u hu
  · exact hs
theorem Oks.plc_ (h : Oks L) (hp : p.Ok) : Oks (plc M L p) := by
  unfold plc
  split
  · exact h
  · split
    · intro u hu
      rcases List.mem_append.1 hu with hu | hu
      · exact h u hu
      · simp at hu
        subst hu
        exact ⟨hp, num0, num0⟩
    · exact h.set_ ⟨hp, (h.get_ _).c, (h.get_ _).c⟩
theorem Oks.inc_ (h : Oks L) : Oks (inc L k n) := h.set_ ⟨(h.get_ k).p, addK_num _ _, (h.get_ k).e⟩
theorem Oks.stp_ (h : Oks L) (hp : p.Ok) : Oks (stp M L p n) := (h.plc_ hp).inc_
theorem at_set (hk : k < L.length) : at_ (L.set k s) k = s := at_of (by simp [hk])
theorem at_set_ne {j : Nat} (h : k ≠ j) : at_ (L.set k s) j = at_ L j := by simp [at_, List.getD_eq_getElem?_getD, h]
theorem pos_at (h1 : 1 ≤ M) : (at_ (plc M L p) (pos M L p)).p = p := by
  rcases h : has L p with _ | _
  · by_cases hm : L.length < M
    · rw [plc_room h hm, pos_room h hm, at_of (s := ⟨p, 0, 0⟩) (by simp)]
    · rw [plc_full h hm, pos_full h hm, at_set (low_lt (by omega) _ (Nat.le_refl _))]
  · rw [plc_has h, pos_has h]
    exact idx_at (has_iff.1 h)
end
end Go.Proofs.Yteeobeeoefokdaa
