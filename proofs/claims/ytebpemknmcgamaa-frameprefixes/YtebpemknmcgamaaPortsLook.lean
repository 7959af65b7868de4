/- The ports of a packet, said of plain lists. Conditions: those of each theorem. -/
import Derived.Test.YtebpemknmcgamaaNet
namespace Go.Proofs.Ytebpemknmcgamaa.ports

/-- ICMP's number. -/
def icm (v : Bool) : Int := if v then 58 else 1
/-- How many bytes the ports have. -/
def sz (v : Bool) (p : Int) : Nat := if p = 6 ∨ p = 17 then 4 else if p = icm v then 2 else 0
/-- The ports, and a reason. -/
def look (v : Bool) (p : Int) (f : Bool) (bs : List Int) : Nat × Nat × Nat :=
  if f = false then (0, 0, 0) else if bs.length < sz v p then (0, 0, 1) else (if sz v p = 0 then 0 else wd bs 0, if sz v p = 4 then wd bs 2 else 0, 0)

theorem sz_cases (v : Bool) (p : Int) : sz v p = 0 ∨ sz v p = 2 ∨ sz v p = 4 := by
  unfold sz
  split
  · exact .inr (.inr rfl)
  · split
    · exact .inr (.inl rfl)
    · exact .inl rfl
section
variable {v : Bool} {p : Int} {bs : List Int}
theorem look_later : look v p false bs = (0, 0, 0) := by simp [look]
theorem look_short (h : bs.length < sz v p) : look v p true bs = (0, 0, 1) := by simp [look, h]
theorem look_none (h : sz v p = 0) : look v p true bs = (0, 0, 0) := by simp [look, h]
theorem look_one (h : sz v p = 2) (hl : 2 ≤ bs.length) : look v p true bs = (wd bs 0, 0, 0) := by
  unfold look
  rw [if_neg (by simp), if_neg (by omega), h]
  rfl
theorem look_both (h : sz v p = 4) (hl : 4 ≤ bs.length) : look v p true bs = (wd bs 0, wd bs 2, 0) := by
  unfold look
  rw [if_neg (by simp), if_neg (by omega), h]
  rfl
theorem look_cases {f : Bool} {x y r : Nat} (ho : Octs bs) (h : look v p f bs = (x, y, r)) : x ≤ 65535 ∧ y ≤ 65535 ∧ (r = 0 ∨ (r = 1 ∧ x = 0 ∧ y = 0)) := by
  have h0 := wd_bd ho 0
  have h2 := wd_bd ho 2
  unfold look at h
  split at h
  · simp at h; omega
  · split at h
    · simp at h; omega
    · simp only [Prod.mk.injEq] at h
      obtain ⟨rfl, rfl, rfl⟩ := h
      refine ⟨?_, ?_, .inl rfl⟩
      · split <;> omega
      · split <;> omega
/-- What stands behind makes no difference. -/
theorem look_more {f : Bool} {x y : Nat} {ms : List Int} (h : look v p f bs = (x, y, 0)) : look v p f (bs ++ ms) = (x, y, 0) := by
  cases f with
  | false => rw [look_later] at h ⊢; exact h
  | true =>
    by_cases hs : bs.length < sz v p
    · rw [look_short hs] at h
      simp at h
    · have hw : ∀ k, k + 1 < bs.length → wd (bs ++ ms) k = wd bs k := fun k hk => by
        unfold wd
        rw [getD_left (by omega), getD_left (by omega)]
      rcases sz_cases v p with e | e | e
      · rw [look_none e] at h ⊢; exact h
      · rw [look_one e (by omega)] at h
        rw [look_one e (by rw [List.length_append]; omega), hw 0 (by omega)]
        exact h
      · rw [look_both e (by omega)] at h
        rw [look_both e (by rw [List.length_append]; omega), hw 0 (by omega), hw 2 (by omega)]
        exact h
theorem sz_four (h : p = 6 ∨ p = 17) : sz v p = 4 := if_pos h
theorem sz_two (h1 : ¬ p = 6) (h2 : ¬ p = 17) (h : p = icm v) : sz v p = 2 := by unfold sz; rw [if_neg (by omega), if_pos h]
theorem sz_zero (h1 : ¬ p = 6) (h2 : ¬ p = 17) (h : ¬ p = icm v) : sz v p = 0 := by unfold sz; rw [if_neg (by omega), if_neg h]
/-- The number of the first two of four bytes. -/
theorem num_two (ho : Octs bs) (hl : 2 ≤ bs.length) : numF 0 (bs.take 2) = ((wd bs 0 : Nat) : Int) := by
  match bs, hl with
  | a :: b :: r, _ =>
    have := wd_int ho 0
    simp [numF] at this ⊢
    exact this
end
end Go.Proofs.Ytebpemknmcgamaa.ports
