/- The bound of Deficit Round Robin, plain: while eight classes stay awake, what any two are given differs by the quantum and two heads at most. Conditions: those of each theorem. -/
import Derived.Test.YtknalphhnicffaaNums
namespace Go.Proofs.Ytknalphhnicffaa

/-- The order that begins with class j. -/
def rot (j : Nat) : List Nat := (List.range 8).drop j ++ (List.range 8).take j
/-- One's entry: class j alone may be no longer fresh. -/
def entry (j : Nat) (u : Bool) (d : Nat → Nat) (c : Nat) : Cls := ⟨c, !(u && decide (c = j)), d c⟩
/-- Where it stands: class j is first, u: it has had its quantum; d: the deficits; s: what each was given in all; m: the rounds. -/
structure Fair (Q : Nat) (L : List Cls) (s : Nat → Nat) (j m : Nat) (u : Bool) (d : Nat → Nat) : Prop where
  hj : j < 8
  list : L = (rot j).map (entry j u d)
  p1 : ∀ c, c < 8 → c < j → s c + d c = Q * m + Q
  p2 : ∀ c, c < 8 → j < c → s c + d c = Q * m
  p3 : s j + d j = if u then Q * m + Q else Q * m
  d1 : ∀ c, c < 8 → c ≠ j → d c ≤ 9215
  d2 : d j ≤ if u then Q + 9215 else 9215
def upd (f : Nat → Nat) (j v : Nat) : Nat → Nat := fun c => if c = j then v else f c
theorem upd_self (f : Nat → Nat) (j v : Nat) : upd f j v j = v := by simp [upd]
theorem upd_ne {f : Nat → Nat} {j v c : Nat} (h : c ≠ j) : upd f j v c = f c := by simp [upd, h]
theorem rot_cons {j : Nat} (h : j < 8) : ∃ rest, rot j = j :: rest ∧ (∀ c ∈ rest, c ≠ j ∧ c < 8) ∧ rot ((j + 1) % 8) = rest ++ [j] := by
  have : j = 0 ∨ j = 1 ∨ j = 2 ∨ j = 3 ∨ j = 4 ∨ j = 5 ∨ j = 6 ∨ j = 7 := by omega
  rcases this with rfl | rfl | rfl | rfl | rfl | rfl | rfl | rfl
  · exact ⟨[1, 2, 3, 4, 5, 6, 7], by decide, by decide, by decide⟩
  · exact ⟨[2, 3, 4, 5, 6, 7, 0], by decide, by decide, by decide⟩
  · exact ⟨[3, 4, 5, 6, 7, 0, 1], by decide, by decide, by decide⟩
  · exact ⟨[4, 5, 6, 7, 0, 1, 2], by decide, by decide, by decide⟩
  · exact ⟨[5, 6, 7, 0, 1, 2, 3], by decide, by decide, by decide⟩
  · exact ⟨[6, 7, 0, 1, 2, 3, 4], by decide, by decide, by decide⟩
  · exact ⟨[7, 0, 1, 2, 3, 4, 5], by decide, by decide, by decide⟩
  · exact ⟨[0, 1, 2, 3, 4, 5, 6], by decide, by decide, by decide⟩
section
variable {Q : Nat} {L : List Cls} {s d : Nat → Nat} {j m : Nat}
/-- The first one is given what heads it. -/
theorem Fair.take {u : Bool} (h : Fair Q L s j m u d) {l : Nat} (hl : l ≤ due Q (entry j u d j)) :
    ∃ xs, L = entry j u d j :: xs ∧ Fair Q (⟨j, false, due Q (entry j u d j) - l⟩ :: xs) (upd s j (s j + l)) j m true (upd d j (due Q (entry j u d j) - l)) := by
  obtain ⟨rest, e1, e2, _⟩ := rot_cons h.hj
  refine ⟨rest.map (entry j u d), by rw [h.list, e1]; rfl, h.hj, ?_, ?_, ?_, ?_, ?_, ?_⟩
  · rw [e1, List.map_cons]
    congr 1
    · simp [entry, upd]
    · apply List.map_congr_left
      intro c hc
      have := (e2 c hc).1
      simp [entry, upd, this]
  · intro c h1 h2
    rw [upd_ne (by omega), upd_ne (by omega)]
    exact h.p1 c h1 h2
  · intro c h1 h2
    rw [upd_ne (by omega), upd_ne (by omega)]
    exact h.p2 c h1 h2
  · rw [upd_self, upd_self]
    have h3 := h.p3
    unfold due entry at hl ⊢
    rcases u with _ | _
    · simp at h3 hl ⊢
      omega
    · simp at h3 hl ⊢
      omega
  · intro c h1 h2
    rw [upd_ne h2]
    exact h.d1 c h1 h2
  · rw [upd_self]
    have h3 := h.d2
    unfold due entry
    rcases u with _ | _
    · simp at h3 ⊢
      omega
    · simp at h3 ⊢
      omega
/-- The first one waits, and the next one's round begins. -/
theorem Fair.wait (h : Fair Q L s j m true d) (hl : d j ≤ 9215) : ∃ xs, L = entry j true d j :: xs ∧ ∃ j' m', Fair Q (xs ++ [⟨j, true, d j⟩]) s j' m' false d := by
  obtain ⟨rest, e1, e2, e3⟩ := rot_cons h.hj
  refine ⟨rest.map (entry j true d), by rw [h.list, e1]; rfl, (j + 1) % 8, if j = 7 then m + 1 else m, Nat.mod_lt _ (by decide), ?_, ?_, ?_, ?_, ?_, ?_⟩
  · rw [e3, List.map_append]
    congr 1
    apply List.map_congr_left
    intro c hc
    have := (e2 c hc).1
    simp [entry, this]
  · intro c h1 h2
    have hj := h.hj
    by_cases h7 : j = 7
    · subst h7
      simp at h2
    · rw [if_neg h7]
      rw [Nat.mod_eq_of_lt (by omega)] at h2
      by_cases hc : c = j
      · subst hc
        simpa using h.p3
      · exact h.p1 c h1 (by omega)
  · intro c h1 h2
    have hj := h.hj
    by_cases h7 : j = 7
    · subst h7
      rw [if_pos rfl, Nat.mul_succ]
      by_cases hc : c = 7
      · subst hc
        simpa using h.p3
      · exact h.p1 c h1 (by omega)
    · rw [if_neg h7]
      rw [Nat.mod_eq_of_lt (by omega)] at h2
      exact h.p2 c h1 (by omega)
  · have hj := h.hj
    by_cases h7 : j = 7
    · subst h7
      simp only [if_pos, Nat.mul_succ]
      exact h.p1 0 (by omega) (by omega)
    · rw [if_neg h7, Nat.mod_eq_of_lt (by omega)]
      exact h.p2 (j + 1) (by omega) (by omega)
  · intro c h1 _
    by_cases hc : c = j
    · subst hc; exact hl
    · exact h.d1 c h1 hc
  · have hj := h.hj
    by_cases hc : (j + 1) % 8 = j
    · omega
    · have := h.d1 ((j + 1) % 8) (Nat.mod_lt _ (by decide)) hc
      simpa using this
/-- A pick. -/
theorem Fair.pick {u : Bool} {hd : Nat → Int} {L' : List Cls} {o : Option Nat} (h : Fair Q L s j m u d) (hQ : 9216 ≤ Q) (hh : ∀ c, c < 8 → 1 ≤ hd c ∧ hd c ≤ 9216) (hp : Picks Q hd L L' o) :
    ∃ c j' m' d', o = some c ∧ c < 8 ∧ Fair Q L' (upd s c (s c + (hd c).toNat)) j' m' true d' := by
  have hfresh : ∀ {L s j m d}, Fair Q L s j m false d → Picks Q hd L L' o → ∃ c j' m' d', o = some c ∧ c < 8 ∧ Fair Q L' (upd s c (s c + (hd c).toNat)) j' m' true d' := by
    intro L s j m d h hp
    have hhj := hh j h.hj
    have hlen : len (hd j) = (hd j).toNat := by unfold len; omega
    obtain ⟨xs, e, hf⟩ := h.take (l := (hd j).toNat) (by unfold due entry; simp; omega)
    rw [e] at hp
    rcases hp.inv with ⟨h1, _⟩ | ⟨_, _, rfl, rfl⟩ | ⟨_, h1, _⟩
    · exact absurd h1 (by show ¬ hd j < 1; omega)
    · have e2 : len (hd (entry j false d j).n) = (hd j).toNat := hlen
      rw [e2]
      exact ⟨j, _, _, _, rfl, h.hj, hf⟩
    · exfalso
      have e2 : len (hd (entry j false d j).n) = (hd j).toNat := hlen
      rw [e2] at h1
      unfold due entry at h1
      simp at h1
      omega
  rcases u with _ | _
  · exact hfresh h hp
  · have hhj := hh j h.hj
    have hlen : len (hd j) = (hd j).toNat := by unfold len; omega
    by_cases hl : (hd j).toNat ≤ d j
    · obtain ⟨xs, e, hf⟩ := h.take (l := (hd j).toNat) (by unfold due entry; simp; omega)
      rw [e] at hp
      rcases hp.inv with ⟨h1, _⟩ | ⟨_, _, rfl, rfl⟩ | ⟨_, h1, _⟩
      · exact absurd h1 (by show ¬ hd j < 1; omega)
      · have e2 : len (hd (entry j true d j).n) = (hd j).toNat := hlen
        rw [e2]
        exact ⟨j, _, _, _, rfl, h.hj, hf⟩
      · exfalso
        have e2 : len (hd (entry j true d j).n) = (hd j).toNat := hlen
        rw [e2] at h1
        unfold due entry at h1
        simp at h1
        omega
    · obtain ⟨xs, e, j', m', hf⟩ := h.wait (by omega)
      rw [e] at hp
      rcases hp.inv with ⟨h1, _⟩ | ⟨_, h1, _⟩ | ⟨_, _, hp⟩
      · exact absurd h1 (by show ¬ hd j < 1; omega)
      · exfalso
        have e2 : len (hd (entry j true d j).n) = (hd j).toNat := hlen
        rw [e2] at h1
        unfold due entry at h1
        simp at h1
        omega
      · have e3 : due Q (entry j true d j) = d j := by simp [due, entry]
        rw [e3] at hp
        exact hfresh hf hp
/-- Of two classes. -/
theorem Fair.pair {u : Bool} (h : Fair Q L s j m u d) {a b : Nat} (hab : a < b) (hb : b < 8) :
    (s a + d a = s b + d b ∧ d a ≤ 9215 ∨ s a + d a = s b + d b + Q ∧ d b ≤ 9215) ∧ d a ≤ Q + 9215 ∧ d b ≤ Q + 9215 := by
  have hj := h.hj
  have p1 := h.p1
  have p2 := h.p2
  have p3 := h.p3
  have d1 := h.d1
  have d2 := h.d2
  rcases Nat.lt_trichotomy a j with ha | rfl | ha
  · have qa := p1 a (by omega) ha
    have da := d1 a (by omega) (by omega)
    rcases Nat.lt_trichotomy b j with hb' | rfl | hb'
    · have qb := p1 b hb hb'
      have db := d1 b hb (by omega)
      exact ⟨.inl (by omega), by omega, by omega⟩
    · rcases u with _ | _
      · simp at p3 d2
        exact ⟨.inr (by omega), by omega, by omega⟩
      · simp at p3 d2
        exact ⟨.inl (by omega), by omega, by omega⟩
    · have qb := p2 b hb hb'
      have db := d1 b hb (by omega)
      exact ⟨.inr (by omega), by omega, by omega⟩
  · have qb := p2 b hb hab
    have db := d1 b hb (by omega)
    rcases u with _ | _
    · simp at p3 d2
      exact ⟨.inl (by omega), by omega, by omega⟩
    · simp at p3 d2
      exact ⟨.inr (by omega), by omega, by omega⟩
  · have qa := p2 a (by omega) ha
    have da := d1 a (by omega) (by omega)
    have qb := p2 b hb (by omega)
    have db := d1 b hb (by omega)
    exact ⟨.inl (by omega), by omega, by omega⟩
end
/-- The bound: from any time to any time. -/
theorem fair_bound {Q : Nat} {L1 L2 : List Cls} {s1 s2 d1 d2 : Nat → Nat} {j1 m1 j2 m2 : Nat} {u1 u2 : Bool} (h1 : Fair Q L1 s1 j1 m1 u1 d1) (h2 : Fair Q L2 s2 j2 m2 u2 d2) {a b : Nat} (ha : a < 8) (hb : b < 8) :
    ((s2 a : Int) - s1 a) - ((s2 b : Int) - s1 b) ≤ Q + 18430 := by
  rcases Nat.lt_trichotomy a b with h | rfl | h
  · obtain ⟨x1, x2, x3⟩ := h1.pair h hb
    obtain ⟨y1, y2, y3⟩ := h2.pair h hb
    rcases x1 with ⟨x1, _⟩ | ⟨x1, _⟩ <;> rcases y1 with ⟨y1, _⟩ | ⟨y1, _⟩ <;> omega
  · omega
  · obtain ⟨x1, x2, x3⟩ := h1.pair h ha
    obtain ⟨y1, y2, y3⟩ := h2.pair h ha
    rcases x1 with ⟨x1, _⟩ | ⟨x1, _⟩ <;> rcases y1 with ⟨y1, _⟩ | ⟨y1, _⟩ <;> omega
/-- The beginning: all have just woken. -/
theorem fair_first (Q : Nat) : Fair Q ((List.range 8).map fun c => ⟨c, true, 0⟩) (fun _ => 0) 0 0 false (fun _ => 0) :=
  ⟨by decide, by simp [rot, entry], fun c _ h => absurd h (by omega), fun _ _ _ => by simp, by simp, fun _ _ _ => by simp, by simp⟩
end Go.Proofs.Ytknalphhnicffaa
