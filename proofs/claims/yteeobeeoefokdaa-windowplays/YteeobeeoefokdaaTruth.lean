/- Space-Saving on plain lists: what is known of each prefix's true sum, behind any countings. Conditions: those of each theorem. -/
import Derived.Test.YteeobeeoefokdaaSks
namespace Go.Proofs.Yteeobeeoefokdaa

/-- The slots behind k countings. -/
def ran (M : Nat) (P : Nat → Pre) (X : Nat → Int) : Nat → List Slo
  | 0 => []
  | k + 1 => stp M (ran M P X k) (P k) (X k)
/-- The total behind k countings. -/
def tot (X : Nat → Int) : Nat → Int
  | 0 => 0
  | k + 1 => addK (tot X k) (X k)
/-- The plain sum of k numbers. -/
def sumX (X : Nat → Int) : Nat → Int
  | 0 => 0
  | k + 1 => sumX X k + X k
/-- The true sum of p among k countings. -/
def tru (P : Nat → Pre) (X : Nat → Int) (p : Pre) : Nat → Int
  | 0 => 0
  | k + 1 => if P k = p then tru P X p k + X k else tru P X p k
/-- The capped one. -/
def truK (P : Nat → Pre) (X : Nat → Int) (p : Pre) : Nat → Int
  | 0 => 0
  | k + 1 => if P k = p then addK (truK P X p k) (X k) else truK P X p k
/-- All counts together. -/
def cnts : List Slo → Int
  | [] => 0
  | s :: r => s.c + cnts r
/-- Each prefix has one slot. -/
def Lone (L : List Slo) : Prop := ∀ i j, i < L.length → j < L.length → (at_ L i).p = (at_ L j).p → i = j
theorem cnts_app (L R : List Slo) : cnts (L ++ R) = cnts L + cnts R := by
  induction L with
  | nil => simp [cnts]
  | cons s r ih => simp only [List.cons_append, cnts, ih]; omega
theorem cnts_set : ∀ (L : List Slo) (k : Nat) (s : Slo), k < L.length → cnts (L.set k s) = cnts L - (at_ L k).c + s.c
  | [], k, s, h => by simp at h
  | x :: r, 0, s, h => by simp [cnts, at_]; omega
  | x :: r, k + 1, s, h => by
    have ih := cnts_set r k s (by simpa using h)
    have e : at_ (x :: r) (k + 1) = at_ r k := by simp [at_]
    rw [List.set_cons_succ, cnts, cnts, ih, e]
    omega
theorem cnts_least : ∀ (L : List Slo) (c : Int), (∀ k, k < L.length → c ≤ (at_ L k).c) → (L.length : Int) * c ≤ cnts L
  | [], c, _ => by simp [cnts]
  | x :: r, c, h => by
    have ih := cnts_least r c (fun k hk => by
      have := h (k + 1) (by simpa using hk)
      simpa [at_] using this)
    have h0 := h 0 (by simp)
    have e : at_ (x :: r) 0 = x := rfl
    rw [e] at h0
    rw [cnts, List.length_cons, Int.natCast_succ, Int.add_mul, Int.one_mul]
    omega
/-- What is so behind k countings of no less than nothing, while all together are few. -/
structure Inv (M : Nat) (P : Nat → Pre) (X : Nat → Int) (k : Nat) (L : List Slo) : Prop where
  len : L.length ≤ M
  lone : Lone L
  sum : cnts L = sumX X k
  c0 : ∀ i, i < L.length → 0 ≤ (at_ L i).c
  e0 : ∀ i, i < L.length → 0 ≤ (at_ L i).e
  err : ∀ i, i < L.length → (at_ L i).e * M ≤ sumX X k
  hi : ∀ i, i < L.length → tru P X (at_ L i).p k ≤ (at_ L i).c
  lo : ∀ i, i < L.length → (at_ L i).c - (at_ L i).e ≤ tru P X (at_ L i).p k
  room : L.length < M → ∀ p, has L p = false → tru P X p k = 0
  full : ∀ p, has L p = false → ∀ i, i < L.length → tru P X p k ≤ (at_ L i).c
section
variable {M k : Nat} {P : Nat → Pre} {X : Nat → Int} {L : List Slo} {p : Pre}
theorem addK_few {c n : Int} (h0 : 0 ≤ c) (h1 : 0 ≤ n) (h2 : c + n ≤ 4611686018427387904) : addK c n = c + n := by
  unfold addK
  rw [cnt_id h0 (by omega), cnt_id h1 (by omega)]
  unfold addC
  rw [if_neg (by omega)]
theorem tru_same (h : P k = p) : tru P X p (k + 1) = tru P X p k + X k := by show (if P k = p then _ else _) = _; rw [if_pos h]
theorem tru_other (h : P k ≠ p) : tru P X p (k + 1) = tru P X p k := by show (if P k = p then _ else _) = _; rw [if_neg h]
theorem tru_nat (hX : ∀ i, i < k → 0 ≤ X i) : 0 ≤ tru P X p k := by
  induction k with
  | zero => exact Int.le_refl 0
  | succ k ih =>
    have := ih (fun i hi => hX i (by omega))
    have := hX k (by omega)
    by_cases h : P k = p
    · rw [tru_same h]; omega
    · rw [tru_other h]; omega
theorem has_not (h : has L p = false) {i : Nat} (hi : i < L.length) : (at_ L i).p ≠ p := by
  intro e
  have : has L p = true := has_mem.2 ⟨_, at_mem hi, e⟩
  rw [h] at this
  cases this
theorem not_has (h : ∀ i, i < L.length → (at_ L i).p ≠ p) : has L p = false := by
  rcases hh : has L p with _ | _
  · rfl
  · exact absurd (idx_at (has_iff.1 hh)) (h _ (has_iff.1 hh))
theorem Lone.set_ (h : Lone L) {j : Nat} (hj : j < L.length) {s : Slo} (hs : ∀ i, i < L.length → i ≠ j → (at_ L i).p ≠ s.p) : Lone (L.set j s) := by
  intro a b ha hb e
  rw [List.length_set] at ha hb
  by_cases h1 : a = j
  · subst h1
    by_cases h2 : b = a
    · exact h2.symm
    · rw [at_set ha, at_set_ne (Ne.symm h2)] at e
      exact absurd e.symm (hs b hb h2)
  · by_cases h2 : b = j
    · subst h2
      rw [at_set hb, at_set_ne (Ne.symm h1)] at e
      exact absurd e (hs a ha h1)
    · rw [at_set_ne (Ne.symm h1), at_set_ne (Ne.symm h2)] at e
      exact h a b ha hb e
theorem at_left {s : Slo} {i : Nat} (h : i < L.length) : at_ (L ++ [s]) i = at_ L i := by
  simp [at_, List.getD_eq_getElem?_getD, List.getElem?_append_left h]
theorem at_last {s : Slo} : at_ (L ++ [s]) L.length = s := by simp [at_, List.getD_eq_getElem?_getD]
/-- One more of a prefix that has a slot. -/
theorem Inv.more (h : Inv M P X k L) (hX : 0 ≤ X k) (hs : sumX X k + X k ≤ 4611686018427387904) {j : Nat} (hj : j < L.length) (hp : (at_ L j).p = P k) : Inv M P X (k + 1) (L.set j ⟨(at_ L j).p, addK (at_ L j).c (X k), (at_ L j).e⟩) := by
  have hc0 := h.c0 j hj
  have hcs : (at_ L j).c ≤ sumX X k := by
    have h1 := cnts_set L j ⟨pre0, 0, 0⟩ hj
    have h2 := cnts_least (L.set j ⟨pre0, 0, 0⟩) 0 (fun i hi => by
      rw [List.length_set] at hi
      by_cases e : i = j
      · subst e; rw [at_set hi]; exact Int.le_refl 0
      · rw [at_set_ne (Ne.symm e)]; exact h.c0 i hi)
    have := h.sum
    simp at h1 h2
    omega
  have ek : addK (at_ L j).c (X k) = (at_ L j).c + X k := addK_few hc0 hX (by omega)
  rw [ek]
  have es : sumX X (k + 1) = sumX X k + X k := rfl
  have hne : ∀ i, i < L.length → i ≠ j → P k ≠ (at_ L i).p := fun i hi e e2 => e (h.lone i j hi hj (by rw [hp, e2]))
  have hh : ∀ q, has (L.set j ⟨(at_ L j).p, (at_ L j).c + X k, (at_ L j).e⟩) q = false → has L q = false ∧ P k ≠ q := fun q hq => by
    have h1 : ∀ i, i < L.length → (at_ L i).p ≠ q := fun i hi => by
      have := has_not hq (i := i) (by rw [List.length_set]; exact hi)
      by_cases e : i = j
      · subst e; rw [at_set hi] at this; exact this
      · rw [at_set_ne (Ne.symm e)] at this; exact this
    exact ⟨not_has h1, hp ▸ h1 j hj⟩
  refine ⟨by rw [List.length_set]; exact h.len, h.lone.set_ hj (fun i hi e => by rw [hp]; exact Ne.symm (hne i hi e)), by rw [cnts_set L j _ hj, h.sum, es]; simp only; omega, ?_, ?_, ?_, ?_, ?_, ?_, ?_⟩
  · intro i hi
    rw [List.length_set] at hi
    by_cases e : i = j
    · subst e; rw [at_set hi]; show 0 ≤ _ + _; omega
    · rw [at_set_ne (Ne.symm e)]; exact h.c0 i hi
  · intro i hi
    rw [List.length_set] at hi
    by_cases e : i = j
    · subst e; rw [at_set hi]; exact h.e0 _ hi
    · rw [at_set_ne (Ne.symm e)]; exact h.e0 i hi
  · intro i hi
    rw [List.length_set] at hi
    rw [es]
    by_cases e : i = j
    · subst e; rw [at_set hi]; have := h.err _ hi; show (at_ L i).e * _ ≤ _; omega
    · rw [at_set_ne (Ne.symm e)]; have := h.err i hi; omega
  · intro i hi
    rw [List.length_set] at hi
    by_cases e : i = j
    · subst e; rw [at_set hi]; have := h.hi _ hi; show tru P X (at_ L i).p (k + 1) ≤ _ + _; rw [tru_same hp.symm]; omega
    · rw [at_set_ne (Ne.symm e), tru_other (hne i hi e)]; exact h.hi i hi
  · intro i hi
    rw [List.length_set] at hi
    by_cases e : i = j
    · subst e; rw [at_set hi]; have := h.lo _ hi; show (at_ L i).c + X k - (at_ L i).e ≤ tru P X (at_ L i).p (k + 1); rw [tru_same hp.symm]; omega
    · rw [at_set_ne (Ne.symm e), tru_other (hne i hi e)]; exact h.lo i hi
  · intro hm q hq
    rw [List.length_set] at hm
    rw [tru_other (hh q hq).2]
    exact h.room hm q (hh q hq).1
  · intro q hq i hi
    rw [List.length_set] at hi
    rw [tru_other (hh q hq).2]
    have := h.full q (hh q hq).1 i hi
    by_cases e : i = j
    · subst e; rw [at_set hi]; show _ ≤ _ + _; omega
    · rw [at_set_ne (Ne.symm e)]; exact this
theorem cnts_nat (h : ∀ i, i < L.length → 0 ≤ (at_ L i).c) : 0 ≤ cnts L := by have := cnts_least L 0 h; omega
/-- A slot for one that has none, where there is room. -/
theorem Inv.room_ (h : Inv M P X k L) (hp : has L p = false) (hm : L.length < M) : Inv M P X k (L ++ [⟨p, 0, 0⟩]) := by
  have hl : (L ++ [(⟨p, 0, 0⟩ : Slo)]).length = L.length + 1 := by simp
  have hn := h.sum ▸ cnts_nat h.c0
  have ht := h.room hm p hp
  have hh : ∀ q, has (L ++ [⟨p, 0, 0⟩]) q = false → has L q = false := fun q hq => not_has fun i hi => by
    have := has_not hq (i := i) (by omega)
    rwa [at_left hi] at this
  have hc : ∀ (Q : Slo → Prop), (∀ i, i < L.length → Q (at_ L i)) → Q ⟨p, 0, 0⟩ → ∀ i, i < (L ++ [(⟨p, 0, 0⟩ : Slo)]).length → Q (at_ (L ++ [⟨p, 0, 0⟩]) i) := fun Q h1 h2 i hi => by
    rcases Nat.lt_or_ge i L.length with e | e
    · rw [at_left e]; exact h1 i e
    · obtain rfl : i = L.length := by omega
      rw [at_last]; exact h2
  refine ⟨by omega, ?_, by rw [cnts_app, h.sum]; simp [cnts], hc (fun s => 0 ≤ s.c) h.c0 (Int.le_refl 0), hc (fun s => 0 ≤ s.e) h.e0 (Int.le_refl 0), hc (fun s => s.e * M ≤ sumX X k) h.err (by show 0 * (M : Int) ≤ _; omega), hc (fun s => tru P X s.p k ≤ s.c) h.hi (by show tru P X p k ≤ 0; omega), hc (fun s => s.c - s.e ≤ tru P X s.p k) h.lo (by show (0 : Int) - 0 ≤ tru P X p k; omega), fun _ q hq => h.room hm q (hh q hq), fun q hq => ?_⟩
  · intro a b ha hb e
    rcases Nat.lt_or_ge a L.length with e1 | e1 <;> rcases Nat.lt_or_ge b L.length with e2 | e2
    · rw [at_left e1, at_left e2] at e; exact h.lone a b e1 e2 e
    · obtain rfl : b = L.length := by omega
      rw [at_left e1, at_last] at e; exact absurd e (has_not hp e1)
    · obtain rfl : a = L.length := by omega
      rw [at_left e2, at_last] at e; exact absurd e.symm (has_not hp e2)
    · omega
  · rw [h.room hm q (hh q hq)]
    exact hc (fun s => 0 ≤ s.c) h.c0 (Int.le_refl 0)
/-- The least one's slot for one that has none. -/
theorem Inv.swap (h : Inv M P X k L) (hX : ∀ i, i < k → 0 ≤ X i) (hp : has L p = false) (h1 : 1 ≤ M) (hm : ¬ L.length < M) :
    Inv M P X k (L.set (low L L.length) ⟨p, (at_ L (low L L.length)).c, (at_ L (low L L.length)).c⟩) := by
  have hlm := h.len
  have hj := low_lt (L := L) (by omega) L.length (Nat.le_refl _)
  have hle := low_le (L := L) L.length
  generalize low L L.length = j at *
  have hcM : (at_ L j).c * M ≤ sumX X k := by
    have := cnts_least L (at_ L j).c hle
    rw [h.sum, show L.length = M by omega, Int.mul_comm] at this
    exact this
  have hc : ∀ (Q : Slo → Prop), (∀ i, i < L.length → i ≠ j → Q (at_ L i)) → Q ⟨p, (at_ L j).c, (at_ L j).c⟩ → ∀ i, i < (L.set j ⟨p, (at_ L j).c, (at_ L j).c⟩).length → Q (at_ (L.set j ⟨p, (at_ L j).c, (at_ L j).c⟩) i) := fun Q h1 h2 i hi => by
    rw [List.length_set] at hi
    by_cases e : i = j
    · subst e; rw [at_set hi]; exact h2
    · rw [at_set_ne (Ne.symm e)]; exact h1 i hi e
  have c0 := h.c0 j hj
  refine ⟨by rw [List.length_set]; exact h.len, h.lone.set_ hj (fun i hi _ => has_not hp hi), by rw [cnts_set L j _ hj, h.sum]; simp only; omega, hc (fun s => 0 ≤ s.c) (fun i hi _ => h.c0 i hi) c0, hc (fun s => 0 ≤ s.e) (fun i hi _ => h.e0 i hi) c0, hc (fun s => s.e * M ≤ sumX X k) (fun i hi _ => h.err i hi) hcM, hc (fun s => tru P X s.p k ≤ s.c) (fun i hi _ => h.hi i hi) (h.full p hp j hj), hc (fun s => s.c - s.e ≤ tru P X s.p k) (fun i hi _ => h.lo i hi) (by show (at_ L j).c - (at_ L j).c ≤ tru P X p k; have := tru_nat (P := P) (p := p) hX; omega), fun hm2 => absurd hm2 (by rw [List.length_set]; exact hm), fun q hq => ?_⟩
  have hq1 : ∀ i, i < L.length → i ≠ j → (at_ L i).p ≠ q := fun i hi e => by
    have := has_not hq (i := i) (by rw [List.length_set]; exact hi)
    rwa [at_set_ne (Ne.symm e)] at this
  have hb : ∀ i, i < L.length → tru P X q k ≤ (at_ L i).c := by
    by_cases e : (at_ L j).p = q
    · intro i hi
      have := h.hi j hj
      rw [e] at this
      have := hle i hi
      omega
    · exact h.full q (not_has fun i hi => by
        by_cases e2 : i = j
        · rw [e2]; exact e
        · exact hq1 i hi e2)
  exact hc (fun s => tru P X q k ≤ s.c) (fun i hi _ => hb i hi) (hb j hj)
theorem Inv.plc_ (h : Inv M P X k L) (hX : ∀ i, i < k → 0 ≤ X i) (h1 : 1 ≤ M) (p : Pre) : Inv M P X k (plc M L p) := by
  rcases hh : has L p with _ | _
  · by_cases hm : L.length < M
    · rw [plc_room hh hm]; exact h.room_ hh hm
    · rw [plc_full hh hm]; exact h.swap hX hh h1 hm
  · rw [plc_has hh]; exact h
theorem Inv.step (h : Inv M P X k L) (hX : ∀ i, i < k + 1 → 0 ≤ X i) (hs : sumX X k + X k ≤ 4611686018427387904) (h1 : 1 ≤ M) : Inv M P X (k + 1) (stp M L (P k) (X k)) :=
  (h.plc_ (fun i hi => hX i (by omega)) h1 (P k)).more (hX k (by omega)) hs (pos_lt h1) (pos_at h1)
theorem sumX_bd (hX : ∀ i, i < k → 0 ≤ X i ∧ X i ≤ 4294967296) : 0 ≤ sumX X k ∧ sumX X k ≤ 4294967296 * (k : Int) := by
  induction k with
  | zero => simp [sumX]
  | succ k ih =>
    have h1 := ih (fun i hi => hX i (by omega))
    have h2 := hX k (by omega)
    have e : sumX X (k + 1) = sumX X k + X k := rfl
    rw [e, Int.natCast_succ]
    omega
/-- Behind up to 120 countings of up to 2^52 each. -/
theorem inv_ran (hX : ∀ i, i < k → 0 ≤ X i ∧ X i ≤ 4294967296) (hk : k ≤ 120) (h1 : 1 ≤ M) : Inv M P X k (ran M P X k) ∧ tot X k = sumX X k := by
  induction k with
  | zero =>
    refine ⟨⟨Nat.zero_le _, fun i j hi => absurd hi (by simp [ran]), rfl, fun i hi => absurd hi (by simp [ran]), fun i hi => absurd hi (by simp [ran]), fun i hi => absurd hi (by simp [ran]), fun i hi => absurd hi (by simp [ran]), fun i hi => absurd hi (by simp [ran]), fun _ _ _ => rfl, fun _ _ i hi => absurd hi (by simp [ran])⟩, rfl⟩
  | succ k ih =>
    obtain ⟨h2, h3⟩ := ih (fun i hi => hX i (by omega)) (by omega)
    have hb := sumX_bd (fun i hi => hX i (by omega) : ∀ i, i < k → 0 ≤ X i ∧ X i ≤ 4294967296)
    have hk2 := hX k (by omega)
    refine ⟨h2.step (fun i hi => (hX i hi).1) (by omega) h1, ?_⟩
    show addK (tot X k) (X k) = sumX X k + X k
    rw [h3, addK_few hb.1 hk2.1 (by omega)]
theorem tru_le (hX : ∀ i, i < k → 0 ≤ X i) : tru P X p k ≤ sumX X k := by
  induction k with
  | zero => exact Int.le_refl 0
  | succ k ih =>
    have h1 := ih (fun i hi => hX i (by omega))
    have h2 := hX k (by omega)
    have e : sumX X (k + 1) = sumX X k + X k := rfl
    by_cases h : P k = p
    · rw [tru_same h]; omega
    · rw [tru_other h]; omega
/-- As long as there is room, all is exact. -/
structure Exa (P : Nat → Pre) (X : Nat → Int) (k : Nat) (L : List Slo) : Prop where
  len : L.length ≤ k
  lone : Lone L
  c : ∀ i, i < L.length → (at_ L i).c = truK P X (at_ L i).p k
  e : ∀ i, i < L.length → (at_ L i).e = 0
  no : ∀ p, has L p = false → truK P X p k = 0
theorem truK_same (h : P k = p) : truK P X p (k + 1) = addK (truK P X p k) (X k) := by show (if P k = p then _ else _) = _; rw [if_pos h]
theorem truK_other (h : P k ≠ p) : truK P X p (k + 1) = truK P X p k := by show (if P k = p then _ else _) = _; rw [if_neg h]
theorem Exa.step (h : Exa P X k L) (hm : L.length < M) : Exa P X (k + 1) (stp M L (P k) (X k)) := by
  -- where it is placed, all is so but for how many there are
  have hh : ∃ G : List Slo, plc M L (P k) = G ∧ G.length ≤ k + 1 ∧ Lone G ∧ (∀ i, i < G.length → (at_ G i).c = truK P X (at_ G i).p k) ∧ (∀ i, i < G.length → (at_ G i).e = 0) ∧ ∀ p, has G p = false → truK P X p k = 0 := by
    rcases hh : has L (P k) with _ | _
    · refine ⟨_, plc_room hh hm, ?_, ?_, ?_, ?_, ?_⟩
      · have := h.len
        simp
        omega
      · intro a b ha hb e
        rw [List.length_append] at ha hb
        simp only [List.length_cons, List.length_nil] at ha hb
        rcases Nat.lt_or_ge a L.length with e1 | e1 <;> rcases Nat.lt_or_ge b L.length with e2 | e2
        · rw [at_left e1, at_left e2] at e; exact h.lone a b e1 e2 e
        · obtain rfl : b = L.length := by omega
          rw [at_left e1, at_last] at e; exact absurd e (has_not hh e1)
        · obtain rfl : a = L.length := by omega
          rw [at_left e2, at_last] at e; exact absurd e.symm (has_not hh e2)
        · omega
      · intro i hi
        rcases Nat.lt_or_ge i L.length with e1 | e1
        · rw [at_left e1]; exact h.c i e1
        · obtain rfl : i = L.length := by simp at hi; omega
          rw [at_last]; exact (h.no _ hh).symm
      · intro i hi
        rcases Nat.lt_or_ge i L.length with e1 | e1
        · rw [at_left e1]; exact h.e i e1
        · obtain rfl : i = L.length := by simp at hi; omega
          rw [at_last]
      · exact fun q hq => h.no q (not_has fun i hi => by
          have := has_not hq (i := i) (by simp; omega)
          rwa [at_left hi] at this)
    · exact ⟨L, plc_has hh, by have := h.len; omega, h.lone, h.c, h.e, h.no⟩
  obtain ⟨G, hG, h1, h2, h3, h4, h5⟩ := hh
  have hj := pos_lt (M := M) (L := L) (p := P k) (by omega)
  have hp := pos_at (M := M) (L := L) (p := P k) (by omega)
  unfold stp
  rw [hG] at hj hp ⊢
  generalize pos M L (P k) = j at *
  have hne : ∀ i, i < G.length → i ≠ j → P k ≠ (at_ G i).p := fun i hi e e2 => e (h2 i j hi hj (by rw [hp, e2]))
  unfold inc
  refine ⟨by rw [List.length_set]; exact h1, h2.set_ hj (fun i hi e => by rw [hp]; exact Ne.symm (hne i hi e)), ?_, ?_, ?_⟩
  · intro i hi
    rw [List.length_set] at hi
    by_cases e : i = j
    · subst e
      rw [at_set hi]
      show addK (at_ G i).c (X k) = truK P X (at_ G i).p (k + 1)
      rw [truK_same hp.symm, h3 i hi]
    · rw [at_set_ne (Ne.symm e), truK_other (hne i hi e)]; exact h3 i hi
  · intro i hi
    rw [List.length_set] at hi
    by_cases e : i = j
    · subst e; rw [at_set hi]; exact h4 _ hi
    · rw [at_set_ne (Ne.symm e)]; exact h4 i hi
  · intro q hq
    have hq1 : ∀ i, i < G.length → (at_ G i).p ≠ q := fun i hi => by
      have := has_not hq (i := i) (by rw [List.length_set]; exact hi)
      by_cases e : i = j
      · subst e; rw [at_set hi] at this; exact this
      · rw [at_set_ne (Ne.symm e)] at this; exact this
    rw [truK_other (fun e => hq1 j hj (hp.trans e))]
    exact h5 q (not_has hq1)
theorem exa_ran (hk : k ≤ M) : Exa P X k (ran M P X k) := by
  induction k with
  | zero => exact ⟨Nat.zero_le _, fun i j hi => absurd hi (by simp [ran]), fun i hi => absurd hi (by simp [ran]), fun i hi => absurd hi (by simp [ran]), fun _ _ => rfl⟩
  | succ k ih =>
    have h := ih (by omega)
    exact h.step (by have := h.len; omega)
/-- The least count, as a loop finds it. -/
def least (L : List Slo) (z : Int) : Nat → Int
  | 0 => z
  | k + 1 => min (least L z k) (at_ L k).c
theorem least_le : ∀ (k : Nat) (z : Int), least L z k ≤ z
  | 0, _ => Int.le_refl _
  | k + 1, z => Int.le_trans (Int.min_le_left _ _) (least_le k z)
theorem least_at : ∀ (k : Nat) (z : Int) (j : Nat), j < k → least L z k ≤ (at_ L j).c
  | 0, _, _, h => absurd h (by omega)
  | k + 1, z, j, h => by
    by_cases e : j = k
    · subst e; exact Int.min_le_right _ _
    · exact Int.le_trans (Int.min_le_left _ _) (least_at k z j (by omega))
theorem least_in : ∀ (k : Nat) (z c : Int), c ≤ z → (∀ j, j < k → c ≤ (at_ L j).c) → c ≤ least L z k
  | 0, _, _, h, _ => h
  | k + 1, z, c, h, h2 => Int.le_min.2 ⟨least_in k z c h (fun j hj => h2 j (by omega)), h2 k (by omega)⟩
theorem least_nat (z : Int) (hz : 0 ≤ z) (h : ∀ i, i < L.length → 0 ≤ (at_ L i).c) (k : Nat) (hk : k ≤ L.length) : 0 ≤ least L z k :=
  least_in k z 0 hz (fun j hj => h j (by omega))
/-- Who has no slot has no more than the least. -/
theorem least_not (h : Inv M P X k L) (hX : ∀ i, i < k → 0 ≤ X i ∧ X i ≤ 4294967296) (hk : k ≤ 120) (hp : has L p = false) : tru P X p k ≤ least L 1152921504606846976 L.length := by
  have h1 := tru_le (P := P) (p := p) (fun i hi => (hX i hi).1)
  have h2 := sumX_bd hX
  exact least_in _ _ _ (by omega) (fun j hj => h.full p hp j hj)
/-- The sum of the first k counts. -/
def sumC (L : List Slo) : Nat → Int
  | 0 => 0
  | k + 1 => sumC L k + (at_ L k).c
theorem sumC_cons (x : Slo) (r : List Slo) : ∀ k, sumC (x :: r) (k + 1) = x.c + sumC r k
  | 0 => by simp [sumC, at_]
  | k + 1 => by
    have ih := sumC_cons x r k
    have e : at_ (x :: r) (k + 1) = at_ r k := by simp [at_]
    have e1 : sumC (x :: r) (k + 1 + 1) = sumC (x :: r) (k + 1) + (at_ (x :: r) (k + 1)).c := rfl
    have e2 : sumC r (k + 1) = sumC r k + (at_ r k).c := rfl
    rw [e1, ih, e, e2]
    omega
theorem sumC_all : ∀ L : List Slo, sumC L L.length = cnts L
  | [] => rfl
  | x :: r => by rw [List.length_cons, sumC_cons, sumC_all r]; rfl
theorem sumC_le (h : ∀ i, i < L.length → 0 ≤ (at_ L i).c) : ∀ k, k ≤ L.length → 0 ≤ sumC L k ∧ sumC L k ≤ cnts L := by
  have mono : ∀ d k, k + d = L.length → sumC L k ≤ sumC L L.length := fun d => by
    induction d with
    | zero => intro k hk; obtain rfl : k = L.length := by omega
              exact Int.le_refl _
    | succ d ih =>
      intro k hk
      have h1 := ih (k + 1) (by omega)
      have h2 := h k (by omega)
      have e : sumC L (k + 1) = sumC L k + (at_ L k).c := rfl
      omega
  intro k hk
  refine ⟨?_, by rw [← sumC_all]; exact mono (L.length - k) k (by omega)⟩
  clear mono
  induction k with
  | zero => exact Int.le_refl 0
  | succ k ih =>
    have h1 := ih (by omega)
    have h2 := h k (by omega)
    show 0 ≤ sumC L k + (at_ L k).c
    omega
/-- The least count of as many slots as there may be, as many times, is no more than the total. -/
theorem least_sum (h : Inv M P X k L) (z : Int) (hm : L.length = M) : least L z L.length * M ≤ sumX X k := by
  have := cnts_least L (least L z L.length) (fun j hj => least_at L.length z j hj)
  rw [h.sum, hm, Int.mul_comm] at this
  rw [hm]
  exact this
end
end Go.Proofs.Yteeobeeoefokdaa
