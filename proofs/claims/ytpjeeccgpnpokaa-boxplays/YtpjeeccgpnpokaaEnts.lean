/- The document's table on plain lists: the order of prefixes, where one is, what putting and taking away leave. Conditions: those of each theorem. -/
import Derived.Test.YtpjeeccgpnpokaaKins
namespace Go.Proofs.Ytpjeeccgpnpokaa
open Go.RowKit

/-- Who is in: up to when, with how many tokens (parts), as of when. -/
structure Ent where
  p : Pre
  u : Int
  l : Int
  m : Int
/-- Of tokens of rate r and burst b. -/
def Ent.cs (r b : Int) (s : Ent) : List Value := s.p.cs ++ [.int .i64 s.u, .int .i64 r, .int .i64 b, .int .i64 s.l, .int .i64 s.m]
def kPre : Kin Pre := ⟨Pre.cs, 8, by decide, cs8, pre_each⟩
def kEnt (r b : Int) : Kin Ent := ⟨Ent.cs r b, 13, by decide, fun _ => rfl, fun s u hu => by
  rcases List.mem_append.1 hu with h | h
  · exact pre_each _ u h
  · simp only [List.mem_cons, List.not_mem_nil, or_false] at h
    rcases h with h | h | h | h | h <;> (rw [h]; rfl)⟩
def ent0 : Ent := ⟨pre0, 0, 0, 0⟩
/-- The order of bytes, one behind another. -/
def ltL : List Int → List Int → Bool
  | x :: a, y :: b => if x = y then ltL a b else decide (x < y)
  | _, _ => false
def ltP (p q : Pre) : Bool := if p.v = q.v then ltL p.bs q.bs else q.v
theorem ltL_no : ∀ (a : List Int), ltL a a = false
  | [] => rfl
  | x :: a => by simp [ltL, ltL_no a]
theorem ltL_tri : ∀ (a b : List Int), a.length = b.length → a ≠ b → ltL a b = !ltL b a
  | [], [], _, h => absurd rfl h
  | x :: a, y :: b, hl, h => by
    by_cases e : x = y
    · subst e
      simp only [ltL, if_true]
      exact ltL_tri a b (by simpa using hl) (fun e => h (by rw [e]))
    · have e' : ¬ y = x := fun h => e h.symm
      simp only [ltL, if_neg e, if_neg e']
      rw [Bool.eq_iff_iff]
      simp
      omega
theorem ltL_trans : ∀ (a b c : List Int), a.length = b.length → b.length = c.length → ltL a b = true → ltL b c = true → ltL a c = true
  | [], _, _, _, _, h, _ => by simp [ltL] at h
  | x :: a, [], _, _, _, h, _ => by simp [ltL] at h
  | x :: a, y :: b, [], _, hc, _, _ => by simp at hc
  | x :: a, y :: b, z :: c, h1, h2, h, h' => by
    simp only [ltL] at h h' ⊢
    by_cases e : x = y
    · subst e
      rw [if_pos rfl] at h
      by_cases e2 : x = z
      · rw [if_pos e2] at h' ⊢
        exact ltL_trans a b c (by simpa using h1) (by simpa using h2) h h'
      · rw [if_neg e2] at h' ⊢
        exact h'
    · rw [if_neg e] at h
      by_cases e2 : y = z
      · subst e2
        rw [if_neg e]
        exact h
      · rw [if_neg e2] at h'
        simp at h h'
        rw [if_neg (by omega)]
        simp
        omega
theorem bs7 (p : Pre) : p.bs.length = 7 := rfl
theorem ltP_no (p : Pre) : ltP p p = false := by simp [ltP, ltL_no]
theorem pre_ext {p q : Pre} (h : p.v = q.v) (hb : p.bs = q.bs) : p = q := by
  cases p; cases q
  simp [Pre.bs] at h hb
  simp_all
theorem ltP_tri {p q : Pre} (h : p ≠ q) : ltP p q = !ltP q p := by
  unfold ltP
  by_cases e : p.v = q.v
  · rw [if_pos e, if_pos e.symm]
    exact ltL_tri _ _ rfl (fun hb => h (pre_ext e hb))
  · rw [if_neg e, if_neg (fun h => e h.symm)]
    rcases h1 : p.v <;> rcases h2 : q.v <;> simp_all
theorem ltP_trans {p q r : Pre} (h : ltP p q = true) (h' : ltP q r = true) : ltP p r = true := by
  unfold ltP at *
  by_cases e : p.v = q.v
  · rw [if_pos e] at h
    by_cases e2 : q.v = r.v
    · rw [if_pos e2] at h'
      rw [if_pos (e.trans e2)]
      exact ltL_trans p.bs q.bs r.bs rfl rfl h h'
    · rw [if_neg e2] at h'
      rw [if_neg (by rw [e]; exact e2)]
      exact h'
  · rw [if_neg e] at h
    by_cases e2 : q.v = r.v
    · rw [if_neg (by rw [← e2]; exact e), ← e2]
      exact h
    · rw [if_neg e2] at h'
      rw [h, h'] at e2
      exact absurd rfl e2
/-- The byte at k. -/
def Pre.b_ (p : Pre) (k : Nat) : Int := p.bs.getD k 0
theorem bs_drop {p : Pre} {k : Nat} (h : k < 7) : p.bs.drop k = p.b_ k :: p.bs.drop (k + 1) := by
  have hk : k < p.bs.length := h
  rw [List.drop_eq_getElem_cons hk]
  congr 1
  simp [Pre.b_, List.getD_eq_getElem?_getD, hk]
theorem cs_byte {p : Pre} {k : Nat} (h : k < 7) : p.cs[1 + k]? = some (.int .u8 (p.b_ k)) := by
  have hk : k < p.bs.length := h
  rw [Nat.add_comm, Pre.cs, List.getElem?_cons_succ, cel, List.getElem?_map]
  simp [Pre.b_, List.getD_eq_getElem?_getD, hk]
theorem ltL_step {p q : Pre} {k : Nat} (h : k < 7) (e : p.b_ k = q.b_ k) : ltL (p.bs.drop k) (q.bs.drop k) = ltL (p.bs.drop (k + 1)) (q.bs.drop (k + 1)) := by
  rw [bs_drop h, bs_drop h]
  simp [ltL, e]
theorem ltL_out {p q : Pre} {k : Nat} (h : k < 7) (e : ¬ p.b_ k = q.b_ k) : ltL (p.bs.drop k) (q.bs.drop k) = decide (p.b_ k < q.b_ k) := by
  rw [bs_drop h, bs_drop h]
  simp [ltL, e]
theorem ltL_end {p q : Pre} : ltL (p.bs.drop 7) (q.bs.drop 7) = false := rfl

/-! Where one is; putting; taking away. -/
def at_ (L : List Ent) (k : Nat) : Ent := L.getD k ent0
def idx (L : List Ent) (p : Pre) : Nat := L.findIdx fun s => decide (s.p = p)
def has (L : List Ent) (p : Pre) : Bool := decide (idx L p < L.length)
def fnd (L : List Ent) (p : Pre) : Int := if has L p then (idx L p : Nat) else -1
def plc (L : List Ent) (p : Pre) : Nat := L.findIdx fun s => !ltP s.p p
def ins (L : List Ent) (k : Nat) (s : Ent) : List Ent := L.take k ++ [s] ++ L.drop k
def del (L : List Ent) (p : Pre) : List Ent := if has L p then L.take (idx L p) ++ L.drop (idx L p + 1) else L
def pres (L : List Ent) : List Pre := L.map Ent.p
section
variable {L : List Ent} {p : Pre} {k : Nat} {s : Ent}
theorem at_some (h : k < L.length) : L[k]? = some (at_ L k) := by simp [at_, List.getD_eq_getElem?_getD, h]
theorem at_of (h : L[k]? = some s) : at_ L k = s := by simp [at_, List.getD_eq_getElem?_getD, h]
theorem at_mem (h : k < L.length) : at_ L k ∈ L := List.mem_of_getElem? (at_some h)
theorem idx_le : idx L p ≤ L.length := List.findIdx_le_length
theorem plc_le : plc L p ≤ L.length := List.findIdx_le_length
theorem idx_at (h : idx L p < L.length) : (at_ L (idx L p)).p = p := by
  have := List.findIdx_getElem (w := h)
  rw [at_of (s := L[idx L p]) (by simp [h])]
  exact of_decide_eq_true this
theorem idx_not (h : k < idx L p) : (at_ L k).p ≠ p := by
  have hk : k < L.length := Nat.lt_of_lt_of_le h idx_le
  have := List.not_of_lt_findIdx h
  rw [at_of (s := L[k]) (by simp [hk])]
  simpa using this
theorem idx_first (hk : k ≤ L.length) (h1 : ∀ j, j < k → (at_ L j).p ≠ p) (h2 : k < L.length → (at_ L k).p = p) : idx L p = k := by
  rcases Nat.lt_trichotomy (idx L p) k with h | h | h
  · exact absurd (idx_at (Nat.lt_of_lt_of_le h hk)) (h1 _ h)
  · exact h
  · exact absurd (h2 (Nat.lt_of_lt_of_le h idx_le)) (idx_not h)
theorem plc_at (h : plc L p < L.length) : ltP (at_ L (plc L p)).p p = false := by
  have := List.findIdx_getElem (w := h)
  rw [at_of (s := L[plc L p]) (by simp [h])]
  have h3 : (!ltP L[plc L p].p p) = true := this
  simpa using h3
theorem plc_not (h : k < plc L p) : ltP (at_ L k).p p = true := by
  have hk : k < L.length := Nat.lt_of_lt_of_le h plc_le
  have := List.not_of_lt_findIdx h
  rw [at_of (s := L[k]) (by simp [hk])]
  simpa using this
theorem has_iff : has L p = true ↔ idx L p < L.length := by simp [has]
theorem has_mem : has L p = true ↔ ∃ s ∈ L, s.p = p := by
  rw [has_iff]
  unfold idx
  rw [List.findIdx_lt_length]
  simp
theorem has_no : has L p = false ↔ ∀ s ∈ L, s.p ≠ p := by
  rw [← Bool.not_eq_true, has_mem]
  simp
theorem fnd_has (h : has L p = true) : fnd L p = (idx L p : Nat) := by simp [fnd, h]
theorem fnd_not (h : has L p = false) : fnd L p = -1 := by simp [fnd, h]
theorem ins_length (h : k ≤ L.length) : (ins L k s).length = L.length + 1 := by simp [ins]; omega
theorem del_length : (del L p).length ≤ L.length := by
  unfold del
  split
  · simp; omega
  · omega
theorem pres_at (h : k < L.length) : (pres L)[k]? = some (at_ L k).p := by simp [pres, at_some h]
end
end Go.Proofs.Ytpjeeccgpnpokaa
