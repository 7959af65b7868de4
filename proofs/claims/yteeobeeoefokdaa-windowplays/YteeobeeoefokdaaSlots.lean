/- Prefixes and slots as cells; rows of slots in memory; '==' of them. Conditions: those of each theorem. -/
import Derived.Test.YteeobeeoefokdaaRows
import Derived.Test.YteeobeeoefokdaaMem
import Derived.Test.YteeobeeoefokdaaAdds
import Derived.WalkKit
import Derived.WalkSpells
import Derived.WalkLawsBesides
import Derived.ProofKit
import Derived.OpenShut
import Derived.Deep.MidRow
import Derived.DeepKeys
import Derived.Laws.Tables
import Derived.Deep.DeepCutAuto
import Derived.RegionTactic
import Derived.Deep.RegionHeld
import Derived.Deep.RegionWith
import Derived.Deep.QuietTactic
import Derived.BigQuiet
import Derived.Lib.MinMax
namespace Go.Proofs.Yteeobeeoefokdaa
open Go.RowKit

/-- A prefix. -/
structure Pre where
  v : Bool
  a : Int
  b : Int
  c : Int
  d : Int
  e : Int
  f : Int
  g : Int
/-- A prefix, a count, and how much of it may be wrong. -/
structure Slo where
  p : Pre
  c : Int
  e : Int
instance decPre : DecidableEq Pre := fun p q =>
  if h : p.v = q.v ∧ p.a = q.a ∧ p.b = q.b ∧ p.c = q.c ∧ p.d = q.d ∧ p.e = q.e ∧ p.f = q.f ∧ p.g = q.g then .isTrue (by cases p; cases q; simp_all) else .isFalse (by rintro rfl; simp at h)
instance decSlo : DecidableEq Slo := fun s t =>
  if h : s.p = t.p ∧ s.c = t.c ∧ s.e = t.e then .isTrue (by cases s; cases t; simp_all) else .isFalse (by rintro rfl; simp at h)
/-- Bytes as cells. -/
def cel (s : List Int) : List Value := s.map (.int .u8)
def Pre.bs (p : Pre) : List Int := [p.a, p.b, p.c, p.d, p.e, p.f, p.g]
def Pre.cs (p : Pre) : List Value := .bool p.v :: cel p.bs
def Slo.cs (s : Slo) : List Value := s.p.cs ++ [.int .i64 s.c, .int .i64 s.e]
abbrev byt (z : Int) : Prop := 0 ≤ z ∧ z ≤ 255
structure Pre.Ok (p : Pre) : Prop where
  h : ∀ z ∈ p.bs, byt z
/-- A count. -/
abbrev num (z : Int) : Prop := 0 ≤ z ∧ z ≤ 4611686018427387904
structure Slo.Ok (s : Slo) : Prop where
  p : s.p.Ok
  c : num s.c
  e : num s.e
def pre0 : Pre := ⟨false, 0, 0, 0, 0, 0, 0, 0⟩
def slo0 : Slo := ⟨pre0, 0, 0⟩
theorem pre0_ok : pre0.Ok := ⟨by decide⟩
theorem slo0_ok : slo0.Ok := ⟨pre0_ok, by decide, by decide⟩
theorem cs8 (p : Pre) : p.cs.length = 8 := rfl
theorem cs10 (s : Slo) : s.cs.length = 10 := rfl
theorem pre_each (p : Pre) : ∀ u ∈ p.cs, u.oneCell' = true := by
  intro u hu
  simp only [Pre.cs, cel, List.mem_cons, List.mem_map] at hu
  rcases hu with rfl | ⟨z, _, rfl⟩ <;> rfl
theorem slo_each (s : Slo) : ∀ u ∈ s.cs, u.oneCell' = true := by
  intro u hu
  rcases List.mem_append.1 hu with h | h
  · exact pre_each _ u h
  · simp only [List.mem_cons, List.not_mem_nil, or_false] at h
    rcases h with rfl | rfl <;> rfl

/-! Rows of slots. -/
def flat (L : List Slo) : List Value := L.flatMap Slo.cs
theorem flat_length (L : List Slo) : (flat L).length = L.length * 10 := by
  induction L with
  | nil => rfl
  | cons s r ih =>
    have : flat (s :: r) = s.cs ++ flat r := rfl
    rw [this, List.length_append, ih, cs10, List.length_cons]
    omega
theorem flat_app (L R : List Slo) : flat (L ++ R) = flat L ++ flat R := by simp [flat]
theorem flat_one (s : Slo) : flat [s] = s.cs := by simp [flat]
theorem flat_split {L : List Slo} {k : Nat} {s : Slo} (h : L[k]? = some s) : flat L = flat (L.take k) ++ (s.cs ++ flat (L.drop (k + 1))) := by
  have hk := (List.getElem?_eq_some_iff.1 h).1
  have e : L = L.take k ++ (s :: L.drop (k + 1)) := by
    rw [← (List.getElem?_eq_some_iff.1 h).2, ← List.drop_eq_getElem_cons, List.take_append_drop]
  conv => lhs; rw [e]
  rw [flat_app]
  rfl
theorem take_len {L : List Slo} {k : Nat} (h : k ≤ L.length) : (flat (L.take k)).length = k * 10 := by rw [flat_length, List.length_take]; omega
theorem flat_at {L : List Slo} {k i : Nat} {s : Slo} (h : L[k]? = some s) (hi : i < 10) : (flat L)[k * 10 + i]? = s.cs[i]? := by
  have hk := (List.getElem?_eq_some_iff.1 h).1
  have hl := take_len (L := L) (k := k) (by omega)
  rw [flat_split h, List.getElem?_append_right (by omega), hl, show k * 10 + i - k * 10 = i by omega, List.getElem?_append_left (by rw [cs10]; exact hi)]
theorem drop3 (a b c : List Value) {n : Nat} (h : a.length + b.length = n) : (a ++ (b ++ c)).drop n = c := by
  subst h
  rw [← List.append_assoc, ← List.length_append, List.drop_left]
theorem flat_set {L : List Slo} {k : Nat} (hk : k < L.length) (s : Slo) : flat (L.set k s) = (flat L).take (k * 10) ++ (s.cs ++ (flat L).drop (k * 10 + 10)) := by
  have h1 : (L.set k s)[k]? = some s := by simp [hk]
  rw [flat_split h1]
  have h2 : L[k]? = some L[k] := by simp [hk]
  have hl := take_len (L := L) (k := k) (by omega)
  have e : flat L = flat (L.take k) ++ (L[k].cs ++ flat (L.drop (k + 1))) := flat_split h2
  rw [e]
  congr 1
  · rw [List.take_left' hl]
    congr 1
    apply List.ext_getElem?
    intro i
    simp only [List.getElem?_take, List.getElem?_set]
    split
    · rw [if_neg (by omega)]
    · rfl
  · congr 1
    rw [drop3 _ _ _ (by rw [hl, cs10])]
    congr 1
    apply List.ext_getElem?
    intro i
    simp only [List.getElem?_drop, List.getElem?_set]
    rw [if_neg (by omega)]

theorem Blk.setCells {g : Nat} {t : TypeId} : ∀ (vs cs : List Value) (o : Nat) (w : World), Blk w g t cs → o + vs.length ≤ cs.length → Blk (w.setCells g o vs) g t (cs.take o ++ (vs ++ cs.drop (o + vs.length)))
  | [], cs, o, w, h, _ => by simpa [World.setCells] using h
  | v :: r, cs, o, w, h, hl => by
    simp at hl
    have := Blk.setCells r (cs.set o v) (o + 1) (w.setCell ⟨g, o, none⟩ v) (h.set_ o v) (by simp; omega)
    rw [World.setCells]
    have e1 : (cs.set o v).take (o + 1) = cs.take o ++ [v] := by
      apply List.ext_getElem?
      intro i
      simp only [List.getElem?_take, List.getElem?_set, List.getElem?_append, List.length_take]
      by_cases h1 : i < o
      · rw [if_pos (by omega), if_neg (by omega), if_pos (by omega), if_pos h1]
      · by_cases h2 : i = o
        · subst h2
          rw [if_pos (by omega), if_pos rfl, if_pos (by omega), if_neg (by omega), show i - min i cs.length = 0 by omega]
          rfl
        · rw [if_neg (by omega), if_neg (by omega), List.getElem?_eq_none (by simp; omega)]
    have e2 : (cs.set o v).drop (o + 1 + r.length) = cs.drop (o + (v :: r).length) := by
      apply List.ext_getElem?
      intro i
      simp only [List.getElem?_drop, List.getElem?_set, List.length_cons]
      rw [if_neg (by omega), show o + 1 + r.length + i = o + (r.length + 1) + i by omega]
    rw [e1, e2] at this
    simpa using this
theorem far_setCells {S : Nat → Prop} {g : Nat} : ∀ (vs : List Value) (o : Nat) (w0 w : World), Far S w0 w → (g < w0.heap.size → S g) → Far S w0 (w.setCells g o vs)
  | [], _, _, _, h, _ => h
  | v :: r, o, w0, w, h, hg => far_setCells r (o + 1) w0 (w.setCell ⟨g, o, none⟩ v) (h.set_ (p := ⟨g, o, none⟩) hg v) hg

/-- The slots L, and room for c in all, in block q. -/
def Rw (w : World) (t : TypeId) (q c : Nat) (L : List Slo) : Prop := L.length ≤ c ∧ ∃ R, Blk w q t (flat L ++ R) ∧ R.length = (c - L.length) * 10
def only (g : Nat) : Nat → Prop := fun k => k = g
def nobody : Nat → Prop := fun _ => False
section
variable {w w' : World} {t : TypeId} {q c k : Nat} {L : List Slo} {s : Slo}
theorem Rw.lt (h : Rw w t q c L) : q < w.heap.size := by obtain ⟨_, R, hb, _⟩ := h; exact hb.lt
theorem Rw.far {S : Nat → Prop} (h : Rw w t q c L) (hf : Far S w w') (hn : ¬ S q) : Rw w' t q c L := by
  obtain ⟨h1, R, hb, h2⟩ := h
  exact ⟨h1, R, hb.far hf hn, h2⟩
theorem Rw.below (h : Rw w t q c L) (hb : Below w.heap.size w w') : Rw w' t q c L := h.far (Far.of_below hb nobody) (fun e => e)
theorem Rw.slot (h : Rw w t q c L) (hk : L[k]? = some s) : w.rangeAt q (k * 10) s.cs := by
  obtain ⟨h1, R, hb, h2⟩ := h
  have hkl := (List.getElem?_eq_some_iff.1 hk).1
  intro j v hv
  have hj : j < 10 := by have := (List.getElem?_eq_some_iff.1 hv).1; rwa [cs10] at this
  rw [hb.cell, List.getElem?_append_left (by rw [flat_length]; omega), flat_at hk hj]
  exact hv
theorem range_pre {b o : Nat} (h : w.rangeAt b o s.cs) : w.rangeAt b o s.p.cs := by
  intro j v hv
  refine h j v ?_
  rw [Slo.cs, List.getElem?_append_left (List.getElem?_eq_some_iff.1 hv).1]
  exact hv
theorem Rw.pre (h : Rw w t q c L) (hk : L[k]? = some s) : w.rangeAt q (k * 10) s.p.cs := range_pre (h.slot hk)
theorem Rw.cnt (h : Rw w t q c L) (hk : L[k]? = some s) : w.cell? ⟨q, k * 10 + 8, none⟩ = some (.int .i64 s.c) := h.slot hk 8 _ rfl
theorem Rw.err (h : Rw w t q c L) (hk : L[k]? = some s) : w.cell? ⟨q, k * 10 + 9, none⟩ = some (.int .i64 s.e) := h.slot hk 9 _ rfl
theorem Rw.frozen (h : Rw w t q c L) (i : Nat) : w.frozen? ⟨q, i, none⟩ = false := by obtain ⟨_, R, hb, _⟩ := h; exact hb.frozen i
theorem Rw.there (h : Rw w t q c L) (hk : k < L.length) : w.there q (k * 10) 10 := by
  intro j hj
  refine ⟨?_, h.frozen _⟩
  have hs : L[k]? = some L[k] := by simp [hk]
  obtain ⟨v, hv⟩ : ∃ v, (L[k]).cs[j]? = some v := ⟨_, List.getElem?_eq_getElem (by rw [cs10 L[k]]; exact hj)⟩
  rw [h.slot hs j v hv]
  rfl
theorem Rw.put (h : Rw w t q c L) (hk : k < L.length) (s : Slo) : Rw (w.setCells q (k * 10) s.cs) t q c (L.set k s) := by
  obtain ⟨h1, R, hb, h2⟩ := h
  refine ⟨by simpa using h1, R, ?_, by simpa using h2⟩
  have hl := flat_length L
  have := Blk.setCells s.cs (flat L ++ R) (k * 10) w hb (by rw [List.length_append, hl, cs10]; omega)
  rw [cs10, List.take_append_of_le_length (by omega), List.drop_append_of_le_length (by omega)] at this
  rw [flat_set hk]
  simpa using this
theorem Rw.putCnt (h : Rw w t q c L) (hk : L[k]? = some s) (x : Int) : Rw (w.setCell ⟨q, k * 10 + 8, none⟩ (.int .i64 x)) t q c (L.set k ⟨s.p, x, s.e⟩) := by
  obtain ⟨h1, R, hb, h2⟩ := h
  have hkl := (List.getElem?_eq_some_iff.1 hk).1
  refine ⟨by simpa using h1, R, ?_, by simpa using h2⟩
  have hl := flat_length L
  have := hb.set_ (k * 10 + 8) (.int .i64 x)
  have e : (flat L ++ R).set (k * 10 + 8) (.int .i64 x) = flat (L.set k ⟨s.p, x, s.e⟩) ++ R := by
    rw [List.set_append_left _ _ (by omega)]
    congr 1
    have hls := take_len (L := L) (k := k) (by omega)
    have e1 : (L.set k ⟨s.p, x, s.e⟩)[k]? = some (⟨s.p, x, s.e⟩ : Slo) := by simp [hkl]
    rw [flat_split hk, flat_split e1, List.set_append_right _ _ (by omega), hls, show k * 10 + 8 - k * 10 = 8 by omega]
    have e2 : (L.set k ⟨s.p, x, s.e⟩).take k = L.take k := by
      apply List.ext_getElem?
      intro i
      simp only [List.getElem?_take, List.getElem?_set]
      split
      · rw [if_neg (by omega)]
      · rfl
    have e3 : (L.set k ⟨s.p, x, s.e⟩).drop (k + 1) = L.drop (k + 1) := by
      apply List.ext_getElem?
      intro i
      simp only [List.getElem?_drop, List.getElem?_set]
      rw [if_neg (by omega)]
    rw [e2, e3]
    rfl
  rwa [e] at this
theorem Rw.nil {cs : List Value} (hb : Blk w q t cs) (hl : cs.length = c * 10) : Rw w t q c [] := ⟨Nat.zero_le _, cs, hb, by simpa using hl⟩
theorem Rw.none_ (h : Rw w t q c L) : Rw w t q c [] := by
  obtain ⟨h1, R, hb, h2⟩ := h
  refine ⟨Nat.zero_le _, flat L ++ R, hb, ?_⟩
  rw [List.length_append, flat_length, h2]
  simp
  omega
theorem Rw.of_row {base n : Nat} (h : w.ownsRow base t 10 (.slice (some ⟨q, 0, none⟩) n c) n (flat L)) (hn : L.length = n) : Rw w t q c L := by
  rcases h.2 with ⟨e, _⟩ | ⟨g', cap, cur, e, _, hg, hc, _, hs, ht⟩
  · cases e
  · cases e
    refine ⟨by omega, cur.toList.drop (n * 10), ?_, by simp; omega⟩
    unfold Blk
    rw [hg, ← ht, List.take_append_drop]
theorem Rw.row (h : Rw w t q c L) (hc : c ≤ maxLen) : w.ownsRow 0 t 10 (.slice (some ⟨q, 0, none⟩) L.length c) L.length (flat L) := by
  obtain ⟨h1, R, hb, h2⟩ := h
  refine ⟨flat_length L, .inr ⟨q, c, (flat L ++ R).toArray, rfl, Nat.zero_le _, hb, h1, hc, ?_, ?_⟩⟩
  · have := flat_length L
    simp [flat_length, h2]
    omega
  · rw [List.take_append_of_le_length (by rw [flat_length]; omega), List.take_of_length_le (by rw [flat_length]; omega)]
end
end Go.Proofs.Yteeobeeoefokdaa
