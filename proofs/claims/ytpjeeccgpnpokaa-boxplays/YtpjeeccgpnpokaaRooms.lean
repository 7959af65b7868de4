/- BoxRoom on plain lists: who is in, in whatever order, with how many tokens. Conditions: those of each theorem. -/
import Derived.Test.YtpjeeccgpnpokaaAwake
namespace Go.Proofs.Ytpjeeccgpnpokaa
open Go.RowKit

/-- A box of n, of burst m, for long. -/
def cfR (n m : Int) : Cfg := ⟨n, 1099511627776, 0, m⟩
theorem cfR_ok {n m : Int} (hn : 1 ≤ n ∧ n ≤ 64) (hm : 1 ≤ m ∧ m ≤ 1073741824) : (cfR n m).Ok := ⟨⟨by show (1 : Int) ≤ 1099511627776; omega, by show (1099511627776 : Int) ≤ _; omega⟩, ⟨by show (0 : Int) ≤ 0; omega, by show (0 : Int) ≤ _; omega⟩, hm, hn⟩
/-- Who is in since 5, and has taken t. -/
def enR (m : Int) (p : Pre) (t : Int) : Ent := ⟨p, 1099511627781, (m - t) * 1048576, 5⟩
def zipE (m : Int) : List Pre → List Int → List Ent
  | p :: ps, t :: ts => enR m p t :: zipE m ps ts
  | _, _ => []
theorem zip_len (m : Int) : ∀ (ps : List Pre) (ts : List Int), ps.length = ts.length → (zipE m ps ts).length = ps.length
  | [], [], _ => rfl
  | p :: ps, t :: ts, h => by simp [zipE, zip_len m ps ts (by simpa using h)]
theorem zip_pres (m : Int) : ∀ (ps : List Pre) (ts : List Int), ps.length = ts.length → pres (zipE m ps ts) = ps
  | [], [], _ => rfl
  | p :: ps, t :: ts, h => by
    have := zip_pres m ps ts (by simpa using h)
    simp only [zipE, pres, List.map_cons] at this ⊢
    rw [this]
    rfl
theorem zip_snoc (m : Int) (p : Pre) (t : Int) : ∀ (ps : List Pre) (ts : List Int), ps.length = ts.length → zipE m (ps ++ [p]) (ts ++ [t]) = zipE m ps ts ++ [enR m p t]
  | [], [], _ => rfl
  | q :: ps, u :: ts, h => by simp [zipE, zip_snoc m p t ps ts (by simpa using h)]
theorem zip_at (m : Int) : ∀ (ps : List Pre) (ts : List Int) (i : Nat) (p : Pre) (t : Int), ps[i]? = some p → ts[i]? = some t → (zipE m ps ts)[i]? = some (enR m p t)
  | q :: ps, u :: ts, 0, p, t, hp, ht => by simp at hp ht; subst hp ht; rfl
  | q :: ps, u :: ts, i + 1, p, t, hp, ht => by simpa [zipE] using zip_at m ps ts i p t (by simpa using hp) (by simpa using ht)
theorem zip_set (m : Int) : ∀ (ps : List Pre) (ts : List Int) (i : Nat) (p : Pre) (t : Int), ps[i]? = some p → i < ts.length → zipE m ps (ts.set i t) = (zipE m ps ts).set i (enR m p t)
  | q :: ps, u :: ts, 0, p, t, hp, _ => by simp at hp; subst hp; rfl
  | q :: ps, u :: ts, i + 1, p, t, hp, h => by simpa [zipE] using zip_set m ps ts i p t (by simpa using hp) (by simpa using h)
theorem perm_set {α : Type} {L : List α} {k : Nat} {a b : α} (h : L[k]? = some a) : ∃ R, L.Perm (a :: R) ∧ (L.set k b).Perm (b :: R) := by
  have hk := (List.getElem?_eq_some_iff.1 h).1
  refine ⟨L.take k ++ L.drop (k + 1), ?_, ?_⟩
  · have e : L = L.take k ++ (a :: L.drop (k + 1)) := by
      rw [← (List.getElem?_eq_some_iff.1 h).2, ← List.drop_eq_getElem_cons, List.take_append_drop]
    conv => lhs; rw [e]
    exact List.perm_middle
  · rw [List.set_eq_take_append_cons_drop, if_pos hk]
    exact List.perm_middle
theorem nodup_inj {α : Type} {R : List α} {k i : Nat} {p : α} (h : R.Nodup) (hk : R[k]? = some p) (hi : R[i]? = some p) : k = i := by
  obtain ⟨k1, k2⟩ := List.getElem?_eq_some_iff.1 hk
  obtain ⟨i1, i2⟩ := List.getElem?_eq_some_iff.1 hi
  have hp := List.pairwise_iff_getElem.1 h
  rcases Nat.lt_trichotomy k i with e | e | e
  · exact absurd (k2.trans i2.symm) (hp k i k1 i1 e)
  · exact e
  · exact absurd (i2.trans k2.symm) (hp i k i1 k1 e)
/-- Who is in: R, each having taken its of S. -/
structure Rm (n m : Int) (L : List Ent) (R : List Pre) (S : List Int) : Prop where
  len : R.length = S.length
  nd : R.Nodup
  ok : ∀ p ∈ R, p.Ok
  bd : ∀ t ∈ S, 0 ≤ t ∧ t ≤ m
  fit : (R.length : Int) ≤ n
  perm : L.Perm (zipE m R S)
section
variable {n m : Int} {L : List Ent} {R : List Pre} {S : List Int} {p : Pre} {t : Int} {i : Nat}
theorem Rm.none_ (hn : 1 ≤ n) : Rm n m [] [] [] := ⟨rfl, List.nodup_nil, fun _ h => (by cases h), fun _ h => (by cases h), (by show (0 : Int) ≤ n; omega), List.Perm.refl _⟩
theorem Rm.length (h : Rm n m L R S) : L.length = R.length := by rw [h.perm.length_eq, zip_len m R S h.len]
theorem Rm.pres (h : Rm n m L R S) : (pres L).Perm R := by
  have := h.perm.map Ent.p
  have e : (zipE m R S).map Ent.p = R := zip_pres m R S h.len
  rwa [e] at this
theorem Rm.mem (h : Rm n m L R S) {e : Ent} (he : e ∈ L) : ∃ p t, p ∈ R ∧ t ∈ S ∧ e = enR m p t := by
  obtain ⟨i, hi⟩ := List.mem_iff_getElem?.1 (h.perm.mem_iff.1 he)
  have hl := (List.getElem?_eq_some_iff.1 hi).1
  rw [zip_len m R S h.len] at hl
  have h1 : R[i]? = some R[i] := by simp [hl]
  have hs : i < S.length := by rw [← h.len]; exact hl
  have h2 : S[i]? = some S[i] := by simp [hs]
  have := zip_at m R S i _ _ h1 h2
  rw [hi] at this
  exact ⟨_, _, List.getElem_mem _, List.getElem_mem _, by injection this⟩
theorem Rm.swp (h : Rm n m L R S) : swp L 5 = L := by
  unfold Ytpjeeccgpnpokaa.swp
  rw [List.filter_eq_self]
  intro e he
  obtain ⟨p, t, _, _, rfl⟩ := h.mem he
  rfl
theorem Rm.oks (h : Rm n m L R S) (hm : 1 ≤ m ∧ m ≤ 1073741824) : Oks (cfR n m) L := fun e he => by
  obtain ⟨p, t, hp, ht, rfl⟩ := h.mem he
  have := h.bd t ht
  refine ⟨h.ok p hp, ⟨by show (-9223372036854775808 : Int) ≤ 1099511627781; omega, by show (1099511627781 : Int) ≤ _; omega⟩, ?_⟩
  show Ok 0 (m * 1048576) ((m - t) * 1048576) 5
  constructor <;> omega
theorem Rm.has_ (h : Rm n m L R S) : has L p = true ↔ p ∈ R := by
  rw [has_mem, ← h.pres.mem_iff]
  simp [Ytpjeeccgpnpokaa.pres]
theorem Rm.not_ (h : Rm n m L R S) (hp : p ∉ R) : has L p = false := by
  rw [← Bool.not_eq_true, h.has_]
  exact hp
/-- Put of one who is in. -/
theorem Rm.twice (h : Rm n m L R S) (hp : p ∈ R) : putE (cfR n m) L p = 7 ∧ putS (cfR n m) L p 5 = L := by
  unfold putE putS
  rw [h.has_.2 hp, if_pos rfl, if_pos rfl]
  exact ⟨rfl, rfl⟩
theorem Rm.full (h : Rm n m L R S) (hp : p ∉ R) (hf : n ≤ R.length) : putE (cfR n m) L p = 6 ∧ putS (cfR n m) L p 5 = L := by
  have hr : (cfR n m).room ≤ (L.length : Int) := by rw [h.length]; exact hf
  unfold putE putS
  rw [h.not_ hp, if_neg (by simp), if_pos hr, if_neg (by simp), if_pos hr]
  exact ⟨rfl, rfl⟩
theorem Rm.more (h : Rm n m L R S) (hp : p ∉ R) (hok : p.Ok) (hf : ¬ n ≤ R.length) (hm : 1 ≤ m) : putE (cfR n m) L p = 0 ∧ Rm n m (putS (cfR n m) L p 5) (R ++ [p]) (S ++ [0]) := by
  have hr : ¬ (cfR n m).room ≤ (L.length : Int) := by rw [h.length]; exact hf
  have hne : newE (cfR n m) p 5 = enR m p 0 := by
    have h1 : clm 5 = 5 := rfl
    have h2 : addC (cnt 5) (cnt 1099511627776) = 1099511627781 := rfl
    unfold newE enR cfR
    rw [h1]
    show Ent.mk p (addC (cnt 5) (cnt 1099511627776)) (m * 1048576) 5 = _
    rw [h2]
    congr 1
    omega
  unfold putE putS
  rw [h.not_ hp, if_neg (by simp), if_neg hr, if_neg (by simp), if_neg hr, hne]
  refine ⟨rfl, by simp [h.len], ?_, ?_, ?_, by simp; omega, ?_⟩
  · rw [List.nodup_append]
    refine ⟨h.nd, by simp, fun a ha b hb => ?_⟩
    simp at hb
    subst hb
    rintro rfl
    exact hp ha
  · intro q hq
    rcases List.mem_append.1 hq with hq | hq
    · exact h.ok q hq
    · simp at hq; subst hq; exact hok
  · intro t ht
    rcases List.mem_append.1 ht with ht | ht
    · exact h.bd t ht
    · simp at ht; subst ht; omega
  · rw [zip_snoc m p 0 R S h.len]
    have h1 : (ins L (plc L p) (enR m p 0)).Perm (enR m p 0 :: L) := by
      unfold ins
      rw [List.append_assoc]
      show (L.take _ ++ (enR m p 0 :: L.drop _)).Perm (enR m p 0 :: L)
      exact List.perm_middle.trans (by rw [List.take_append_drop])
    exact h1.trans ((h.perm.cons _).trans (List.perm_append_singleton _ _).symm)
/-- Take of one who isn't in. -/
theorem Rm.none_take (h : Rm n m L R S) (hp : p ∉ R) (y : Int) : takeK (cfR n m) L p 5 y = false ∧ takeS (cfR n m) L p 5 y = L := by
  unfold takeK takeS
  rw [h.not_ hp, if_neg (by simp), if_neg (by simp)]
  exact ⟨rfl, rfl⟩
theorem lev_same (r B L m : Int) : lev r B L m m = L := lev_old (Int.le_refl _)
/-- Take of one who is. -/
theorem Rm.some_take (h : Rm n m L R S) (hm : 1 ≤ m ∧ m ≤ 1073741824) (hi : R[i]? = some p) (ht : S[i]? = some t) (y : Int) :
    takeK (cfR n m) L p 5 y = decide (0 ≤ y ∧ y ≤ m - t) ∧ Rm n m (takeS (cfR n m) L p 5 y) R (if 0 ≤ y ∧ y ≤ m - t then S.set i (t + y) else S) := by
  have hp : p ∈ R := List.mem_of_getElem? hi
  have hh := h.has_.2 hp
  have hj := has_iff.1 hh
  have hjp := idx_at hj
  have hil := (List.getElem?_eq_some_iff.1 ht).1
  -- the entry that stands there
  have hat : at_ L (idx L p) = enR m p t := by
    obtain ⟨q, u, hq, hu, e⟩ := h.mem (at_mem hj)
    obtain ⟨k, hk⟩ := List.mem_iff_getElem?.1 (h.perm.mem_iff.1 (at_mem hj))
    have hkl := (List.getElem?_eq_some_iff.1 hk).1
    rw [zip_len m R S h.len] at hkl
    have h1 : R[k]? = some R[k] := by simp [hkl]
    have hs : k < S.length := by rw [← h.len]; exact hkl
    have h2 : S[k]? = some S[k] := by simp [hs]
    have h3 := zip_at m R S k _ _ h1 h2
    rw [hk] at h3
    injection h3 with h3
    rw [h3] at hjp ⊢
    have e1 : R[k] = p := hjp
    have e2 : k = i := by
      exact nodup_inj h.nd (by rw [h1, e1]) hi
    subst e2
    rw [ht] at h2
    injection h2 with h2
    rw [e1, ← h2]
  have hbd := h.bd t (List.mem_of_getElem? ht)
  have hc : clm 5 = 5 := rfl
  have hok : okT 0 (m * 1048576) ((m - t) * 1048576) 5 5 y = decide (0 ≤ y ∧ y ≤ m - t) := by
    unfold okT
    rw [lev_same, Bool.eq_iff_iff]
    simp only [Bool.and_eq_true, decide_eq_true_eq]
    omega
  have hK : takeK (cfR n m) L p 5 y = decide (0 ≤ y ∧ y ≤ m - t) := by
    unfold takeK
    rw [hh, if_pos rfl, hat]
    exact hok
  refine ⟨hK, ?_⟩
  have hS : takeS (cfR n m) L p 5 y = L.set (idx L p) (enR m p (if 0 ≤ y ∧ y ≤ m - t then t + y else t)) := by
    unfold takeS
    rw [hh, if_pos rfl, hat]
    congr 1
    unfold tk enR
    show Ent.mk p 1099511627781 (lef 0 (m * 1048576) ((m - t) * 1048576) 5 5 y) (max 5 5) = _
    unfold lef
    rw [hok, lev_same]
    by_cases hy : 0 ≤ y ∧ y ≤ m - t
    · rw [if_pos hy, if_pos (by simp [hy])]
      congr 1
      omega
    · rw [if_neg hy, if_neg (by simp [hy])]
      rfl
  rw [hS]
  by_cases hy : 0 ≤ y ∧ y ≤ m - t
  · rw [if_pos hy, if_pos hy]
    refine ⟨by simp [h.len], h.nd, h.ok, fun u hu => ?_, h.fit, ?_⟩
    · rcases List.mem_or_eq_of_mem_set hu with hu | rfl
      · exact h.bd u hu
      · omega
    · rw [zip_set m R S i p (t + y) hi hil]
      obtain ⟨Q1, a1, a2⟩ := perm_set (b := enR m p (t + y)) ((at_some hj).trans (by rw [hat]))
      obtain ⟨Q2, c1, c2⟩ := perm_set (b := enR m p (t + y)) (zip_at m R S i p t hi ht)
      have : Q1.Perm Q2 := (List.perm_cons _).1 (a1.symm.trans (h.perm.trans c1))
      exact a2.trans ((this.cons _).trans c2.symm)
  · rw [if_neg hy, if_neg hy]
    have e : L.set (idx L p) (enR m p t) = L := by
      rw [← hat]
      apply List.ext_getElem?
      intro k
      rw [List.getElem?_set]
      split
      · rename_i e; subst e; exact (at_some hj).symm
      · rfl
    rw [e]
    exact h
end
end Go.Proofs.Ytpjeeccgpnpokaa
