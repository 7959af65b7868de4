/- The document's list of things as a finite map: what is there behind putting and taking away. Conditions: no prefix stands twice. -/
import Derived.Test.YteddnbabgahhfaaAwake
namespace Go.Proofs.Yteddnbabgahhfaa
open Go.RowKit

/-- No prefix stands twice. -/
def Uni (L : List Ent) : Prop := (pres L).Nodup
theorem Uni.nil : Uni [] := List.nodup_nil
section
variable {L : List Ent} {p q : Pre} {u v r : Int} {k : Nat} {s : Ent}
theorem ins_perm (k : Nat) (s : Ent) : (ins L k s).Perm (s :: L) := by
  unfold ins
  rw [List.append_assoc]
  show (L.take k ++ (s :: L.drop k)).Perm (s :: L)
  exact List.perm_middle.trans (by rw [List.take_append_drop])
theorem del_perm (h : has L p = true) : L.Perm (at_ L (idx L p) :: del L p) := by
  have hk := has_iff.1 h
  have e : L = L.take (idx L p) ++ (at_ L (idx L p) :: L.drop (idx L p + 1)) := by
    conv => lhs; rw [← List.take_append_drop (idx L p) L]
    rw [List.drop_eq_getElem_cons hk, at_of (s := L[idx L p]) (by simp [hk])]
  have e2 : del L p = L.take (idx L p) ++ L.drop (idx L p + 1) := by simp [del, h]
  rw [e2]
  conv => lhs; rw [e]
  exact List.perm_middle
theorem pres_put_has (h : has L p = true) : pres (put L r p v) = pres L := by
  rw [put_has h]
  unfold pres
  rw [List.map_set]
  apply List.ext_getElem?
  intro i
  rw [List.getElem?_set]
  split
  · rename_i e
    subst e
    split
    · rename_i hl
      rw [List.getElem?_map, at_some (by simpa using hl)]
      rfl
    · rename_i hl
      rw [List.getElem?_eq_none (by omega)]
  · rfl
theorem Uni.put_ (h : Uni L) : Uni (put L r p v) := by
  rcases hh : has L p with _ | _
  · by_cases hr : r ≤ L.length
    · rw [put_full hh hr]; exact h
    · rw [put_room hh hr]
      unfold Uni
      have hp : (pres (ins L (plc L p) ⟨p, v⟩)).Perm (p :: pres L) := (ins_perm _ _).map Ent.p
      rw [hp.nodup_iff, List.nodup_cons]
      refine ⟨fun hm => ?_, h⟩
      obtain ⟨s, hs, e⟩ := List.mem_map.1 hm
      exact has_no.1 hh s hs e
  · unfold Uni
    rw [pres_put_has hh]
    exact h
theorem Uni.del_ (h : Uni L) : Uni (del L p) := by
  rcases hh : has L p with _ | _
  · have e : del L p = L := by simp [del, hh]
    rw [e]; exact h
  · have hp : (pres L).Perm ((at_ L (idx L p)).p :: pres (del L p)) := (del_perm hh).map Ent.p
    exact (List.nodup_cons.1 (hp.nodup_iff.1 h)).2
theorem Uni.idx_ (h : Uni L) (hk : k < L.length) : idx L (at_ L k).p = k := by
  refine idx_first (by omega) (fun j hj e => ?_) (fun _ => rfl)
  have hj' : j < L.length := by omega
  have := (List.pairwise_iff_getElem.1 h) j k (by simpa [pres] using hj') (by simpa [pres] using hk) hj
  exact this (by rw [(List.getElem?_eq_some_iff.1 (pres_at hj')).2, (List.getElem?_eq_some_iff.1 (pres_at hk)).2, e])
theorem Uni.val_ (h : Uni L) (hk : k < L.length) : has L (at_ L k).p = true ∧ val L (at_ L k).p = (at_ L k).v := by
  have hi := h.idx_ hk
  have hh : has L (at_ L k).p = true := has_iff.2 (by rw [hi]; exact hk)
  exact ⟨hh, by unfold val; rw [if_pos hh, hi]⟩
theorem Uni.val_mem (h : Uni L) (hm : (⟨q, u⟩ : Ent) ∈ L) : has L q = true ∧ val L q = u := by
  obtain ⟨k, hk, e⟩ := List.getElem_of_mem hm
  have e2 : at_ L k = ⟨q, u⟩ := at_of (by simp [hk, e])
  have := h.val_ hk
  rw [e2] at this
  exact this
theorem mem_val (h : has L q = true) : (⟨q, val L q⟩ : Ent) ∈ L := by
  have hk := has_iff.1 h
  have h1 := idx_at hk
  have h2 : at_ L (idx L q) = ⟨q, val L q⟩ := by
    unfold val
    rw [if_pos h]
    generalize at_ L (idx L q) = s at *
    obtain ⟨_, _⟩ := s
    simp at h1
    simp [h1]
  rw [← h2]
  exact at_mem hk
theorem val_not (h : has L q = false) : val L q = 0 := by simp [val, h]
/-- Who is there behind a putting that there was room for. -/
theorem mem_put (hU : Uni L) (hm : may L r p = true) : (⟨q, u⟩ : Ent) ∈ put L r p v ↔ (q = p ∧ u = v) ∨ (q ≠ p ∧ (⟨q, u⟩ : Ent) ∈ L) := by
  rcases hh : has L p with _ | _
  · have hr : ¬ r ≤ L.length := by simp [may, hh] at hm; omega
    rw [put_room hh hr, (ins_perm _ _).mem_iff, List.mem_cons]
    constructor
    · rintro (e | h)
      · injection e with e1 e2
        exact .inl ⟨e1, e2⟩
      · exact .inr ⟨fun e => has_no.1 hh _ h e, h⟩
    · rintro (⟨rfl, rfl⟩ | ⟨_, h⟩)
      · exact .inl rfl
      · exact .inr h
  · have hk := has_iff.1 hh
    have hp := idx_at hk
    rw [put_has hh, List.mem_iff_getElem?]
    constructor
    · rintro ⟨j, hj⟩
      rw [List.getElem?_set] at hj
      split at hj
      · injection hj with hj
        injection hj with e1 e2
        exact .inl ⟨by rw [← e1, hp], e2.symm⟩
      · rename_i hne
        have hjl := (List.getElem?_eq_some_iff.1 hj).1
        refine .inr ⟨fun e => hne ?_, List.mem_of_getElem? hj⟩
        have := hU.idx_ hjl
        rw [at_of hj] at this
        rw [← e]
        exact this
    · rintro (⟨rfl, rfl⟩ | ⟨hne, h⟩)
      · exact ⟨idx L q, by rw [List.getElem?_set, if_pos rfl, if_pos hk, hp]⟩
      · obtain ⟨j, hj⟩ := List.mem_iff_getElem?.1 h
        refine ⟨j, ?_⟩
        rw [List.getElem?_set, if_neg, hj]
        rintro rfl
        rw [at_of hj] at hp
        exact hne hp
/-- Who is there behind a taking away. -/
theorem mem_del (hU : Uni L) : (⟨q, u⟩ : Ent) ∈ del L p ↔ q ≠ p ∧ (⟨q, u⟩ : Ent) ∈ L := by
  rcases hh : has L p with _ | _
  · have e : del L p = L := by simp [del, hh]
    rw [e]
    exact ⟨fun h => ⟨fun e => has_no.1 hh _ h e, h⟩, fun h => h.2⟩
  · have hp := del_perm hh
    have h1 := idx_at (has_iff.1 hh)
    have hn : (p :: pres (del L p)).Nodup := by
      have h2 : (pres L).Perm ((at_ L (idx L p)).p :: pres (del L p)) := hp.map Ent.p
      rw [h1] at h2
      exact h2.nodup_iff.1 hU
    rw [hp.mem_iff, List.mem_cons]
    constructor
    · intro h
      refine ⟨?_, .inr h⟩
      rintro rfl
      exact (List.nodup_cons.1 hn).1 (List.mem_map.2 ⟨_, h, rfl⟩)
    · rintro ⟨hne, e | h⟩
      · rw [← e] at h1
        exact absurd h1 hne
      · exact h
theorem has_put (hU : Uni L) (hm : may L r p = true) : has (put L r p v) q = (decide (q = p) || has L q) := by
  rw [Bool.eq_iff_iff, Bool.or_eq_true, decide_eq_true_eq]
  constructor
  · intro h
    rcases (mem_put hU hm).1 (mem_val h) with h | h
    · exact .inl h.1
    · exact .inr (has_mem.2 ⟨_, h.2, rfl⟩)
  · rintro (rfl | h)
    · exact has_mem.2 ⟨⟨q, v⟩, (mem_put hU hm).2 (.inl ⟨rfl, rfl⟩), rfl⟩
    · by_cases e : q = p
      · subst e
        exact has_mem.2 ⟨⟨q, v⟩, (mem_put hU hm).2 (.inl ⟨rfl, rfl⟩), rfl⟩
      · exact has_mem.2 ⟨⟨q, _⟩, (mem_put hU hm).2 (.inr ⟨e, mem_val h⟩), rfl⟩
theorem has_del (hU : Uni L) : has (del L p) q = (!decide (q = p) && has L q) := by
  rw [Bool.eq_iff_iff, Bool.and_eq_true, Bool.not_eq_true', decide_eq_false_iff_not]
  constructor
  · intro h
    have := (mem_del hU).1 (mem_val h)
    exact ⟨this.1, has_mem.2 ⟨_, this.2, rfl⟩⟩
  · rintro ⟨hne, h⟩
    exact has_mem.2 ⟨⟨q, _⟩, (mem_del hU).2 ⟨hne, mem_val h⟩, rfl⟩
theorem del_len (h : has L p = true) : (del L p).length + 1 = L.length := by
  have := (del_perm h).length_eq
  simpa using this.symm
theorem put_len_has (h : has L p = true) : (put L r p v).length = L.length := by rw [put_has h, List.length_set]
theorem put_len_new (h : has L p = false) (hr : ¬ r ≤ L.length) : (put L r p v).length = L.length + 1 := by rw [put_room h hr, ins_length plc_le]
end
end Go.Proofs.Yteddnbabgahhfaa
