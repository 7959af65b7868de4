/- Rows of entries in a block of their own: what copying, appending and clearing leave; a table as the program lays it. Conditions: those of each theorem. -/
import Derived.Test.YtpjeeccgpnpokaaProgs
import Derived.Laws.MakeOwn
import Derived.Lib.Overlaps
import Derived.Lib.SliceRun
namespace Go.Proofs.Ytpjeeccgpnpokaa
open Go.RowKit

/-! Plain lists. -/
def zs (n : Nat) : List Ent := List.replicate n ent0
theorem zs_len (n : Nat) : (zs n).length = n := by simp [zs]
theorem zs_succ (n : Nat) : zs (n + 1) = ent0 :: zs n := rfl
theorem cut3 {α : Type} {P Q R : List α} {k m : Nat} (hk : P.length = k) (hm : P.length + Q.length = m) : (P ++ (Q ++ R)).take k = P ∧ (P ++ (Q ++ R)).drop k = Q ++ R ∧ (P ++ (Q ++ R)).drop m = R := by
  subst hk hm
  refine ⟨List.take_left, List.drop_left, ?_⟩
  rw [← List.append_assoc, ← List.length_append, List.drop_left]
section
variable {L : List Ent} {s : Ent} {k n c : Nat}
theorem two_of (hk : k ≤ L.length) : ∃ P S, L = P ++ S ∧ P.length = k ∧ L.take k = P ∧ L.drop k = S :=
  ⟨L.take k, L.drop k, (List.take_append_drop k L).symm, by simp [hk], rfl, rfl⟩
/-- One more at the end. -/
theorem row_end (h : L.length < c) : ((L ++ zs (c - L.length)).take L.length ++ [s]) ++ (L ++ zs (c - L.length)).drop (L.length + 1) = ins L L.length s ++ zs (c - (L.length + 1)) := by
  obtain ⟨m, hm⟩ : ∃ m, c - L.length = m + 1 := ⟨c - L.length - 1, by omega⟩
  have e1 : (L ++ zs (c - L.length)).drop (L.length + 1) = zs (c - (L.length + 1)) := by
    rw [show c - (L.length + 1) = m by omega, hm, zs_succ]
    exact (cut3 (P := L) (Q := [ent0]) (R := zs m) rfl rfl).2.2
  rw [e1, List.take_left]
  simp [ins]
/-- Room in the middle. -/
theorem row_shift (hk : k ≤ L.length) (h : L.length < c) :
    ((L ++ zs (c - L.length)).take (k + 1) ++ L.drop k) ++ (L ++ zs (c - L.length)).drop (k + 1 + (L.length - k)) = ((L ++ zs (c - L.length)).take (k + 1) ++ L.drop k) ++ zs (c - (L.length + 1)) := by
  congr 1
  obtain ⟨m, hm⟩ : ∃ m, c - L.length = m + 1 := ⟨c - L.length - 1, by omega⟩
  rw [show k + 1 + (L.length - k) = L.length + 1 by omega, show c - (L.length + 1) = m by omega, hm, zs_succ]
  exact (cut3 (P := L) (Q := [ent0]) (R := zs m) rfl rfl).2.2
/-- .. and one laid there. -/
theorem row_lay (hk : k < L.length) :
    ((((L ++ zs (c - L.length)).take (k + 1) ++ L.drop k) ++ zs (c - (L.length + 1))).take k ++ [s]) ++ (((L ++ zs (c - L.length)).take (k + 1) ++ L.drop k) ++ zs (c - (L.length + 1))).drop (k + 1) = ins L k s ++ zs (c - (L.length + 1)) := by
  have e1 : (L ++ zs (c - L.length)).take (k + 1) = L.take k ++ [at_ L k] := by
    rw [List.take_append_of_le_length (by omega), List.take_add_one, at_some hk]
    rfl
  have hl : (L.take k).length = k := by simp; omega
  have := cut3 (P := L.take k) (Q := [at_ L k]) (R := L.drop k ++ zs (c - (L.length + 1))) (k := k) (m := k + 1) hl (by simp; omega)
  rw [e1, show ((L.take k ++ [at_ L k]) ++ L.drop k) ++ zs (c - (L.length + 1)) = L.take k ++ ([at_ L k] ++ (L.drop k ++ zs (c - (L.length + 1)))) by simp, this.1, this.2.2]
  simp [ins]
/-- One changed. -/
theorem row_set (hk : k < L.length) : (L ++ zs (c - L.length)).set k s = L.set k s ++ zs (c - (L.set k s).length) := by
  rw [List.set_append_left _ _ hk, List.length_set]
/-- One taken away, by what stands behind it. -/
theorem row_close (hk : k < L.length) : ((L ++ zs (c - L.length)).take k ++ L.drop (k + 1)) ++ (L ++ zs (c - L.length)).drop (k + (L.length - (k + 1))) = (L.take k ++ L.drop (k + 1)) ++ ([at_ L (L.length - 1)] ++ zs (c - L.length)) := by
  have e1 : (L ++ zs (c - L.length)).take k = L.take k := List.take_append_of_le_length (by omega)
  have e2 : L.drop (L.length - 1) = [at_ L (L.length - 1)] := by
    rw [List.drop_eq_getElem_cons (by omega), List.drop_of_length_le (by omega)]
    rw [at_of (s := L[L.length - 1]) (by simp)]
  rw [e1, show k + (L.length - (k + 1)) = L.length - 1 by omega, List.drop_append_of_le_length (by omega), e2]
theorem row_clear (hk : k < L.length) (hc : L.length ≤ c) : ((L.take k ++ L.drop (k + 1)) ++ ([at_ L (L.length - 1)] ++ zs (c - L.length))).take (L.length - 1) ++ zs 1 ++ ((L.take k ++ L.drop (k + 1)) ++ ([at_ L (L.length - 1)] ++ zs (c - L.length))).drop (L.length - 1 + 1) =
    (L.take k ++ L.drop (k + 1)) ++ zs (c - (L.length - 1)) := by
  have hl : (L.take k ++ L.drop (k + 1)).length = L.length - 1 := by simp; omega
  have := cut3 (P := L.take k ++ L.drop (k + 1)) (Q := [at_ L (L.length - 1)]) (R := zs (c - L.length)) (m := L.length - 1 + 1) hl (by rw [hl]; rfl)
  rw [this.1, this.2.2, show c - (L.length - 1) = (c - L.length) + 1 by omega, zs_succ, List.append_assoc]
  rfl
end

/-- Right prefixes. -/
def POks (L : List Ent) : Prop := ∀ e ∈ L, e.p.Ok
theorem POks.at_ {L : List Ent} (h : POks L) {k : Nat} (hk : k < L.length) : (at_ L k).p.Ok := h _ (at_mem hk)
theorem Oks.pre {C : Cfg} {L : List Ent} (h : Oks C L) : POks L := fun e he => (h e he).p
/-! The order. -/
def Srt (L : List Ent) : Prop := ∀ i j, i < j → j < L.length → ltP (at_ L i).p (at_ L j).p = true
theorem Srt.nil : Srt [] := fun i j _ h => by simp at h
theorem ltP_asym {p q : Pre} (h : ltP p q = true) : ltP q p = false := by
  rcases hh : ltP q p with _ | _
  · rfl
  · have := ltP_trans h hh
    rw [ltP_no] at this
    cases this
section
variable {L : List Ent} {p : Pre} {k : Nat} {s : Ent} {r : Int}
theorem at_take (h : k < L.length) (m : Nat) (hm : k < m) : at_ (L.take m) k = at_ L k := at_of (by rw [List.getElem?_take, if_pos hm]; exact at_some h)
theorem at_set (h : k < L.length) (j : Nat) : at_ (L.set j s) k = if j = k then s else at_ L k := by
  apply at_of
  rw [List.getElem?_set]
  by_cases e : j = k
  · subst e; simp [h]
  · rw [if_neg e, if_neg e]; exact at_some h
theorem at_ins (hk : k ≤ L.length) {i : Nat} (hi : i < L.length + 1) : at_ (ins L k s) i = if i < k then at_ L i else if i = k then s else at_ L (i - 1) := by
  apply at_of
  have hl : (L.take k).length = k := by simp; omega
  rw [ins, List.append_assoc]
  by_cases h1 : i < k
  · rw [if_pos h1, List.getElem?_append_left (by omega), List.getElem?_take, if_pos h1]
    exact at_some (by omega)
  · rw [if_neg h1, List.getElem?_append_right (by omega), hl]
    by_cases h2 : i = k
    · subst h2; simp
    · rw [if_neg h2, List.getElem?_append_right (by simp; omega)]
      simp only [List.length_singleton, List.getElem?_drop]
      rw [show k + (i - k - 1) = i - 1 by omega]
      exact at_some (by omega)
theorem at_del (hk : k < L.length) {i : Nat} (hi : i < L.length - 1) : at_ (L.take k ++ L.drop (k + 1)) i = if i < k then at_ L i else at_ L (i + 1) := by
  apply at_of
  have hl : (L.take k).length = k := by simp; omega
  by_cases h1 : i < k
  · rw [if_pos h1, List.getElem?_append_left (by omega), List.getElem?_take, if_pos h1]
    exact at_some (by omega)
  · rw [if_neg h1, List.getElem?_append_right (by omega), hl, List.getElem?_drop, show k + 1 + (i - k) = i + 1 by omega]
    exact at_some (by omega)
/-- From where it would stand on nobody stands ahead of p. -/
theorem Srt.behind (h : Srt L) (hk : plc L p ≤ k) (hl : k < L.length) : ltP (at_ L k).p p = false := by
  have h0 := plc_at (L := L) (p := p) (by omega)
  by_cases e : plc L p = k
  · rw [← e]; exact h0
  · have h1 := h (plc L p) k (by omega) hl
    rcases hh : ltP (at_ L k).p p with _ | _
    · rfl
    · rw [ltP_trans h1 hh] at h0
      cases h0
theorem Srt.plc_idx (h : Srt L) (hh : has L p = true) : plc L p = idx L p := by
  have hi := has_iff.1 hh
  have ha := idx_at hi
  rcases Nat.lt_trichotomy (plc L p) (idx L p) with h1 | h1 | h1
  · have h0 := plc_at (L := L) (p := p) (by omega)
    have h2 := h _ _ h1 hi
    rw [ha, h0] at h2
    cases h2
  · exact h1
  · have h0 := plc_not h1
    rw [ha, ltP_no] at h0
    cases h0
theorem has_at (hl : plc L p < L.length) (he : (at_ L (plc L p)).p = p) : has L p = true := has_mem.2 ⟨_, at_mem hl, he⟩
theorem Srt.has_eq (h : Srt L) (hl : plc L p < L.length) : decide ((at_ L (plc L p)).p = p) = has L p := by
  rcases hh : has L p with _ | _
  · rw [decide_eq_false_iff_not]
    intro e
    rw [has_at hl e] at hh
    cases hh
  · rw [decide_eq_true_eq, h.plc_idx hh]
    exact idx_at (has_iff.1 hh)
theorem Srt.has_end (h : Srt L) (hl : ¬ plc L p < L.length) : has L p = false := by
  rcases hh : has L p with _ | _
  · rfl
  · have := has_iff.1 hh
    rw [← h.plc_idx hh] at this
    exact absurd this hl
theorem Srt.set_ (h : Srt L) (hs : s.p = (at_ L k).p) : Srt (L.set k s) := by
  intro i j hij hj
  rw [List.length_set] at hj
  have key : ∀ i, i < L.length → (at_ (L.set k s) i).p = (at_ L i).p := fun i hi => by
    rw [at_set hi]
    split
    · rename_i e; rw [hs, e]
    · rfl
  rw [key i (by omega), key j hj]
  exact h i j hij hj
theorem Srt.ins_ (h : Srt L) (hp0 : s.p = p) (hh : has L p = false) : Srt (ins L (plc L p) s) := by
  subst hp0
  have hp := plc_le (L := L) (p := s.p)
  have lo : ∀ i, i < plc L s.p → ltP (at_ L i).p s.p = true := fun i hi => plc_not hi
  have hi' : ∀ i, plc L s.p ≤ i → i < L.length → ltP s.p (at_ L i).p = true := fun i h1 h2 => by
    have e : (at_ L i).p ≠ s.p := (has_no.1 hh) _ (at_mem h2)
    have := ltP_tri e
    rw [h.behind h1 h2] at this
    simpa using this.symm
  intro i j hij hj
  rw [ins_length hp] at hj
  rw [at_ins hp (by omega), at_ins hp hj]
  by_cases h1 : i < plc L s.p
  · rw [if_pos h1]
    by_cases h2 : j < plc L s.p
    · rw [if_pos h2]; exact h i j hij (by omega)
    · rw [if_neg h2]
      by_cases h3 : j = plc L s.p
      · rw [if_pos h3]; exact lo i h1
      · rw [if_neg h3]; exact h i (j - 1) (by omega) (by omega)
  · rw [if_neg h1, if_neg (show ¬ j < plc L s.p by omega), if_neg (show ¬ j = plc L s.p by omega)]
    by_cases h3 : i = plc L s.p
    · rw [if_pos h3]; exact hi' (j - 1) (by omega) (by omega)
    · rw [if_neg h3]; exact h (i - 1) (j - 1) (by omega) (by omega)
theorem Srt.out_ (h : Srt L) (hk : k < L.length) : Srt (L.take k ++ L.drop (k + 1)) := by
  intro i j hij hj
  have hl : (L.take k ++ L.drop (k + 1)).length = L.length - 1 := by simp; omega
  rw [hl] at hj
  rw [at_del hk (by omega), at_del hk hj]
  by_cases h1 : i < k
  · rw [if_pos h1]
    split
    · exact h i j hij (by omega)
    · exact h i (j + 1) (by omega) (by omega)
  · rw [if_neg h1, if_neg (by omega)]
    exact h (i + 1) (j + 1) (by omega) (by omega)
theorem Srt.del_ (h : Srt L) : Srt (del L p) := by
  unfold del
  split
  · rename_i hh; exact h.out_ (has_iff.1 hh)
  · exact h
end

/-! Rows in memory. -/
section
variable {K : Kin Ent} {w w' : World} {q : Nat} {t : TypeId} {X Y : List Ent}
theorem flat_splice (X Y : List Ent) (k : Nat) (hk : k + Y.length ≤ X.length) : (K.flat X).take (k * K.n) ++ K.flat Y ++ (K.flat X).drop (k * K.n + (K.flat Y).length) = K.flat ((X.take k ++ Y) ++ X.drop (k + Y.length)) := by
  have e : X = X.take k ++ ((X.drop k).take Y.length ++ X.drop (k + Y.length)) := by
    rw [← List.drop_drop, List.take_append_drop, List.take_append_drop]
  have h1 : (K.flat (X.take k)).length = k * K.n := Kin.take_len (by omega)
  have h2 : (K.flat ((X.drop k).take Y.length)).length = (K.flat Y).length := by
    rw [K.flat_length, K.flat_length]
    congr 1
    simp; omega
  have c := cut3 (P := K.flat (X.take k)) (Q := K.flat ((X.drop k).take Y.length)) (R := K.flat (X.drop (k + Y.length))) h1 (m := k * K.n + (K.flat Y).length) (by omega)
  rw [K.flat_app, K.flat_app]
  have ef : K.flat X = K.flat (X.take k) ++ (K.flat ((X.drop k).take Y.length) ++ K.flat (X.drop (k + Y.length))) := by
    conv => lhs; rw [e]
    rw [K.flat_app, K.flat_app]
  rw [ef, c.1, c.2.2]
theorem flat_oneA (L : List Ent) : ∀ u ∈ K.flat L, u.oneCell' = true := K.flat_each L
/-- append where there is room. -/
theorem run_appE {e tt ty : TypeId} {z : Value} {by_ : Nat} (hu : Try.prog.underlying tt = some (.slice e)) (hi : (Try.prog.info? e).map (fun i => (i.zero, i.size, i.bytes)) = some (some z, K.n, by_))
    (hg : Blk w q e (K.flat X)) (k c : Nat) (A : Addr) (m ca : Nat) (hm : Y.length = m) (hY : m ≠ 0 → Els K w (some A) Y) (hroom : k + m ≤ c) (hfit : k + m ≤ X.length) :
    (Builtin.append_ #[tt, tt] ty #[.slice (some ⟨q, 0, none⟩) k c, .slice (some A) m ca]).run Try.prog w = .ok (.slice (some ⟨q, 0, none⟩) (k + m : Nat) c) (w.setRow q (K.flat ((X.take k ++ Y) ++ X.drop (k + Y.length))).toArray) := by
  obtain ⟨i, hi0, hh⟩ := Option.map_eq_some_iff.1 hi
  simp only [Prod.mk.injEq] at hh
  have hsz := hh.2.1
  have hr := run_append_room (P := Try.prog) w tt ty e i hu hi0 q k c (K.flat X).toArray hg A m ca (K.flat Y) (by rw [hsz, K.flat_length, hm]) (fun j u hj => by
    have h0 : m ≠ 0 := by
      rintro rfl
      rw [List.eq_nil_of_length_eq_zero hm] at hj
      simp [Kin.flat] at hj
    have h1 := hY h0
    obtain ⟨q', o', e', _⟩ := h1 0 _ (at_some (k := 0) (by omega))
    cases e'
    rw [Addr.add_at]
    exact h1.flat j u hj) (K.flat_each Y) hroom (by
      rw [hsz, K.flat_length, List.size_toArray, K.flat_length, ← Nat.add_mul, hm]
      exact Nat.mul_le_mul_right _ hfit)
  rw [hr, hsz, flat_splice X Y k (by omega)]
/-- What is copied within rows; overlapping ones too. -/
theorem run_copyE {e tt ty : TypeId} (hu : Try.prog.underlying tt = some (.slice e)) (hz : (Try.prog.info? e).map (·.size) = some K.n)
    (hg : Blk w q e (K.flat X)) (k dl dc : Nat) (A : Addr) (sl sc : Nat) (hm : Y.length = Nat.min sl dl) (hY : Els K w (some A) Y) (hfit : k + Y.length ≤ X.length) (h0 : 0 < Y.length) :
    (Builtin.copy_ #[tt, tt] ty #[.slice (some ⟨q, k * K.n, none⟩) dl dc, .slice (some A) sl sc]).run Try.prog w = .ok (goInt (Y.length : Nat)) (w.setRow q (K.flat ((X.take k ++ Y) ++ X.drop (k + Y.length))).toArray) := by
  obtain ⟨q', o', e', _⟩ := hY 0 _ (at_some h0)
  cases e'
  obtain ⟨i, hi, hs⟩ := Option.map_eq_some_iff.1 hz
  have hl := run_loadCells_list (P := Try.prog) w ⟨q', o', none⟩ (K.flat Y) (fun j u hj => by rw [Addr.add_at]; exact hY.flat j u hj)
  have hn : Nat.min sl dl * K.n = (K.flat Y).length := by rw [K.flat_length, hm]
  have hst := run_storeCells_at Try.prog q (k * K.n) e (K.flat Y) 0 (K.flat X).toArray w hg (by
    rw [List.size_toArray, K.flat_length, K.flat_length, Nat.add_zero, ← Nat.add_mul]
    exact Nat.mul_le_mul_right _ hfit) (K.flat_each Y)
  simp only [Nat.add_zero] at hst
  have hfc : (Builtin.firstCells K.n (Nat.min sl dl) (.slice (some ⟨q', o', none⟩) sl sc)).run Try.prog w = .ok (K.flat Y).toArray w := by
    simp only [Builtin.firstCells]
    rw [hn]
    exact hl
  rw [flat_splice X Y k hfit] at hst
  simp [Builtin.copy_, run_underlying hu, sizeOf, typeInfo, hi, hs, Builtin.lenOf, hfc, hst, hm]
/-- The last one is no more. -/
theorem run_clearE {e tt ty : TypeId} {z : Value} {by_ : Nat} (hu : Try.prog.underlying tt = some (.slice e)) (hi : (Try.prog.info? e).map (fun i => (i.zero, i.size, i.bytes)) = some (some z, K.n, by_)) (hz : (Builtin.zeroCells z.cells 1).toList = K.flat (zs 1))
    (hg : Blk w q e (K.flat X)) (k c : Nat) (hfit : k + 1 ≤ X.length) :
    (Builtin.clear_ #[tt] ty #[.slice (some ⟨q, k * K.n, none⟩) 1 c]).run Try.prog w = .ok (.tuple #[]) (w.setRow q (K.flat ((X.take k ++ zs 1) ++ X.drop (k + 1))).toArray) := by
  obtain ⟨i, hi0, hh⟩ := Option.map_eq_some_iff.1 hi
  simp only [Prod.mk.injEq] at hh
  have hst := run_storeCells_at Try.prog q (k * K.n) e (K.flat (zs 1)) 0 (K.flat X).toArray w hg (by
    rw [List.size_toArray, K.flat_length, K.flat_length, Nat.add_zero, ← Nat.add_mul]
    exact Nat.mul_le_mul_right _ hfit) (K.flat_each _)
  simp only [Nat.add_zero] at hst
  rw [flat_splice X (zs 1) k (by rw [zs_len]; exact hfit), zs_len] at hst
  have hv : ∀ W, (zeroValue e).run Try.prog W = .ok z W := fun W => by simp [zeroValue, typeInfo, hi0, hh.1]
  simp [Builtin.clear_, run_underlying hu, hv, hz, hst]
/-- A row of nothing. -/
theorem made_zs {z : Array Value} (hz : z.toList = K.cs ent0) : ∀ n, (madeCells z (n * K.n)).toList = K.flat (zs n) := by
  intro n
  have hs : z.size = K.n := by rw [← Array.length_toList, hz, K.len]
  apply List.ext_getElem?
  intro j
  by_cases hj : j < n * K.n
  · have hp := K.pos
    have hk : j / K.n < n := Nat.div_lt_of_lt_mul (by rw [Nat.mul_comm]; exact hj)
    have e1 : (zs n)[j / K.n]? = some ent0 := by simp [zs, hk]
    have e2 := Kin.flat_at (K := K) e1 (i := j % K.n) (Nat.mod_lt _ hp)
    have hm : j / K.n * K.n + j % K.n = j := by rw [Nat.mul_comm]; exact Nat.div_add_mod j K.n
    rw [hm] at e2
    rw [e2, ← hz]
    have hmod : j % z.size < z.size := Nat.mod_lt _ (by omega)
    simp only [madeCells, Array.toList_map, Array.toList_range, List.getElem?_map, List.getElem?_range hj, Option.map_some]
    rw [getElem!_pos z (j % z.size) hmod, ← hs, Array.getElem?_toList, Array.getElem?_eq_getElem hmod]
  · rw [List.getElem?_eq_none (by simp [madeCells]; omega), List.getElem?_eq_none (by rw [K.flat_length, zs_len]; omega)]
theorem run_makeE {e tt : TypeId} {z : Value} {by_ : Nat} (hu : Try.prog.underlying tt = some (.slice e)) (hi : (Try.prog.info? e).map (fun i => (i.zero, i.size, i.bytes)) = some (some z, K.n, by_)) (hby : by_ ≤ 1000) (hz : z.cells.toList = K.cs ent0) (n : Nat) (hn : n ≤ 1000) (w : World) :
    (Instr.makeSlice tt (.int .i64 0) (.int .i64 (n : Nat))).run Try.prog w = .ok (.slice (some ⟨w.heap.size, 0, none⟩) 0 n) (w.alloc (.cells (K.flat (zs n)).toArray e)) := by
  obtain ⟨i, hi0, hh⟩ := Option.map_eq_some_iff.1 hi
  simp only [Prod.mk.injEq] at hh
  have hb : i.bytes * n ≤ 1000 * 1000 := Nat.mul_le_mul (by omega) hn
  have hr := run_make (P := Try.prog) w tt e i z hu hi0 hh.1 .i64 .i64 0 (n : Int) (by omega) (by omega) (by
    have : ((i.bytes * n : Nat) : Int) ≤ 281474976710656 := by omega
    rwa [Int.natCast_mul] at this) (by omega)
  rw [hr, hh.2.1]
  simp only [Int.toNat_natCast]
  rw [← made_zs hz n]
  rfl
end

/-! A table: its head at g, its entries at q, room for n. -/
structure TbAt (K : Kin Ent) (tS tE : TypeId) (w : World) (g q n : Nat) (L : List Ent) : Prop where
  head : Blk w g tS [.slice (some ⟨q, 0, none⟩) (L.length : Nat) n, .int .i64 (n : Nat)]
  row : Blk w q tE (K.flat (L ++ zs (n - L.length)))
  ne : g ≠ q
  fit : L.length ≤ n
  pos : 1 ≤ n
  le : n ≤ 64
  srt : Srt L
def two (g q : Nat) : Nat → Prop := fun k => k = g ∨ k = q
def Tab (K : Kin Ent) (tS tE : TypeId) (b : Nat → Prop) (w : World) (g : Nat) (r : Int) (L : List Ent) : Prop := ∃ q n : Nat, r = (n : Int) ∧ TbAt K tS tE w g q n L ∧ ∀ k, b k ↔ two g q k
section
variable {K : Kin Ent} {tS tE : TypeId} {w w' : World} {g q n : Nat} {L : List Ent}
theorem TbAt.far {S : Nat → Prop} (h : TbAt K tS tE w g q n L) (hf : Far S w w') (h1 : ¬ S g) (h2 : ¬ S q) : TbAt K tS tE w' g q n L := ⟨h.head.far hf h1, h.row.far hf h2, h.ne, h.fit, h.pos, h.le, h.srt⟩
theorem TbAt.below (h : TbAt K tS tE w g q n L) (hb : Below w.heap.size w w') : TbAt K tS tE w' g q n L := h.far (Far.of_below hb nobody) (fun e => e) (fun e => e)
theorem TbAt.els (h : TbAt K tS tE w g q n L) : Els K w (some ⟨q, 0, none⟩) L := Els.of_flat (fun j u hj => by
  rw [Nat.zero_add, h.row.cell, K.flat_app, List.getElem?_append_left (List.getElem?_eq_some_iff.1 hj).1]
  exact hj)
theorem TbAt.lt (h : TbAt K tS tE w g q n L) : g < w.heap.size ∧ q < w.heap.size := ⟨h.head.lt, h.row.lt⟩
theorem TbAt.cells (h : TbAt K tS tE w g q n L) : w.cell? ⟨g, 0, none⟩ = some (.slice (some ⟨q, 0, none⟩) (L.length : Nat) n) ∧ w.cell? ⟨g, 1, none⟩ = some (.int .i64 (n : Nat)) ∧ w.frozen? ⟨g, 0, none⟩ = false := ⟨h.head.cell 0, h.head.cell 1, h.head.frozen 0⟩
/-- A new one of its entries, and its head behind that. -/
theorem TbAt.next (h : TbAt K tS tE w g q n L) {L' : List Ent} {w1 : World} (hb : Blk w1 q tE (K.flat (L' ++ zs (n - L'.length)))) (hf : Far (only q) w w1) (hl : L'.length ≤ n) (hs : Srt L') :
    TbAt K tS tE (w1.setCell ⟨g, 0, none⟩ (.slice (some ⟨q, 0, none⟩) (L'.length : Nat) n)) g q n L' ∧ Far (two g q) w (w1.setCell ⟨g, 0, none⟩ (.slice (some ⟨q, 0, none⟩) (L'.length : Nat) n)) := by
  have hh := h.head.far hf h.ne
  refine ⟨⟨by simpa using hh.set_ 0 _, hb.other (p := ⟨g, 0, none⟩) (fun e => h.ne e.symm) _, h.ne, hl, h.pos, h.le, hs⟩, ?_⟩
  exact (hf.mono (fun _ e => .inr e)).set_ (p := ⟨g, 0, none⟩) (fun _ => .inl rfl) _
end
end Go.Proofs.Ytpjeeccgpnpokaa
