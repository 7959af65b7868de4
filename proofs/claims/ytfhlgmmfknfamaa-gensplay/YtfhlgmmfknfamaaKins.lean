/- Things of a fixed number of cells: a slice of them that is read, a row of them that is one's own; append. Conditions: those of each theorem. -/
import Derived.Test.YtfhlgmmfknfamaaBase
namespace Go.Proofs.Ytfhlgmmfknfamaa
open Go.RowKit

/-- A kind of things, each of n cells. -/
structure Kin (α : Type) where
  cs : α → List Value
  n : Nat
  pos : 0 < n
  len : ∀ s, (cs s).length = n
  one : ∀ s, ∀ u ∈ cs s, u.oneCell' = true
section
variable {α : Type} (K : Kin α)
def Kin.flat (L : List α) : List Value := L.flatMap K.cs
theorem Kin.flat_length (L : List α) : (K.flat L).length = L.length * K.n := by
  induction L with
  | nil => simp [Kin.flat]
  | cons s r ih =>
    have : K.flat (s :: r) = K.cs s ++ K.flat r := rfl
    rw [this, List.length_append, ih, K.len, List.length_cons, Nat.succ_mul]
    omega
theorem Kin.flat_app (L R : List α) : K.flat (L ++ R) = K.flat L ++ K.flat R := by simp [Kin.flat]
theorem Kin.flat_one (s : α) : K.flat [s] = K.cs s := by simp [Kin.flat]
theorem Kin.flat_each (L : List α) : ∀ u ∈ K.flat L, u.oneCell' = true := fun u hu => by
  obtain ⟨s, _, hs⟩ := List.mem_flatMap.1 hu
  exact K.one s u hs
variable {K}
theorem Kin.flat_split {L : List α} {k : Nat} {s : α} (h : L[k]? = some s) : K.flat L = K.flat (L.take k) ++ (K.cs s ++ K.flat (L.drop (k + 1))) := by
  have hk := (List.getElem?_eq_some_iff.1 h).1
  have e : L = L.take k ++ (s :: L.drop (k + 1)) := by
    rw [← (List.getElem?_eq_some_iff.1 h).2, ← List.drop_eq_getElem_cons, List.take_append_drop]
  conv => lhs; rw [e]
  rw [K.flat_app]
  rfl
theorem Kin.take_len {L : List α} {k : Nat} (h : k ≤ L.length) : (K.flat (L.take k)).length = k * K.n := by
  rw [K.flat_length, List.length_take, Nat.min_eq_left h]
theorem Kin.flat_at {L : List α} {k i : Nat} {s : α} (h : L[k]? = some s) (hi : i < K.n) : (K.flat L)[k * K.n + i]? = (K.cs s)[i]? := by
  have hk := (List.getElem?_eq_some_iff.1 h).1
  have hl := Kin.take_len (K := K) (L := L) (k := k) (by omega)
  rw [Kin.flat_split h, List.getElem?_append_right (by omega), hl, show k * K.n + i - k * K.n = i by omega, List.getElem?_append_left (by rw [K.len]; exact hi)]
theorem Kin.flat_set {L : List α} {k : Nat} (hk : k < L.length) (s : α) : K.flat (L.set k s) = (K.flat L).take (k * K.n) ++ (K.cs s ++ (K.flat L).drop (k * K.n + K.n)) := by
  have h1 : (L.set k s)[k]? = some s := by simp [hk]
  rw [Kin.flat_split h1]
  have h2 : L[k]? = some L[k] := by simp [hk]
  have hl := Kin.take_len (K := K) (L := L) (k := k) (by omega)
  have e : K.flat L = K.flat (L.take k) ++ (K.cs L[k] ++ K.flat (L.drop (k + 1))) := Kin.flat_split h2
  rw [e]
  congr 1
  · rw [List.take_left' hl]
    congr 1
    apply List.ext_getElem?
    intro i
    simp only [List.getElem?_take, List.getElem?_set]
    split
    · rw [if_neg (by omega)]
    · rfl
  · congr 1
    rw [drop3 _ _ _ (by rw [hl, K.len])]
    congr 1
    apply List.ext_getElem?
    intro i
    simp only [List.getElem?_drop, List.getElem?_set]
    rw [if_neg (by omega)]
end
section
variable {α : Type} (K : Kin α)
/-- The things L can be read in the slice at A. -/
def Els (w : World) (A : Option Addr) (L : List α) : Prop := ∀ k s, L[k]? = some s → ∃ q o, A = some ⟨q, o, none⟩ ∧ w.rangeAt q (o + k * K.n) (K.cs s)
/-- An own row of things. -/
def Ow (e : TypeId) (base : Nat) (v : Value) (L : List α) (w : World) : Prop := w.ownsRow base e K.n v L.length (K.flat L)
variable {K} {w w' : World} {A : Option Addr} {L R : List α} {e : TypeId} {base : Nat} {v : Value} {q o : Nat}
theorem Els.nil : Els K w A [] := fun k s hk => by simp at hk
theorem Els.below (h : Els K w A L) (hb : Below w.heap.size w w') : Els K w' A L := fun k p hk => by
  obtain ⟨q, o, e, hr⟩ := h k p hk
  exact ⟨q, o, e, fun j v hv => (hb.cell (World.block_lt_of_cell? w _ (hr j v hv))).trans (hr j v hv)⟩
theorem Els.far {S : Nat → Prop} (h : Els K w A L) (hf : Far S w w') (hn : ∀ q o, A = some ⟨q, o, none⟩ → ¬ S q) : Els K w' A L := fun k p hk => by
  obtain ⟨q, o, e, hr⟩ := h k p hk
  exact ⟨q, o, e, fun j v hv => (World.cell?_of_block (hf.block _ (World.block_lt_of_cell? w _ (hr j v hv)) (hn q o e))).trans (hr j v hv)⟩
theorem Els.drew (h : Els K w A L) : Els K w.drew A L := h
theorem Els.drewN (h : Els K w A L) (n : Nat) : Els K (w.drewN n) A L := h
/-- The first k of them. -/
theorem Els.upto (h : Els K w A L) (k : Nat) : Els K w A (L.take k) := fun j s hj => by
  rw [List.getElem?_take] at hj
  split at hj
  · exact h j s hj
  · cases hj
/-- Those from k on. -/
theorem Els.from_ (h : Els K w A L) {k cap : Nat} (hc : L.length ≤ cap) : Els K w (if cap = k then A else A.map (·.add (k * K.n))) (L.drop k) := fun j s hj => by
  rw [List.getElem?_drop] at hj
  have hl := (List.getElem?_eq_some_iff.1 hj).1
  obtain ⟨q, o, rfl, hr⟩ := h _ _ hj
  rw [if_neg (by omega)]
  refine ⟨q, o + k * K.n, by simp [Addr.add_mid], ?_⟩
  rw [show o + k * K.n + j * K.n = o + (k + j) * K.n by rw [Nat.add_mul]; omega]
  exact hr
theorem Els.someA (h : Els K w A L) (h0 : L ≠ []) : ∃ q o, A = some ⟨q, o, none⟩ := by
  have hp := List.length_pos_iff.2 h0
  obtain ⟨q, o, e, _⟩ := h 0 L[0] (by simp [hp])
  exact ⟨q, o, e⟩
/-- The cells of what is read, from its address on. -/
theorem Els.flat (h : Els K w (some ⟨q, o, none⟩) L) (j : Nat) (u : Value) (hj : (K.flat L)[j]? = some u) : w.cell? ⟨q, o + j, none⟩ = some u := by
  have hj2 : j < L.length * K.n := by rw [← K.flat_length]; exact (List.getElem?_eq_some_iff.1 hj).1
  have hp := K.pos
  have hk : j / K.n < L.length := Nat.div_lt_of_lt_mul (by rw [Nat.mul_comm]; exact hj2)
  have hs : L[j / K.n]? = some L[j / K.n] := by simp [hk]
  obtain ⟨q', o', e, hr⟩ := h _ _ hs
  cases e
  have hm : j / K.n * K.n + j % K.n = j := by rw [Nat.mul_comm]; exact Nat.div_add_mod j K.n
  have e2 := Kin.flat_at (K := K) hs (i := j % K.n) (Nat.mod_lt _ hp)
  rw [hm, hj] at e2
  have := hr (j % K.n) u e2.symm
  rw [show o + j / K.n * K.n + j % K.n = o + j by omega] at this
  exact this
theorem Els.of_flat (h : ∀ j u, (K.flat L)[j]? = some u → w.cell? ⟨q, o + j, none⟩ = some u) : Els K w (some ⟨q, o, none⟩) L := fun k s hk => by
  refine ⟨q, o, rfl, fun i u hu => ?_⟩
  have hi : i < K.n := by rw [← K.len s]; exact (List.getElem?_eq_some_iff.1 hu).1
  rw [show o + k * K.n + i = o + (k * K.n + i) by omega]
  exact h _ _ (by rw [Kin.flat_at hk hi]; exact hu)
theorem Els.of_blk {g : Nat} {t : TypeId} {s : α} (h : Blk w g t (K.cs s)) : Els K w (some ⟨g, 0, none⟩) [s] :=
  Els.of_flat (fun j u hu => by rw [K.flat_one] at hu; rw [Nat.zero_add, h.cell]; exact hu)
theorem Ow.els (h : Ow K e base v L w) : ∃ A c, v = .slice A L.length c ∧ L.length ≤ c ∧ c ≤ maxLen ∧ Els K w A L ∧ v.ownBlock = A.map (·.block) ∧ (A = none → c = 0) := by
  rcases h.2 with ⟨rfl, h0⟩ | ⟨g, cap, cur, rfl, _, _, hc, hm, _, _⟩
  · refine ⟨none, 0, by rw [h0], by omega, Nat.zero_le _, ?_, rfl, fun _ => rfl⟩
    rw [List.eq_nil_of_length_eq_zero h0]
    exact Els.nil
  · refine ⟨_, _, rfl, hc, hm, Els.of_flat (fun j u hu => ?_), rfl, fun e => by cases e⟩
    have := h.cells (g := g) rfl j u hu
    rwa [Addr.add_mid] at this
theorem Ow.nil : Ow K e base (.slice none 0 0) ([] : List α) w := ⟨by simp [Kin.flat], .inl ⟨rfl, rfl⟩⟩
theorem Ow.new (w : World) (hb : base ≤ w.heap.size) : Ow K e base (.slice (some ⟨w.heap.size, 0, none⟩) 0 0) ([] : List α) (w.alloc (.cells #[] e)) :=
  ⟨by simp [Kin.flat], .inr ⟨w.heap.size, 0, #[], rfl, hb, Blk.new w e [], Nat.le_refl _, Nat.zero_le _, by simp, by simp [Kin.flat]⟩⟩
theorem Ow.below (h : Ow K e base v L w) (hb : Below w.heap.size w w') : Ow K e base v L w' := Far.row (Far.of_below hb nobody) h (fun _ _ e => e)
theorem Ow.far {S : Nat → Prop} (h : Ow K e base v L w) (hf : Far S w w') (hn : ∀ k, v.ownBlock = some k → ¬ S k) : Ow K e base v L w' := Far.row hf h hn
theorem Ow.lt (h : Ow K e base v L w) : ∀ k, v.ownBlock = some k → base ≤ k ∧ k < w.heap.size := by
  intro k hk
  rcases h.2 with ⟨rfl, _⟩ | ⟨g, cap, cur, rfl, hb, hg, _⟩
  · simp [Value.ownBlock] at hk
  · simp [Value.ownBlock] at hk
    subst hk
    exact ⟨hb, (Array.getElem?_eq_some_iff.1 hg).1⟩
theorem Ow.shape (h : Ow K e base v L w) (h0 : 0 < L.length) : ∃ q c, v = .slice (some ⟨q, 0, none⟩) L.length c ∧ base ≤ q := by
  rcases h.2 with ⟨_, e⟩ | ⟨g, cap, cur, rfl, hb, _⟩
  · omega
  · exact ⟨g, cap, rfl, hb⟩
/-- append onto an own row. -/
theorem run_app {P : Program} (w : World) (t ty : TypeId) (z : Value) (bytes : Nat) (hu : P.underlying t = some (.slice e)) (hi : (P.info? e).map (fun i => (i.zero, i.size, i.bytes)) = some (some z, K.n, bytes)) (hz : z.cells.size = K.n) (hby : bytes ≤ 1000)
    (h : Ow K e base v L w) (hq : Els K w A R) (c : Nat) (hn : L.length + R.length ≤ 100000) (hb : base ≤ w.heap.size) :
    ∃ v' w', (Builtin.append_ #[t, t] ty #[v, .slice A R.length c]).run P w = .ok v' w' ∧ Ow K e base v' (L ++ R) w' ∧ w.grownBy w' v.ownBlock ∧ (v'.ownBlock = v.ownBlock ∨ v'.ownBlock = some w.heap.size) := by
  obtain ⟨i, hi0, hh⟩ := Option.map_eq_some_iff.1 hi
  simp only [Prod.mk.injEq] at hh
  by_cases h0 : R = []
  · subst h0
    refine ⟨v, w, ?_, by simpa using h, World.grownBy.refl w _, .inl rfl⟩
    rcases h.2 with ⟨rfl, e0⟩ | ⟨g, cap, cur, rfl, hgb, hg, hnc, hm, hsz, _⟩
    · cases A <;> simp [Builtin.append_, run_underlying hu, sizeOf, typeInfo, hi0, Builtin.lenOf, Builtin.firstCells, loadCells, loadCellsFrom]
    · cases A <;> simp [Builtin.append_, run_underlying hu, sizeOf, typeInfo, hi0, Builtin.lenOf, Builtin.firstCells, hnc, storeCells, loadCells, loadCellsFrom]
  · obtain ⟨q, o, rfl⟩ := hq.someA h0
    have hmul : (L.length + R.length) * bytes ≤ 100000 * 1000 := Nat.mul_le_mul hn hby
    obtain ⟨v', w', hrun, h2, h3, _, h5⟩ := run_append_own_at (P := P) w base t ty e i z K.n bytes hu hi0 hh.1 hh.2.1 hh.2.2 hz K.pos v L.length (K.flat L) h ⟨q, o, none⟩ R.length c (K.flat R) (K.flat_length R) (fun j u hj => by
      rw [Addr.add_mid]
      exact hq.flat j u hj) (K.flat_each R) (by unfold maxLen; omega) (by omega) hb
    refine ⟨v', w', hrun, ?_, h3, h5⟩
    unfold Ow
    rw [List.length_append, K.flat_app]
    exact h2
/-- append onto a slice that is full (n of n): always a new row. -/
theorem run_app_full {P : Program} (w : World) (t ty : TypeId) (z : Value) (bytes : Nat) (hu : P.underlying t = some (.slice e)) (hi : (P.info? e).map (fun i => (i.zero, i.size, i.bytes)) = some (some z, K.n, bytes)) (hz : z.cells.size = K.n) (hby : bytes ≤ 1000)
    (h : Els K w (some ⟨q, o, none⟩) L) (hq : Els K w A R) (c : Nat) (hn : L.length + R.length ≤ 100000) (h0 : R ≠ []) (hb : base ≤ w.heap.size) :
    ∃ v' w', (Builtin.append_ #[t, t] ty #[.slice (some ⟨q, o, none⟩) L.length L.length, .slice A R.length c]).run P w = .ok v' w' ∧ Ow K e base v' (L ++ R) w' ∧ Below w.heap.size w w' ∧ v'.ownBlock = some w.heap.size := by
  obtain ⟨i, hi0, hh⟩ := Option.map_eq_some_iff.1 hi
  simp only [Prod.mk.injEq] at hh
  obtain ⟨hz0, hsz, hbt⟩ := hh
  subst hbt
  obtain ⟨q', o', rfl⟩ := hq.someA h0
  have hR := List.length_pos_iff.2 h0
  have hmul : (L.length + R.length) * i.bytes ≤ 100000 * 1000 := Nat.mul_le_mul hn hby
  have hr := run_append_grow (P := P) w t ty e i z hu hi0 hz0 ⟨q, o, none⟩ L.length L.length (K.flat L) (by rw [hsz]; exact K.flat_length L) (fun j u hj => by rw [Addr.add_mid]; exact h.flat j u hj) ⟨q', o', none⟩ R.length c (K.flat R) (by rw [hsz]; exact K.flat_length R) (fun j u hj => by rw [Addr.add_mid]; exact hq.flat j u hj) (by omega) (by omega) (growslice_fits (by omega) (by omega))
  refine ⟨_, _, hr, ⟨by rw [K.flat_length], .inr ⟨w.heap.size, _, _, by rw [List.length_append], hb, heap_alloc_new w.drew _, ?_, grownCap_le_maxLen w (L.length + R.length) L.length e (by unfold maxLen; omega), ?_, ?_⟩⟩, ⟨rfl, rfl, rfl, by simp, fun k hk => heap_alloc_old w.drew _ hk⟩, rfl⟩
  · rw [List.length_append]; exact grownCap_ge w (L.length + R.length) L.length e
  · have hge := grownCap_ge w (L.length + R.length) L.length e
    simp only [Array.size_append, List.size_toArray, size_zeroCells, hz, K.flat_length, ← Nat.add_mul]
    congr 1
    omega
  · simp only [Array.toList_append, List.append_assoc]
    rw [← K.flat_length, K.flat_app, ← List.append_assoc]
    exact List.take_left
end
end Go.Proofs.Ytfhlgmmfknfamaa
