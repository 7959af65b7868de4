/- Words for memory: a block known whole, a slice that reads as values of one cell each, what stays as it was; append of such values onto an own row, as a run. Conditions: those of each theorem. -/
import Derived.Below
import Derived.Lib.Hide
import Derived.Deep.Draws
import Derived.Laws.OwnMore
import Derived.Laws.AppendOwn
import Derived.Laws.CopyOwn
import Derived.Laws.BytesArg
import Derived.Maps.AppendAt
import Derived.OwnWalk
namespace Go.Proofs.Ytfhlgmmfknfamaa
open Go.RowKit

/-- What S doesn't name is as it was; nothing has gone. -/
structure Far (S : Nat → Prop) (w w' : World) : Prop where
  os : w'.os = w.os
  tape : w'.tape = w.tape
  output : w'.output = w.output
  size : w.heap.size ≤ w'.heap.size
  block : ∀ k, k < w.heap.size → ¬ S k → w'.heap[k]? = w.heap[k]?

section
variable {S S' : Nat → Prop} {w w' w'' a : World}
theorem Far.refl (S : Nat → Prop) (w : World) : Far S w w := ⟨rfl, rfl, rfl, Nat.le_refl _, fun _ _ _ => rfl⟩
theorem Far.trans (h : Far S w w') (k : Far S' w' w'') (hs : ∀ i, i < w.heap.size → S' i → S i) : Far S w w'' :=
  ⟨k.os.trans h.os, k.tape.trans h.tape, k.output.trans h.output, Nat.le_trans h.size k.size,
    fun i hi hn => (k.block i (Nat.lt_of_lt_of_le hi h.size) (fun e => hn (hs i hi e))).trans (h.block i hi hn)⟩
theorem Far.mono (h : Far S w w') (hs : ∀ i, S i → S' i) : Far S' w w' := ⟨h.os, h.tape, h.output, h.size, fun i hi hn => h.block i hi fun e => hn (hs i e)⟩
theorem Far.alloc (h : Far S w w') (o : Obj) : Far S w (w'.alloc o) :=
  ⟨h.os, h.tape, h.output, Nat.le_trans h.size (by simp), fun i hi hn => (Below.heap_alloc w' o i (Nat.lt_of_lt_of_le hi h.size)).trans (h.block i hi hn)⟩
theorem Far.set_ (h : Far S w w') {p : Addr} (hp : p.block < w.heap.size → S p.block) (u : Value) : Far S w (w'.setCell p u) :=
  ⟨h.os, h.tape, h.output, by simpa [World.setCell] using h.size, fun i hi hn => (Below.heap_setCell w' p u i (fun e => hn (e ▸ hp (e ▸ hi)))).trans (h.block i hi hn)⟩
theorem Far.drew (h : Far S w w') : Far S w w'.drew := ⟨h.os, h.tape, h.output, h.size, h.block⟩
theorem Far.drewN (h : Far S w w') (n : Nat) : Far S w (w'.drewN n) := ⟨h.os, h.tape, h.output, h.size, h.block⟩
theorem Far.grown {row : Option Nat} (h : Far S w w') (hg : w'.grownBy w'' row) (hr : ∀ k, row = some k → k < w.heap.size → S k) : Far S w w'' :=
  h.trans (S' := fun k => some k = row) ⟨hg.os, hg.tape, hg.output, hg.size, fun k hk hn => hg.block k hk hn⟩ (fun i hi e => hr i e.symm hi)
theorem Far.below (h : Far S w w') {B : Nat} (hB : B ≤ w.heap.size) (hs : ∀ k, k < B → ¬ S k) : Below B w w' :=
  ⟨h.os, h.tape, h.output, h.size, fun k hk => h.block k (Nat.lt_of_lt_of_le hk hB) (hs k hk)⟩
theorem Far.of_below (h : Below w.heap.size w w') (S : Nat → Prop) : Far S w w' := ⟨h.os, h.tape, h.output, h.size, fun k hk _ => h.block k hk⟩
theorem Far.row (h : Far S w w') {base : Nat} {e : TypeId} {size : Nat} {v : Value} {n : Nat} {xs : List Value} (ho : w.ownsRow base e size v n xs) (hn : ∀ k, v.ownBlock = some k → ¬ S k) :
    w'.ownsRow base e size v n xs := by
  refine ⟨ho.1, ?_⟩
  rcases ho.2 with h0 | ⟨g, cap, cur, rfl, hb, hg, rest⟩
  · exact .inl h0
  · refine .inr ⟨g, cap, cur, rfl, hb, ?_, rest⟩
    rw [h.block g (Array.getElem?_eq_some_iff.1 hg).1 (hn g rfl)]
    exact hg
end

/-- Block g is the cells cs of type t, none frozen. -/
def Blk (w : World) (g : Nat) (t : TypeId) (cs : List Value) : Prop := w.heap[g]? = some (.cells cs.toArray t (0, 0))
section
variable {w w' : World} {g : Nat} {t : TypeId} {cs : List Value}
theorem Blk.lt (h : Blk w g t cs) : g < w.heap.size := (Array.getElem?_eq_some_iff.1 h).1
theorem Blk.cell (h : Blk w g t cs) (i : Nat) : w.cell? ⟨g, i, none⟩ = cs[i]? := by simpa using cell_of_row w g i cs.toArray t (0, 0) h
theorem Blk.frozen (h : Blk w g t cs) (i : Nat) : w.frozen? ⟨g, i, none⟩ = false := by
  unfold Blk at h
  simp [World.frozen?, h]
theorem Blk.new (w : World) (t : TypeId) (cs : List Value) : Blk (w.alloc (.cells cs.toArray t)) w.heap.size t cs := heap_alloc_new w _
theorem Blk.alloc (h : Blk w g t cs) (o : Obj) : Blk (w.alloc o) g t cs := (Below.heap_alloc w o g h.lt).trans h
theorem Blk.set_ (h : Blk w g t cs) (i : Nat) (u : Value) : Blk (w.setCell ⟨g, i, none⟩ u) g t (cs.set i u) := by
  unfold Blk at h ⊢
  simp [World.setCell, Array.getElem?_modify, h]
theorem Blk.other (h : Blk w g t cs) {p : Addr} (hp : g ≠ p.block) (u : Value) : Blk (w.setCell p u) g t cs := (Below.heap_setCell w p u g hp).trans h
theorem Blk.far {S : Nat → Prop} (h : Blk w g t cs) (hf : Far S w w') (hn : ¬ S g) : Blk w' g t cs := (hf.block g h.lt hn).trans h
theorem Blk.grown {row : Option Nat} (h : Blk w g t cs) (hg : w.grownBy w' row) (hn : row ≠ some g) : Blk w' g t cs := (hg.block g h.lt (fun e => hn e.symm)).trans h
theorem Blk.apart {g' : Nat} {t' : TypeId} {cs' : List Value} (h : Blk w g t cs) (h' : Blk w g' t' cs') (ht : t ≠ t') : g ≠ g' := by
  rintro rfl
  unfold Blk at h h'
  rw [h] at h'
  injection h' with h'
  injection h' with _ e
  exact ht e
theorem Blk.row_apart {base : Nat} {e : TypeId} {size n : Nat} {v : Value} {xs : List Value} (h : Blk w g t cs) (ho : w.ownsRow base e size v n xs) (ht : t ≠ e) : v.ownBlock ≠ some g := by
  rcases ho.2 with ⟨rfl, _⟩ | ⟨g', cap, cur, rfl, _, hh, _⟩
  · simp [Value.ownBlock]
  · intro he
    obtain rfl : g' = g := by simpa [Value.ownBlock] using he
    unfold Blk at h
    rw [h] at hh
    injection hh with hh
    injection hh with _ e
    exact ht e
end

theorem Addr.add_at (g o i : Nat) : (⟨g, o, none⟩ : Addr).add i = ⟨g, o + i, none⟩ := by unfold Addr.add; split <;> simp_all
theorem Addr.block_add (a : Addr) (n : Nat) : (a.add n).block = a.block := by unfold Addr.add; split <;> rfl
theorem Addr.add_twice (a : Addr) (i j : Nat) : (a.add i).add j = a.add (i + j) := by
  unfold Addr.add
  by_cases hi : i = 0 <;> by_cases hj : j = 0 <;> simp [hi, hj, Nat.add_assoc]

/-- The slice at A of n elements of one cell each reads as the values vs; nil and empty ones let in. -/
def Vals (w : World) (A : Option Addr) (n : Nat) (vs : List Value) : Prop :=
  vs.length = n ∧ (0 < n → ∃ ad, A = some ad ∧ ∀ k v, vs[k]? = some v → w.cell? (ad.add k) = some v)
section
variable {w w' : World} {A : Option Addr} {n : Nat} {vs : List Value}
theorem Vals.none_ : Vals w A 0 [] := ⟨rfl, fun h => absurd h (by omega)⟩
theorem Vals.at_ (h : Vals w A n vs) {k : Nat} {v : Value} (hk : vs[k]? = some v) : ∃ ad, A = some ad ∧ w.cell? (ad.add k) = some v := by
  have := (List.getElem?_eq_some_iff.1 hk).1
  obtain ⟨ad, e, hc⟩ := h.2 (by have := h.1; omega)
  exact ⟨ad, e, hc k v hk⟩
theorem Vals.keep (h : Vals w A n vs) (hk : ∀ ad v, A = some ad → ∀ i, w.cell? (ad.add i) = some v → w'.cell? (ad.add i) = some v) : Vals w' A n vs :=
  ⟨h.1, fun h0 => by
    obtain ⟨ad, rfl, hc⟩ := h.2 h0
    exact ⟨ad, rfl, fun k v hk' => hk ad _ rfl _ (hc k v hk')⟩⟩
theorem Vals.below (h : Vals w A n vs) (hb : Below w.heap.size w w') : Vals w' A n vs :=
  h.keep fun _ _ _ _ hp => (hb.cell (World.block_lt_of_cell? w _ hp)).trans hp
theorem Vals.far {S : Nat → Prop} (h : Vals w A n vs) (hf : Far S w w') (hn : ∀ ad, A = some ad → ¬ S ad.block) : Vals w' A n vs :=
  h.keep fun ad _ e i hp => (World.cell?_of_block (hf.block _ (World.block_lt_of_cell? w _ hp) (by rw [Addr.block_add]; exact hn ad e))).trans hp
theorem Vals.of_blk {g : Nat} {t : TypeId} (h : Blk w g t vs) (hn : vs.length = n) : Vals w (some ⟨g, 0, none⟩) n vs :=
  ⟨hn, fun _ => ⟨_, rfl, fun k v hk => by rw [Addr.add_at, h.cell, Nat.zero_add]; exact hk⟩⟩
theorem Vals.of_row {base : Nat} {e : TypeId} {v : Value} (h : w.ownsRow base e 1 v n vs) : ∃ A c, v = .slice A n c ∧ n ≤ c ∧ c ≤ maxLen ∧ Vals w A n vs ∧ v.ownBlock = A.map (·.block) ∧ (A = none → c = 0) := by
  have hl : vs.length = n := by have := h.1; simpa using this
  rcases h.2 with ⟨rfl, rfl⟩ | ⟨g, cap, cur, rfl, _, _, hc, hm, _, _⟩
  · exact ⟨none, 0, rfl, Nat.le_refl _, Nat.zero_le _, ⟨hl, fun h0 => absurd h0 (by omega)⟩, rfl, fun _ => rfl⟩
  · exact ⟨_, _, rfl, hc, hm, ⟨hl, fun _ => ⟨_, rfl, fun k v hk => h.cells (g := g) rfl k _ hk⟩⟩, rfl, fun e => by cases e⟩
theorem Vals.of_own {base : Nat} {e : TypeId} {c : Nat} (h : w.ownsRow base e 1 (.slice A n c) n vs) : Vals w A n vs := by
  obtain ⟨A', c', e, _, _, h', _⟩ := Vals.of_row h
  cases e
  exact h'
/-- The first k of them. -/
theorem Vals.upto (h : Vals w A n vs) {k : Nat} (hk : k ≤ n) : Vals w A k (vs.take k) := by
  refine ⟨by have := h.1; simp; omega, fun h0 => ?_⟩
  obtain ⟨ad, rfl, hc⟩ := h.2 (by omega)
  refine ⟨ad, rfl, fun j v hj => hc j v ?_⟩
  rw [List.getElem?_take] at hj
  split at hj
  · exact hj
  · cases hj
/-- Those from k on. -/
theorem Vals.from_ (h : Vals w A n vs) {k cap : Nat} (hk : k ≤ n) (hc : n ≤ cap) : Vals w (if cap = k then A else A.map (·.add k)) (n - k) (vs.drop k) := by
  refine ⟨by have := h.1; simp; omega, fun h0 => ?_⟩
  obtain ⟨ad, rfl, hcell⟩ := h.2 (by omega)
  rw [if_neg (by omega)]
  refine ⟨ad.add k, rfl, fun j v hj => ?_⟩
  rw [Addr.add_twice]
  exact hcell _ _ (by simpa [List.getElem?_drop] using hj)
end

theorem setRow_new (w : World) (o : Array Value) (t : TypeId) (cs : Array Value) : (w.alloc (.cells o t)).setRow w.heap.size cs = w.alloc (.cells cs t) := by
  have e : ∀ f : Obj → Obj, (w.heap.push (.cells o t)).modify w.heap.size f = w.heap.push (f (.cells o t)) := fun f => by
    refine Array.ext (by simp) fun i h1 h2 => ?_
    rw [Array.getElem_modify]
    by_cases hi : w.heap.size = i
    · subst hi; simp
    · rw [if_neg hi, Array.getElem_push_lt (by simp at h2; omega), Array.getElem_push_lt (by simp at h2; omega)]
  unfold World.setRow
  show ({ w.alloc (.cells o t) with heap := (w.heap.push (.cells o t)).modify w.heap.size _ } : World) = _
  rw [e]
  rfl

/-- append of any values of one cell (nil let in) onto an own row. -/
theorem run_append_vals {P : Program} (w : World) (base : Nat) (t ty e : TypeId) (z : Value) (bytes : Nat) (hu : P.underlying t = some (.slice e)) (hi : (P.info? e).map (fun i => (i.zero, i.size, i.bytes)) = some (some z, 1, bytes)) (hz : z.cells.size = 1)
    (v : Value) (n : Nat) (xs : List Value) (hown : w.ownsRow base e 1 v n xs) (A : Option Addr) (m c : Nat) (bs : List Value) (h : Vals w A m bs) (h1 : ∀ u ∈ bs, u.oneCell' = true) (hn : n + m ≤ 1000000) (hby : bytes ≤ 1000) (hb : base ≤ w.heap.size) :
    ∃ v' w', (Builtin.append_ #[t, t] ty #[v, .slice A m c]).run P w = .ok v' w' ∧ w'.ownsRow base e 1 v' (n + m) (xs ++ bs) ∧ w.grownBy w' v.ownBlock ∧ (v'.ownBlock = v.ownBlock ∨ v'.ownBlock = some w.heap.size) := by
  obtain ⟨i, hi0, hz0, hz1, hz2⟩ := info_parts hi
  rcases A with _ | ad
  · obtain ⟨rfl, rfl⟩ : m = 0 ∧ bs = [] := by
      rcases Nat.eq_zero_or_pos m with h0 | h0
      · exact ⟨h0, List.length_eq_zero_iff.1 (h.1.trans h0)⟩
      · obtain ⟨_, e, _⟩ := h.2 h0; cases e
    refine ⟨v, w, ?_, by simpa using hown, World.grownBy.refl w _, .inl rfl⟩
    rcases hown.2 with ⟨rfl, rfl⟩ | ⟨g, cap, cur, rfl, _, _, hnc, _⟩
    · simp [Builtin.append_, run_underlying hu, sizeOf, typeInfo, hi0, Builtin.lenOf, Builtin.firstCells]
    · simp [Builtin.append_, run_underlying hu, sizeOf, typeInfo, hi0, Builtin.lenOf, Builtin.firstCells, hnc, storeCells]
  · have hl : bs.length = m * 1 := by rw [h.1, Nat.mul_one]
    have hmul : (n + m) * bytes ≤ 1000000 * 1000 := Nat.mul_le_mul hn hby
    obtain ⟨v', w', hrun, h2, h3, _, h5⟩ := run_append_own_at (P := P) w base t ty e i z 1 bytes hu hi0 hz0 hz1 hz2 hz (by decide) v n xs hown ad m c bs hl (fun j u hj => by
      obtain ⟨ad', e, hc⟩ := h.at_ hj
      cases e
      exact hc) h1 (by unfold maxLen; omega) (by omega) hb
    exact ⟨v', w', hrun, h2, h3, h5⟩
end Go.Proofs.Ytfhlgmmfknfamaa
