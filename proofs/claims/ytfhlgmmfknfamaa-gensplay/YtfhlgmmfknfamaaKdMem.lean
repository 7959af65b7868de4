/- Words for memory: a block known whole, a slice that reads as bytes, what stays as it was; copy, append and string over bytes, as runs. Conditions: those of each theorem. -/
import Derived.Test.YtfhlgmmfknfamaaKdNums
import Derived.Below
import Derived.Lib.Hide
import Derived.Deep.Draws
import Derived.Laws.OwnMore
import Derived.Laws.AppendOwn
import Derived.Laws.CopyOwn
import Derived.Laws.BytesArg
import Derived.Maps.AppendAt
import Derived.OwnWalk
namespace Go.Proofs.Ytfhlgmmfknfamaa.kd
open Go.RowKit

/-- What S doesn't name is as it was; nothing has gone. -/
structure Far (S : Nat → Prop) (w w' : World) : Prop where
  os : w'.os = w.os
  tape : w'.tape = w.tape
  output : w'.output = w.output
  size : w.heap.size ≤ w'.heap.size
  block : ∀ k, k < w.heap.size → ¬ S k → w'.heap[k]? = w.heap[k]?

section
variable {S S' : Nat → Prop} {w w' w'' a : World}
theorem Far.refl (S : Nat → Prop) (w : World) : Far S w w := ⟨rfl, rfl, rfl, Nat.le_refl _, fun _ _ _ => rfl⟩
theorem Far.trans (h : Far S w w') (k : Far S' w' w'') (hs : ∀ i, i < w.heap.size → S' i → S i) : Far S w w'' :=
  ⟨k.os.trans h.os, k.tape.trans h.tape, k.output.trans h.output, Nat.le_trans h.size k.size,
    fun i hi hn => (k.block i (Nat.lt_of_lt_of_le hi h.size) (fun e => hn (hs i hi e))).trans (h.block i hi hn)⟩
theorem Far.mono (h : Far S w w') (hs : ∀ i, S i → S' i) : Far S' w w' := ⟨h.os, h.tape, h.output, h.size, fun i hi hn => h.block i hi fun e => hn (hs i e)⟩
theorem Far.alloc (h : Far S w w') (o : Obj) : Far S w (w'.alloc o) :=
  ⟨h.os, h.tape, h.output, Nat.le_trans h.size (by simp), fun i hi hn => (Below.heap_alloc w' o i (Nat.lt_of_lt_of_le hi h.size)).trans (h.block i hi hn)⟩
theorem Far.set_ (h : Far S w w') {p : Addr} (hp : p.block < w.heap.size → S p.block) (u : Value) : Far S w (w'.setCell p u) :=
  ⟨h.os, h.tape, h.output, by simpa [World.setCell] using h.size, fun i hi hn => (Below.heap_setCell w' p u i (fun e => hn (e ▸ hp (e ▸ hi)))).trans (h.block i hi hn)⟩
theorem Far.drew (h : Far S w w') : Far S w w'.drew := ⟨h.os, h.tape, h.output, h.size, h.block⟩
theorem Far.drewN (h : Far S w w') (n : Nat) : Far S w (w'.drewN n) := ⟨h.os, h.tape, h.output, h.size, h.block⟩
theorem Far.grown {row : Option Nat} (h : Far S w w') (hg : w'.grownBy w'' row) (hr : ∀ k, row = some k → k < w.heap.size → S k) : Far S w w'' :=
  h.trans (S' := fun k => some k = row) ⟨hg.os, hg.tape, hg.output, hg.size, fun k hk hn => hg.block k hk hn⟩ (fun i hi e => hr i e.symm hi)
theorem Far.below (h : Far S w w') {B : Nat} (hB : B ≤ w.heap.size) (hs : ∀ k, k < B → ¬ S k) : Below B w w' :=
  ⟨h.os, h.tape, h.output, h.size, fun k hk => h.block k (Nat.lt_of_lt_of_le hk hB) (hs k hk)⟩
theorem Far.of_below (h : Below w.heap.size w w') (S : Nat → Prop) : Far S w w' := ⟨h.os, h.tape, h.output, h.size, fun k hk _ => h.block k hk⟩
theorem Far.row (h : Far S w w') {base : Nat} {e : TypeId} {size : Nat} {v : Value} {n : Nat} {xs : List Value} (ho : w.ownsRow base e size v n xs) (hn : ∀ k, v.ownBlock = some k → ¬ S k) :
    w'.ownsRow base e size v n xs := by
  refine ⟨ho.1, ?_⟩
  rcases ho.2 with h0 | ⟨g, cap, cur, rfl, hb, hg, rest⟩
  · exact .inl h0
  · refine .inr ⟨g, cap, cur, rfl, hb, ?_, rest⟩
    rw [h.block g (Array.getElem?_eq_some_iff.1 hg).1 (hn g rfl)]
    exact hg
end

/-- Block g is the cells cs of type t, none frozen. -/
def Blk (w : World) (g : Nat) (t : TypeId) (cs : List Value) : Prop := w.heap[g]? = some (.cells cs.toArray t (0, 0))
section
variable {w w' : World} {g : Nat} {t : TypeId} {cs : List Value}
theorem Blk.lt (h : Blk w g t cs) : g < w.heap.size := (Array.getElem?_eq_some_iff.1 h).1
theorem Blk.cell (h : Blk w g t cs) (i : Nat) : w.cell? ⟨g, i, none⟩ = cs[i]? := by simpa using cell_of_row w g i cs.toArray t (0, 0) h
theorem Blk.frozen (h : Blk w g t cs) (i : Nat) : w.frozen? ⟨g, i, none⟩ = false := by
  unfold Blk at h
  simp [World.frozen?, h]
theorem Blk.new (w : World) (t : TypeId) (cs : List Value) : Blk (w.alloc (.cells cs.toArray t)) w.heap.size t cs := heap_alloc_new w _
theorem Blk.alloc (h : Blk w g t cs) (o : Obj) : Blk (w.alloc o) g t cs := (Below.heap_alloc w o g h.lt).trans h
theorem Blk.set_ (h : Blk w g t cs) (i : Nat) (u : Value) : Blk (w.setCell ⟨g, i, none⟩ u) g t (cs.set i u) := by
  unfold Blk at h ⊢
  simp [World.setCell, Array.getElem?_modify, h]
theorem Blk.other (h : Blk w g t cs) {p : Addr} (hp : g ≠ p.block) (u : Value) : Blk (w.setCell p u) g t cs := (Below.heap_setCell w p u g hp).trans h
theorem Blk.far {S : Nat → Prop} (h : Blk w g t cs) (hf : Far S w w') (hn : ¬ S g) : Blk w' g t cs := (hf.block g h.lt hn).trans h
theorem Blk.grown {row : Option Nat} (h : Blk w g t cs) (hg : w.grownBy w' row) (hn : row ≠ some g) : Blk w' g t cs := (hg.block g h.lt (fun e => hn e.symm)).trans h
theorem Blk.apart {g' : Nat} {t' : TypeId} {cs' : List Value} (h : Blk w g t cs) (h' : Blk w g' t' cs') (ht : t ≠ t') : g ≠ g' := by
  rintro rfl
  unfold Blk at h h'
  rw [h] at h'
  injection h' with h'
  injection h' with _ e
  exact ht e
theorem Blk.row_apart {base : Nat} {e : TypeId} {size n : Nat} {v : Value} {xs : List Value} (h : Blk w g t cs) (ho : w.ownsRow base e size v n xs) (ht : t ≠ e) : v.ownBlock ≠ some g := by
  rcases ho.2 with ⟨rfl, _⟩ | ⟨g', cap, cur, rfl, _, hh, _⟩
  · simp [Value.ownBlock]
  · intro he
    obtain rfl : g' = g := by simpa [Value.ownBlock] using he
    unfold Blk at h
    rw [h] at hh
    injection hh with hh
    injection hh with _ e
    exact ht e
end

theorem Addr.add_at (g o i : Nat) : (⟨g, o, none⟩ : Addr).add i = ⟨g, o + i, none⟩ := by unfold Addr.add; split <;> simp_all
theorem Addr.block_add (a : Addr) (n : Nat) : (a.add n).block = a.block := by unfold Addr.add; split <;> rfl
theorem Addr.add_twice (a : Addr) (i j : Nat) : (a.add i).add j = a.add (i + j) := by
  unfold Addr.add
  by_cases hi : i = 0 <;> by_cases hj : j = 0 <;> simp [hi, hj, Nat.add_assoc]

/-- Bytes as cells. -/
def cel (bs : List Int) : List Value := bs.map (Value.int .u8)
theorem cel_length (bs : List Int) : (cel bs).length = bs.length := by simp [cel]
theorem cel_app (a b : List Int) : cel (a ++ b) = cel a ++ cel b := by simp [cel]
theorem cel_one (bs : List Int) : ∀ u ∈ cel bs, u.oneCell' = true := by
  intro u hu
  obtain ⟨z, _, rfl⟩ := List.mem_map.1 hu
  rfl
theorem cel_at (bs : List Int) (k : Nat) (h : k < bs.length) : (cel bs)[k]? = some (.int .u8 (bs.getD k 0)) := by
  simp [cel, List.getD_eq_getElem?_getD, List.getElem?_eq_getElem h]

/-- The slice at A of n elements reads as the bytes bs; nil and empty ones let in. -/
def Byts (w : World) (A : Option Addr) (n : Nat) (bs : List Int) : Prop :=
  bs.length = n ∧ (0 < n → ∃ ad, A = some ad ∧ ∀ k, k < n → w.cell? (ad.add k) = some (.int .u8 (bs.getD k 0)))
section
variable {w w' : World} {A : Option Addr} {n : Nat} {bs : List Int}
theorem Byts.none_ : Byts w A 0 [] := ⟨rfl, fun h => absurd h (by omega)⟩
theorem Byts.at_ (h : Byts w A n bs) {k : Nat} (hk : k < n) : ∃ ad, A = some ad ∧ w.cell? (ad.add k) = some (.int .u8 (bs.getD k 0)) := by
  obtain ⟨ad, e, hc⟩ := h.2 (by omega)
  exact ⟨ad, e, hc k hk⟩
theorem Byts.keep (h : Byts w A n bs) (hk : ∀ ad v, A = some ad → ∀ i, w.cell? (ad.add i) = some v → w'.cell? (ad.add i) = some v) : Byts w' A n bs :=
  ⟨h.1, fun h0 => by
    obtain ⟨ad, rfl, hc⟩ := h.2 h0
    exact ⟨ad, rfl, fun k hk' => hk ad _ rfl _ (hc k hk')⟩⟩
theorem Byts.below (h : Byts w A n bs) (hb : Below w.heap.size w w') : Byts w' A n bs :=
  h.keep fun _ _ _ _ hp => (hb.cell (World.block_lt_of_cell? w _ hp)).trans hp
theorem Byts.far {S : Nat → Prop} (h : Byts w A n bs) (hf : Far S w w') (hn : ∀ ad, A = some ad → ¬ S ad.block) : Byts w' A n bs :=
  h.keep fun ad _ e i hp => (World.cell?_of_block (hf.block _ (World.block_lt_of_cell? w _ hp) (by rw [Addr.block_add]; exact hn ad e))).trans hp
theorem Byts.news (h : Byts w A n bs) {ad : Addr} (hA : A = some ad) : ∀ j u, (cel bs)[j]? = some u → w.cell? (ad.add j) = some u := by
  intro j u hu
  have hj : j < bs.length := by
    have := (List.getElem?_eq_some_iff.1 hu).1
    simpa [cel] using this
  obtain ⟨ad', e, hc⟩ := h.at_ (k := j) (by have := h.1; omega)
  rw [hA] at e
  cases e
  rw [hc, ← cel_at bs j hj, hu]
theorem Byts.of_blk {g : Nat} {t : TypeId} (h : Blk w g t (cel bs)) (off : Nat) (ho : off ≤ bs.length) : Byts w (some ⟨g, off, none⟩) (bs.length - off) (bs.drop off) := by
  refine ⟨by simp, fun _ => ⟨_, rfl, fun k hk => ?_⟩⟩
  rw [Addr.add_at, h.cell, cel_at bs _ (by omega)]
  simp [List.getD_eq_getElem?_getD]
theorem Byts.of_row {base : Nat} {e : TypeId} {v : Value} (h : w.ownsRow base e 1 v n (cel bs)) : ∃ A c, v = .slice A n c ∧ n ≤ c ∧ c ≤ maxLen ∧ Byts w A n bs ∧ v.ownBlock = A.map (·.block) := by
  have hl : bs.length = n := by have := h.1; simpa [cel] using this
  rcases h.2 with ⟨rfl, rfl⟩ | ⟨g, cap, cur, rfl, _, _, hc, hm, _, _⟩
  · exact ⟨none, 0, rfl, Nat.le_refl _, Nat.zero_le _, ⟨hl, fun h0 => absurd h0 (by omega)⟩, rfl⟩
  · refine ⟨_, _, rfl, hc, hm, ⟨hl, fun _ => ⟨_, rfl, fun k hk => ?_⟩⟩, rfl⟩
    exact h.cells (g := g) rfl k _ (cel_at bs k (by omega))
/-- The first k of them. -/
theorem Byts.upto (h : Byts w A n bs) {k : Nat} (hk : k ≤ n) : Byts w A k (bs.take k) := by
  refine ⟨by have := h.1; simp; omega, fun h0 => ?_⟩
  obtain ⟨ad, rfl, hc⟩ := h.2 (by omega)
  refine ⟨ad, rfl, fun j hj => ?_⟩
  rw [hc j (by omega)]
  simp [List.getD_eq_getElem?_getD, hj]
/-- Those from k on. -/
theorem Byts.from_ (h : Byts w A n bs) {k cap : Nat} (hk : k ≤ n) (hc : n ≤ cap) : Byts w (if cap = k then A else A.map (·.add k)) (n - k) (bs.drop k) := by
  refine ⟨by have := h.1; simp; omega, fun h0 => ?_⟩
  obtain ⟨ad, rfl, hcell⟩ := h.2 (by omega)
  rw [if_neg (by omega)]
  refine ⟨ad.add k, rfl, fun j hj => ?_⟩
  rw [Addr.add_twice, hcell _ (by omega)]
  simp [List.getD_eq_getElem?_getD, List.getElem?_drop]
end

theorem setRow_new (w : World) (o : Array Value) (t : TypeId) (cs : Array Value) : (w.alloc (.cells o t)).setRow w.heap.size cs = w.alloc (.cells cs t) := by
  have e : ∀ f : Obj → Obj, (w.heap.push (.cells o t)).modify w.heap.size f = w.heap.push (f (.cells o t)) := fun f => by
    refine Array.ext (by simp) fun i h1 h2 => ?_
    rw [Array.getElem_modify]
    by_cases hi : w.heap.size = i
    · subst hi; simp
    · rw [if_neg hi, Array.getElem_push_lt (by simp at h2; omega), Array.getElem_push_lt (by simp at h2; omega)]
  unfold World.setRow
  show ({ w.alloc (.cells o t) with heap := (w.heap.push (.cells o t)).modify w.heap.size _ } : World) = _
  rw [e]
  rfl

/-- copy into a new row of the same length: the row is the bytes. -/
theorem run_copied {P : Program} (w : World) (t e ty : TypeId) (A : Option Addr) (n c : Nat) (bs : List Int) (hu : P.underlying t = some (.slice e)) (hs : (P.info? e).map (·.size) = some 1) (h : Byts w A n bs) :
    (Builtin.copy_ #[t, t] ty #[.slice (some ⟨w.heap.size, 0, none⟩) n n, .slice A n c]).run P (w.alloc (.cells (madeCells #[.int .u8 0] n) e)) = .ok (goInt n) (w.alloc (.cells (cel bs).toArray e)) := by
  by_cases h0 : n = 0
  · subst h0
    obtain rfl : bs = [] := List.length_eq_zero_iff.1 h.1
    have := run_copy_none (P := P) (w.alloc (.cells (madeCells #[.int .u8 0] 0) e)) t t ty e (some ⟨w.heap.size, 0, none⟩) A 0 0 0 c hu hs rfl
    rw [this, Array.eq_empty_of_size_eq_zero (size_madeCells #[Value.int .u8 0] 0)]
    rfl
  · obtain ⟨ad, rfl, hc⟩ := h.2 (by omega)
    have hsz := size_madeCells #[Value.int .u8 0] n
    have hr := run_copy_row (P := P) (w.alloc (.cells (madeCells #[.int .u8 0] n) e)) t t ty e w.heap.size 0 n n ad n c (madeCells #[.int .u8 0] n) e (cel bs) hu hs (heap_alloc_new w _)
      (by rw [cel_length, h.1]; simp) (fun j v hv => by
        have := h.news rfl j v hv
        rw [World.cell?_alloc_lt _ _ _ (World.block_lt_of_cell? w _ this)]
        exact this) (by rw [cel_length, h.1, hsz]; omega) (cel_one bs)
    rw [hr, setRow_new, cel_length, h.1]
    congr 4
    have hl := h.1
    simp only [List.take_zero, List.nil_append, Nat.zero_add]
    rw [List.drop_of_length_le (by rw [Array.length_toList, hsz]; omega), List.append_nil]

/-- The bytes as a text. -/
theorem run_text {P : Program} (w : World) (t e d : TypeId) (A : Option Addr) (n c : Nat) (bs : List Int) (hu : P.underlying t = some (.slice e)) (he : P.underlying e = some (.int .u8)) (hd : P.underlying d = some .string) (h : Byts w A n bs) :
    (convert t d (.slice A n c)).run P w = .ok (.string (strOfNums bs)) w := by
  rw [run_convert_bytes_string w t d e _ n c hu he hd]
  rcases A with _ | ad
  · obtain rfl : bs = [] := by
      rcases Nat.eq_zero_or_pos n with h0 | h0
      · exact List.length_eq_zero_iff.1 (h.1.trans h0)
      · obtain ⟨_, e, _⟩ := h.2 h0; cases e
    simp [Conv.bytesToString]
    rfl
  · have hl : (loadCells ad n).run P w = .ok (bs.map (Value.int .u8)).toArray w := by
      have := run_loadCells_list (P := P) w ad (cel bs) (h.news rfl)
      rwa [cel_length, h.1] at this
    rw [run_bytesToString w ad n c bs hl, foldl_push_bytes]
    simp [strOfNums, ByteArray.empty, ByteArray.emptyWithCapacity]
    rfl

theorem strOfNums_app (a b : List Int) : strOfNums a ++ strOfNums b = strOfNums (a ++ b) := by
  apply ByteArray.ext
  simp [strOfNums]

/-- append of any bytes (nil let in) onto an own row. -/
theorem run_append_bytes {P : Program} (w : World) (base : Nat) (t ty e : TypeId) (hu : P.underlying t = some (.slice e)) (hi : (P.info? e).map (fun i => (i.zero, i.size, i.bytes)) = some (some (.int .u8 0), 1, 1))
    (v : Value) (n : Nat) (xs : List Int) (hown : w.ownsRow base e 1 v n (cel xs)) (A : Option Addr) (m c : Nat) (bs : List Int) (h : Byts w A m bs) (hn : n + m ≤ 1000000) (hb : base ≤ w.heap.size) :
    ∃ v' w', (Builtin.append_ #[t, t] ty #[v, .slice A m c]).run P w = .ok v' w' ∧ w'.ownsRow base e 1 v' (n + m) (cel (xs ++ bs)) ∧ w.grownBy w' v.ownBlock ∧ (v'.ownBlock = v.ownBlock ∨ v'.ownBlock = some w.heap.size) := by
  obtain ⟨i, hi0, hz0, hz1, hz2⟩ := info_parts hi
  rcases A with _ | ad
  · obtain ⟨rfl, rfl⟩ : m = 0 ∧ bs = [] := by
      rcases Nat.eq_zero_or_pos m with h0 | h0
      · exact ⟨h0, List.length_eq_zero_iff.1 (h.1.trans h0)⟩
      · obtain ⟨_, e, _⟩ := h.2 h0; cases e
    refine ⟨v, w, ?_, by simpa using hown, World.grownBy.refl w _, .inl rfl⟩
    rcases hown.2 with ⟨rfl, rfl⟩ | ⟨g, cap, cur, rfl, _, _, hnc, _⟩
    · simp [Builtin.append_, run_underlying hu, sizeOf, typeInfo, hi0, Builtin.lenOf, Builtin.firstCells]
    · simp [Builtin.append_, run_underlying hu, sizeOf, typeInfo, hi0, Builtin.lenOf, Builtin.firstCells, hnc, storeCells]
  · have hl : (cel bs).length = m * 1 := by rw [cel_length, h.1, Nat.mul_one]
    obtain ⟨v', w', hrun, h2, h3, _, h5⟩ := run_append_own_at (P := P) w base t ty e i (.int .u8 0) 1 1 hu hi0 hz0 hz1 hz2 rfl (by decide) v n (cel xs) hown ad m c (cel bs) hl (h.news rfl) (cel_one bs) (by unfold maxLen; omega) (by omega) hb
    exact ⟨v', w', hrun, by rw [cel_app]; exact h2, h3, h5⟩
end Go.Proofs.Ytfhlgmmfknfamaa.kd
