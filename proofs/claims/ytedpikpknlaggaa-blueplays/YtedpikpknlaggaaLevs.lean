/- The document's levels of bins while they are made: a row of slices, each a row of bins. Conditions: those of each theorem. -/
import Derived.Test.YtedpikpknlaggaaDocOf
namespace Go.Proofs.Ytedpikpknlaggaa
open Go.RowKit

theorem info62 : (Try.prog.info? 62).map (fun i => (i.zero, i.size, i.bytes)) = some (some (.slice none 0 0), 1, 24) := by kernel_rfl
def dheads (q cp : Nat → Nat) (m k : Nat) : List Value := (List.range k).map fun l => Value.slice (some ⟨q l, 0, none⟩) m (cp l)
theorem dheads_congr {q q' cp cp' : Nat → Nat} {m k : Nat} (h : ∀ l, l < k → q l = q' l ∧ cp l = cp' l) : dheads q cp m k = dheads q' cp' m k := by
  unfold dheads
  apply List.map_congr_left
  intro i hi
  rw [(h i (List.mem_range.1 hi)).1, (h i (List.mem_range.1 hi)).2]
theorem dheads_snoc (q cp : Nat → Nat) (m k : Nat) : dheads q cp m (k + 1) = dheads q cp m k ++ [.slice (some ⟨q k, 0, none⟩) m (cp k)] := by simp [dheads, List.range_succ]
/-- Rows of other types lie elsewhere. -/
theorem rows_apart {w : World} {base base' : Nat} {e e' : TypeId} {size size' n n' : Nat} {v v' : Value} {xs xs' : List Value} (h : w.ownsRow base e size v n xs) (h' : w.ownsRow base' e' size' v' n' xs') (ht : e ≠ e') : v.ownBlock = none ∨ v.ownBlock ≠ v'.ownBlock := by
  rcases h.2 with ⟨rfl, _⟩ | ⟨g, cap, cur, rfl, _, hg, _⟩
  · exact .inl rfl
  · right
    intro he
    rcases h'.2 with ⟨rfl, _⟩ | ⟨g', cap', cur', rfl, _, hg', _⟩
    · simp [Value.ownBlock] at he
    · obtain rfl : g = g' := by simpa [Value.ownBlock] using he
      rw [hg] at hg'
      injection hg' with hg'
      injection hg' with _ e1
      exact ht e1
structure LevD (W : World) (base : Nat) (v : Value) (q cp : Nat → Nat) (m k : Nat) (f : Bins) : Prop where
  row : W.ownsRow base 62 1 v k (dheads q cp m k)
  lev : ∀ l, l < k → W.ownsRow base 66 3 (.slice (some ⟨q l, 0, none⟩) m (cp l)) m (cel true (f l) m)
section
variable {w w' : World} {base m k : Nat} {v : Value} {q cp : Nat → Nat} {f : Bins}
theorem LevD.far {S : Nat → Prop} (h : LevD w base v q cp m k f) (hf : Far S w w') (hs : ∀ i, base ≤ i → i < w.heap.size → ¬ S i) : LevD w' base v q cp m k f :=
  ⟨hf.row h.row (fun i e => hs i (h.row.lt i e).1 (h.row.lt i e).2), fun l hl => hf.row (h.lev l hl) (fun i e => hs i ((h.lev l hl).lt i e).1 ((h.lev l hl).lt i e).2)⟩
theorem LevD.below (h : LevD w base v q cp m k f) (hb : Below w.heap.size w w') : LevD w' base v q cp m k f := h.far (Far.of_below hb nobody) (fun _ _ _ e => e)
theorem LevD.nil : LevD w base (.slice none 0 0) (fun _ => 0) (fun _ => 0) m 0 f := ⟨World.ownsRow_nil _ _ _ _, fun l hl => absurd hl (by omega)⟩
/-- One more level. -/
theorem LevD.more {v' : Value} {gx cx : Nat} (h : LevD w base v q cp m k f) (ho : w'.ownsRow base 62 1 v' (k + 1) (dheads q cp m k ++ [.slice (some ⟨gx, 0, none⟩) m cx])) (hg : w.grownBy w' v.ownBlock) (hx : w.ownsRow base 66 3 (.slice (some ⟨gx, 0, none⟩) m cx) m (cel true (f k) m)) :
    ∃ q' cp', LevD w' base v' q' cp' m (k + 1) f := by
  refine ⟨fun l => if l = k then gx else q l, fun l => if l = k then cx else cp l, ?_, fun l hl => ?_⟩
  · rw [dheads_snoc, if_pos rfl, if_pos rfl, dheads_congr (q' := q) (cp' := cp) (fun l hl => by rw [if_neg (by omega), if_neg (by omega)]; exact ⟨rfl, rfl⟩)]
    exact ho
  · by_cases e : l = k
    · subst e
      rw [if_pos rfl, if_pos rfl]
      exact hx.kept hg (rows_apart hx h.row (by decide))
    · rw [if_neg e, if_neg e]
      exact (h.lev l (by omega)).kept hg (rows_apart (h.lev l (by omega)) h.row (by decide))
theorem LevD.done (h : LevD w base v q cp m k f) (hk : 1 ≤ k) : ∃ A c, v = .slice A k c ∧ DocAt (fun i => base ≤ i) w A k m f := by
  rcases h.row.2 with ⟨_, h0⟩ | ⟨s, cap, cur, rfl, hs, _⟩
  · omega
  · refine ⟨_, cap, rfl, s, q, cp, rfl, hs, fun l hl => ?_⟩
    have h1 := h.row.cells (g := s) rfl l (.slice (some ⟨q l, 0, none⟩) m (cp l)) (by simp [dheads, hl])
    rw [Addr.add_at, Nat.zero_add] at h1
    refine ⟨h1, ((h.lev l hl).lt (q l) rfl).1, fun i hi => ?_⟩
    obtain ⟨u, hu⟩ := Option.isSome_iff_exists.1 (cel_is (r := true) (f := f l) hi)
    have h2 := (h.lev l hl).cells (g := q l) rfl i u hu
    rw [Addr.add_at, Nat.zero_add] at h2
    rw [h2, hu]
end
/-- A level that was made at once. -/
theorem made_level {w : World} {base m : Nat} (hb : base ≤ w.heap.size) (hm : m ≤ 64) : (w.alloc (.cells (madeCells #[.int .i64 0, .int .i64 0, .int .i64 0] (m * 3)) 66)).ownsRow base 66 3 (.slice (some ⟨w.heap.size, 0, none⟩) m m) m (cel true (fun _ => bin0) m) := by
  refine ⟨cel_length _ _ _, .inr ⟨w.heap.size, m, _, rfl, hb, heap_alloc_new w _, Nat.le_refl _, by unfold maxLen; omega, size_madeCells _ _, ?_⟩⟩
  rw [cel_zero true, List.take_of_length_le (by rw [cel_length]; omega)]
theorem LevD.congr {w : World} {base m k : Nat} {v : Value} {q cp : Nat → Nat} {f f' : Bins} (h : LevD w base v q cp m k f) (he : ∀ l i, l < k → i < m → f l i = f' l i) : LevD w base v q cp m k f' :=
  ⟨h.row, fun l hl => by rw [← cel_congr (fun i hi => he l i hl hi)]; exact h.lev l hl⟩
/-- append of a level onto the row of levels, as a run. -/
theorem run_append_level (w : World) (base k : Nat) (v : Value) (xs : List Value) (b : Nat) (u : Value) (hown : w.ownsRow base 62 1 v k xs) (hb : Blk w b 62 [u]) (hu : u.oneCell' = true) (hk : k ≤ 100) (hs : base ≤ w.heap.size) :
    ∃ v' w', (Builtin.append_ #[34, 34] 34 #[v, .slice (some ⟨b, 0, none⟩) 1 1]).run Try.prog w = .ok v' w' ∧ w'.ownsRow base 62 1 v' (k + 1) (xs ++ [u]) ∧ w.grownBy w' v.ownBlock := by
  obtain ⟨v', w', hrun, h2, h3, _⟩ := run_append_vals (P := Try.prog) w base 34 34 62 (.slice none 0 0) 24 Try.underlying34 info62 rfl v k xs hown (some ⟨b, 0, none⟩) 1 1 [u] (Vals.of_blk hb rfl) (by intro x hx; simp at hx; subst hx; exact hu) (by omega) (by omega) hs
  exact ⟨v', w', hrun, h2, h3⟩
/-- .. as a step of a walk. -/
theorem wpList_app {w w' : World} {ops : Array Oper} {rest : List Oper} {o : Oper} {a : Act} {Q : Exit → Act → World → Prop} (hgd : o.guard = none) (tt : TypeId) (s x : Operand)
    (ho : o.op = .call { callee := .builtin .append, args := #[s, x], argTypes := #[tt, tt] }) (S X V : Value) (hs : a.eval s = S) (hx : a.eval x = X) (hrun : (Builtin.append_ #[tt, tt] o.type #[S, X]).run Try.prog w = .ok V w')
    (hK : wpList Try.prog ops Q rest (a.put o.dst V) w') : wpList Try.prog ops Q (o :: rest) a w := by
  refine wpList_plain hgd fun K hK' => ?_
  unfold Oper.wp
  simp [execOp, ho, resolve, invoke, builtin, hs, hx, hrun, Result.andThen]
  exact hK' _ _ hK
end Go.Proofs.Ytedpikpknlaggaa
