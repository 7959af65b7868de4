/- What EtherWhom's walk wants: bytes ahead of the twelfth make no difference; append to a slice of a whole array of twelve bytes. Conditions: those of each theorem. -/
import Derived.Test.YtmnakdmmkkombaaAwake
namespace Go.Proofs.Ytmnakdmmkkombaa
open Go.RowKit

theorem look_ext {bs cs : List Int} (hl : cs.length = bs.length) : ∀ k p, (∀ j, p ≤ j → cs.getD j 0 = bs.getD j 0) → look cs k p = look bs k p
  | 0, _, _ => rfl
  | k + 1, p, h => by
    have e : ty cs p = ty bs p := by unfold ty; rw [h p (Nat.le_refl _), h (p + 1) (by omega)]
    rw [look, look, hl, e, look_ext hl k (p + 4) (fun j hj => h j (by omega))]
theorem look_whom {bs wh : List Int} (hw : wh.length = 12) (hb : 12 ≤ bs.length) : look (wh ++ bs.drop 12) 3 12 = look bs 3 12 := by
  refine look_ext (by simp; omega) 3 12 (fun j hj => ?_)
  rw [List.getD_eq_getElem?_getD, List.getD_eq_getElem?_getD, List.getElem?_append_right (by omega), List.getElem?_drop, hw, show 12 + (j - 12) = j by omega]

/-- append to a slice of a whole array: into new memory, unless there is nothing. -/
theorem run_append_whom (w : World) (g : Nat) (wh : List Int) (hb : Blk w g 38 (cel wh)) (h12 : wh.length = 12) (Z : Option Addr) (m c : Nat) (ds : List Int) (h : Byts w Z m ds) (hm : m ≤ 2000) (ty : TypeId) :
    ∃ A' c' w', (Builtin.append_ #[22, 22] ty #[.slice (some ⟨g, 0, none⟩) 12 12, .slice Z m c]).run Try.prog w = .ok (.slice A' (12 + m) c') w' ∧ 12 + m ≤ c' ∧ Byts w' A' (12 + m) (wh ++ ds) ∧ Below w.heap.size w w' := by
  obtain ⟨i, hi0, hz0, hz1, hz2⟩ := info_parts info5
  rcases Nat.eq_zero_or_pos m with rfl | h0
  · obtain rfl : ds = [] := List.length_eq_zero_iff.1 h.1
    refine ⟨some ⟨g, 0, none⟩, 12, w, ?_, Nat.le_refl _, ?_, Below.refl _ _⟩
    · rcases Z with _ | ad
      · simp [Builtin.append_, run_underlying Try.underlying22, sizeOf, typeInfo, hi0, Builtin.lenOf, Builtin.firstCells, storeCells]
      · have hlc : (loadCells ad 0).run Try.prog w = .ok #[] w := by simpa using run_loadCells_list (P := Try.prog) w ad [] (fun j u hu => by simp at hu)
        simp [Builtin.append_, run_underlying Try.underlying22, sizeOf, typeInfo, hi0, Builtin.lenOf, Builtin.firstCells, storeCells, hlc]
    · rw [List.append_nil]
      exact Byts.of_all hb h12
  · obtain ⟨ad, rfl, _⟩ := h.2 h0
    have hr := run_append_grow (P := Try.prog) w 22 ty 5 i (.int .u8 0) Try.underlying22 hi0 hz0 ⟨g, 0, none⟩ 12 12 (cel wh) (by rw [cel_length, h12, hz1]) (fun j u hj => by
      rw [Addr.add_at, hb.cell, Nat.zero_add]
      exact hj) ad m c (cel ds) (by rw [cel_length, h.1, hz1, Nat.mul_one]) (h.news rfl) (by omega) (by omega) (by
        rw [hz2]
        unfold Builtin.nextslicecap
        split
        · omega
        · rw [if_pos (by decide)]
          omega)
    have hge := grownCap_ge w (12 + m) 12 5
    generalize grownCap w (12 + m) 12 5 = G at *
    generalize Builtin.zeroCells (Value.int .u8 0).cells (G - (12 + m)) = Z at *
    have hl := h.1
    refine ⟨_, _, _, hr, hge, ⟨by simp; omega, fun _ => ⟨_, rfl, fun k hk => ?_⟩⟩, ((Below.refl _ _).drew).alloc (Nat.le_refl _) _⟩
    have e : (cel wh).toArray ++ (cel ds).toArray ++ Z = (cel (wh ++ ds) ++ Z.toList).toArray := by simp [cel_app]
    rw [e, Addr.add_at, Nat.zero_add]
    have hbk : Blk (w.drew.alloc (.cells (cel (wh ++ ds) ++ Z.toList).toArray 5)) w.heap.size 5 (cel (wh ++ ds) ++ Z.toList) := Blk.new w.drew 5 _
    rw [hbk.cell, List.getElem?_append_left (by rw [cel_length]; simp; omega), cel_at _ _ (by simp; omega)]

/-- The same as an operation of a region that draws. -/
theorem step_whom {ops : Array Oper} {o : Oper} {a : Act} {w : World} {K : Act → World → Prop} {Q : Exit → Act → World → Prop} {E : Prop} (hgd : o.guard = none) (s x : Operand)
    (ho : o.op = .call { callee := .builtin .append, args := #[s, x], argTypes := #[22, 22] }) (g : Nat) (wh : List Int) (hs : a.eval s = .slice (some ⟨g, 0, none⟩) 12 12) (hb : Blk w g 38 (cel wh)) (h12 : wh.length = 12)
    (Z : Option Addr) (m c : Nat) (ds : List Int) (hx : a.eval x = .slice Z m c) (h : Byts w Z m ds) (hm : m ≤ 2000) (n : Nat) (hn : 12 + m = n)
    (hK : ∀ A' c' w', n ≤ c' → Hid (Byts w' A' n (wh ++ ds)) → Hid (Below w.heap.size w w') → K (a.put o.dst (.slice A' n c')) w') : if Region.wanted o (yielded ops a.tmps) = true then Oper.wp Try.prog o a w K Q else E := by
  subst hn
  have hw : Region.wanted o (yielded ops a.tmps) = true := by simp [Region.wanted, hgd]
  rw [if_pos hw]
  obtain ⟨A', c', w', hrun, h1, h2, h3⟩ := run_append_whom w g wh hb h12 Z m c ds h hm o.type
  unfold Oper.wp
  simp [execOp, ho, resolve, invoke, builtin, hs, hx, hrun, Result.andThen]
  exact hK A' c' w' h1 h2 h3
end Go.Proofs.Ytmnakdmmkkombaa
