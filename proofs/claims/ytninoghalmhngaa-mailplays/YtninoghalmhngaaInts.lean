/- Numbers as values, and append of such onto an own row; Put and Take in one form each. Conditions: those of each theorem. -/
import Derived.Test.YtninoghalmhngaaSelects
namespace Go.Proofs.Ytninoghalmhngaa
open Go.RowKit

/-- Numbers, as values. -/
def ints (zs : List Int) : List Value := zs.map (Value.int .i64)
theorem ints_length (zs : List Int) : (ints zs).length = zs.length := by simp [ints]
theorem ints_app (a b : List Int) : ints (a ++ b) = ints a ++ ints b := by simp [ints]
theorem ints_at {zs : List Int} {k : Nat} (h : k < zs.length) : (ints zs)[k]? = some (.int .i64 (zs.getD k 0)) := by
  simp [ints, List.getD, List.getElem?_eq_getElem h]
theorem take_snoc {zs : List Int} {k : Nat} (h : k < zs.length) : zs.take k ++ [zs.getD k 0] = zs.take (k + 1) := by
  rw [List.take_add_one]
  simp [List.getD, List.getElem?_eq_getElem h]
theorem drop_at {zs : List Int} {k : Nat} (h : k < zs.length) : zs.drop k = zs.getD k 0 :: zs.drop (k + 1) := by
  rw [List.drop_eq_getElem_cons h]
  simp [List.getD, List.getElem?_eq_getElem h]
theorem info3 : (Try.prog.info? 3).map (fun i => (i.zero, i.size, i.bytes)) = some (some (.int .i64 0), 1, 8) := by kernel_rfl
theorem ints_one (zs : List Int) : ∀ u ∈ ints zs, u.oneCell' = true := by
  intro u hu
  obtain ⟨z, _, rfl⟩ := List.mem_map.1 hu
  rfl
/-- append of numbers onto an own row, its length and its numbers told. -/
theorem wpList_app {w : World} {ops : Array Oper} {rest : List Oper} {o : Oper} {a : Act} {Q : Exit → Act → World → Prop} (hgd : o.guard = none) (s x : Operand)
    (ho : o.op = .call { callee := .builtin .append, args := #[s, x], argTypes := #[31, 31] })
    (base : Nat) (v : Value) (n : Nat) (xs : List Int) (hs : a.eval s = v) (hown : w.ownsRow base 3 1 v n (ints xs))
    (A : Option Addr) (m c : Nat) (bs : List Int) (hx : a.eval x = .slice A m c) (h : Vals w A m (ints bs)) (k : Nat) (hk : n + m = k) (zs : List Int) (hz : xs ++ bs = zs) (hn : k ≤ 1000000) (hb : base ≤ w.heap.size)
    (hK : ∀ A' c' w', Hid (w'.ownsRow base 3 1 (.slice A' k c') k (ints zs)) → Hid (w.grownBy w' v.ownBlock) → Hid ((Value.slice A' k c').ownBlock = v.ownBlock ∨ (Value.slice A' k c').ownBlock = some w.heap.size) →
      wpList Try.prog ops Q rest (a.put o.dst (.slice A' k c')) w') : wpList Try.prog ops Q (o :: rest) a w := by
  subst hk hz
  refine wpList_plain hgd fun K hK' => ?_
  obtain ⟨v', w', hrun, h2, h3, h4⟩ := run_append_vals (P := Try.prog) w base 31 o.type 3 (.int .i64 0) 8 Try.underlying31 info3 rfl v n (ints xs) hown A m c (ints bs) h (ints_one bs) hn (by omega) hb
  rw [← ints_app] at h2
  obtain ⟨A', c', rfl, _⟩ := Vals.of_row h2
  unfold Oper.wp
  simp [execOp, ho, resolve, invoke, builtin, hs, hx, hrun, Result.andThen]
  exact hK' _ _ (hK A' c' w' h2 h3 h4)
/-- The same as one step of a region that draws its order. -/
theorem step_app {ops : Array Oper} {o : Oper} {a : Act} {w : World} {K : Act → World → Prop} {Q : Exit → Act → World → Prop} {E : Prop} (hgd : o.guard = none) (s x : Operand)
    (ho : o.op = .call { callee := .builtin .append, args := #[s, x], argTypes := #[31, 31] })
    (base : Nat) (v : Value) (n : Nat) (xs : List Int) (hs : a.eval s = v) (hown : w.ownsRow base 3 1 v n (ints xs))
    (A : Option Addr) (m c : Nat) (bs : List Int) (hx : a.eval x = .slice A m c) (h : Vals w A m (ints bs)) (k : Nat) (hk : n + m = k) (zs : List Int) (hz : xs ++ bs = zs) (hn : k ≤ 1000000) (hb : base ≤ w.heap.size)
    (hK : ∀ A' c' w', Hid (w'.ownsRow base 3 1 (.slice A' k c') k (ints zs)) → Hid (w.grownBy w' v.ownBlock) → Hid ((Value.slice A' k c').ownBlock = v.ownBlock ∨ (Value.slice A' k c').ownBlock = some w.heap.size) →
      K (a.put o.dst (.slice A' k c')) w') : if Region.wanted o (yielded ops a.tmps) = true then Oper.wp Try.prog o a w K Q else E := by
  subst hk hz
  have hw : Region.wanted o (yielded ops a.tmps) = true := by simp [Region.wanted, hgd]
  rw [if_pos hw]
  obtain ⟨v', w', hrun, h2, h3, h4⟩ := run_append_vals (P := Try.prog) w base 31 o.type 3 (.int .i64 0) 8 Try.underlying31 info3 rfl v n (ints xs) hown A m c (ints bs) h (ints_one bs) hn (by omega) hb
  rw [← ints_app] at h2
  obtain ⟨A', c', rfl, _⟩ := Vals.of_row h2
  unfold Oper.wp
  simp [execOp, ho, resolve, invoke, builtin, hs, hx, hrun, Result.andThen]
  exact hK A' c' w' h2 h3 h4

/-- Put, whether there is room or not. -/
theorem put_any (g c n : Nat) (B : Nat → Prop) (vs : List Int) (x : Int) (w : World) (h : BoxAt w g c n B vs) (hB : ¬ B w.heap.size) : Calls Try.prog 10 #[.pointer (some ⟨g, 0, none⟩), .int .i64 x] w fun e w' => e = .returned (.bool (decide (vs.length < n))) ∧ BoxAt w' g c n B (if vs.length < n then vs ++ [x] else vs) ∧ Far (only c) w w' := by
  by_cases hr : vs.length < n
  · rw [if_pos hr, decide_eq_true hr]
    exact put_room g c n B vs x w h hr hB
  · rw [if_neg hr, decide_eq_false hr]
    exact put_full g c n B vs x w h (by have := h.fits; omega)
/-- Take, whether there is something or not. -/
theorem take_any (g c n : Nat) (B : Nat → Prop) (vs : List Int) (w : World) (h : BoxAt w g c n B vs) : Calls Try.prog 12 #[.pointer (some ⟨g, 0, none⟩)] w fun e w' => e = .returned (.tuple #[.int .i64 (vs.headD 0), .bool (decide (0 < vs.length))]) ∧ BoxAt w' g c n B vs.tail ∧ Far (only c) w w' := by
  rcases vs with _ | ⟨v, vs⟩
  · refine (take_none g c n B w h).mono ?_
    rintro e w' ⟨rfl, rfl⟩
    exact ⟨rfl, h, Far.refl _ _⟩
  · exact take_some g c n B v vs w h
end Go.Proofs.Ytninoghalmhngaa
