/- Rows of numbers: append of numbers onto an own row; the numbers of places, one behind the other. Conditions: those of each theorem. -/
import Derived.Test.YtmkegonlepkhdaaIns
namespace Go.Proofs.Ytmkegonlepkhdaa
open Go.RowKit

def ints (zs : List Int) : List Value := zs.map (Value.int .i64)
theorem ints_length (zs : List Int) : (ints zs).length = zs.length := by simp [ints]
theorem ints_app (a b : List Int) : ints (a ++ b) = ints a ++ ints b := by simp [ints]
theorem info3 : (Try.prog.info? 3).map (fun i => (i.zero, i.size, i.bytes)) = some (some (.int .i64 0), 1, 8) := by kernel_rfl
theorem ints_one (zs : List Int) : ∀ u ∈ ints zs, u.oneCell' = true := by
  intro u hu
  obtain ⟨z, _, rfl⟩ := List.mem_map.1 hu
  rfl
/-- append of numbers onto an own row, its length and its numbers told. -/
theorem wpList_app {w : World} {ops : Array Oper} {rest : List Oper} {o : Oper} {a : Act} {Q : Exit → Act → World → Prop} (hgd : o.guard = none) (s x : Operand)
    (ho : o.op = .call { callee := .builtin .append, args := #[s, x], argTypes := #[31, 31] })
    (base : Nat) (v : Value) (n : Nat) (xs : List Int) (hs : a.eval s = v) (hown : w.ownsRow base 3 1 v n (ints xs))
    (A : Option Addr) (m c : Nat) (bs : List Int) (hx : a.eval x = .slice A m c) (h : Vals w A m (ints bs)) (k : Nat) (hk : n + m = k) (zs : List Int) (hz : xs ++ bs = zs) (hn : k ≤ 1000000) (hb : base ≤ w.heap.size)
    (hK : ∀ A' c' w', Hid (w'.ownsRow base 3 1 (.slice A' k c') k (ints zs)) → Hid (w.grownBy w' v.ownBlock) → Hid ((Value.slice A' k c').ownBlock = v.ownBlock ∨ (Value.slice A' k c').ownBlock = some w.heap.size) →
      wpList Try.prog ops Q rest (a.put o.dst (.slice A' k c')) w') : wpList Try.prog ops Q (o :: rest) a w := by
  subst hk hz
  refine wpList_plain hgd fun K hK' => ?_
  obtain ⟨v', w', hrun, h2, h3, h4⟩ := run_append_vals (P := Try.prog) w base 31 o.type 3 (.int .i64 0) 8 Try.underlying31 info3 rfl v n (ints xs) hown A m c (ints bs) h (ints_one bs) hn (by omega) hb
  rw [← ints_app] at h2
  obtain ⟨A', c', rfl, _⟩ := Vals.of_row h2
  unfold Oper.wp
  simp [execOp, ho, resolve, invoke, builtin, hs, hx, hrun, Result.andThen]
  exact hK' _ _ (hK A' c' w' h2 h3 h4)

/-- The first k numbers of places. -/
def ats (At : Nat → Nat) (k : Nat) : List Int := (List.range k).map fun j => (At j : Int)
theorem ats_length (At : Nat → Nat) (k : Nat) : (ats At k).length = k := by simp [ats]
/-- One more. -/
def more (At : Nat → Nat) (k p : Nat) : Nat → Nat := fun j => if j = k then p else At j
theorem ats_more (At : Nat → Nat) (k p : Nat) : ats At k ++ [(p : Int)] = ats (more At k p) (k + 1) := by
  unfold ats
  rw [List.range_succ, List.map_append]
  congr 1
  · refine List.map_congr_left fun j hj => ?_
    have := List.mem_range.1 hj
    simp [more, show j ≠ k by omega]
  · simp [more]
theorem ats_at {At : Nat → Nat} {k j : Nat} (h : j < k) : (ints (ats At k))[j]? = some (.int .i64 (At j : Nat)) := by simp [ints, ats, h]
theorem Vals.shape {w : World} {base : Nat} {v : Value} {n : Nat} {vs : List Value} (h : w.ownsRow base 3 1 v n vs) : ∃ A c, v = .slice A n c ∧ n ≤ c ∧ Vals w A n vs ∧ v.ownBlock = A.map (·.block) := by
  obtain ⟨A, c, h1, h2, _, h4, h5, _⟩ := Vals.of_row h
  exact ⟨A, c, h1, h2, h4, h5⟩
end Go.Proofs.Ytmkegonlepkhdaa
