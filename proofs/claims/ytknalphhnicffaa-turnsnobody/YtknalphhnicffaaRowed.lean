/- The program's turns beside a row of numbers of the law's own that grows. Conditions: those of each theorem. -/
import Derived.Test.YtknalphhnicffaaNobodyWalk
namespace Go.Proofs.Ytknalphhnicffaa
open Go.RowKit

theorem info3 : (Try.prog.info? 3).map (fun i => (i.zero, i.size, i.bytes)) = some (some (.int .i64 0), 1, 8) := by kernel_rfl
/-- append of numbers onto an own row, its length and its numbers told. -/
theorem wpList_appI {w : World} {ops : Array Oper} {rest : List Oper} {o : Oper} {a : Act} {Q : Exit → Act → World → Prop} (hgd : o.guard = none) (s x : Operand)
    (ho : o.op = .call { callee := .builtin .append, args := #[s, x], argTypes := #[30, 30] })
    (base : Nat) (v : Value) (n : Nat) (xs : List Int) (hs : a.eval s = v) (hown : w.ownsRow base 3 1 v n (ints xs))
    (A : Option Addr) (m c : Nat) (bs : List Int) (hx : a.eval x = .slice A m c) (h : Vals w A m (ints bs)) (k : Nat) (hk : n + m = k) (zs : List Int) (hz : xs ++ bs = zs) (hn : k ≤ 1000000) (hb : base ≤ w.heap.size)
    (hK : ∀ A' c' w', Hid (w'.ownsRow base 3 1 (.slice A' k c') k (ints zs)) → Hid (w.grownBy w' v.ownBlock) → Hid (Value.ownBlock (.slice A' k c') = v.ownBlock ∨ Value.ownBlock (.slice A' k c') = some w.heap.size) → wpList Try.prog ops Q rest (a.put o.dst (.slice A' k c')) w') : wpList Try.prog ops Q (o :: rest) a w := by
  subst hk hz
  refine wpList_plain hgd fun K hK' => ?_
  obtain ⟨v', w', hrun, h2, h3, h5⟩ := run_append_vals (P := Try.prog) w base 30 o.type 3 (.int .i64 0) 8 Try.underlying30 info3 rfl v n (ints xs) hown A m c (ints bs) h (ints_one bs) hn (by omega) hb
  rw [← ints_app] at h2
  obtain ⟨A', c', rfl, _⟩ := Vals.of_row h2
  unfold Oper.wp
  simp [execOp, ho, resolve, invoke, builtin, hs, hx, hrun, Result.andThen]
  exact hK' _ _ (hK A' c' w' h2 h3 h5)
/-- What f lets in, but for the row. -/
def apart (f : Nat → Prop) (r : Option Nat) : Nat → Prop := fun k => f k ∧ some k ≠ r
/-- The program's turns and a row. -/
structure Ro (At : (Nat → Prop) → World → Nat → Nat → Nat → List Cls → Prop) (f : Nat → Prop) (base g n Q : Nat) (L : List Cls) (v : Value) (m : Nat) (zs : List Int) (w : World) : Prop where
  at_ : At (apart f v.ownBlock) w g n Q L
  row : w.ownsRow base 3 1 v m (ints zs)
  all : ∀ k, w.heap.size ≤ k → f k
  le : base ≤ w.heap.size
section
variable {At : (Nat → Prop) → World → Nat → Nat → Nat → List Cls → Prop} {f : Nat → Prop} {base g n Q : Nat} {L L' : List Cls} {v : Value} {m : Nat} {zs : List Int} {w w' : World}
theorem Ro.room (h : Ro At f base g n Q L v m zs w) : ∀ k, w.heap.size ≤ k → apart f v.ownBlock k := fun k hk => ⟨h.all k hk, fun e => by have := (h.row.lt k e.symm).2; omega⟩
/-- The program has turned. -/
theorem Ro.turn (h : Ro At f base g n Q L v m zs w) (ha : At (apart f v.ownBlock) w' g n Q L') (hf : Far (apart f v.ownBlock) w w') : Ro At f base g n Q L' v m zs w' :=
  ⟨ha, hf.row h.row (fun _ hk e => e.2 hk.symm), fun k hk => h.all k (Nat.le_trans hf.size hk), Nat.le_trans h.le hf.size⟩
theorem Ro.below (h : Ro At f base g n Q L v m zs w) (P : Prog At) (hb : Below w.heap.size w w') : Ro At f base g n Q L v m zs w' :=
  ⟨P.below h.at_ hb, (Far.of_below hb nobody).row h.row (fun _ _ e => e), fun k hk => h.all k (Nat.le_trans hb.size hk), Nat.le_trans h.le hb.size⟩
/-- The row as heads. -/
theorem Ro.vals {A : Option Addr} {c : Nat} (h : Ro At f base g n Q L (.slice A m c) m zs w) : Vals w A m (ints zs) := Vals.of_own h.row
theorem Ro.notrow {A : Option Addr} {c : Nat} (_h : Ro At f base g n Q L (.slice A m c) m zs w) : ∀ ad, A = some ad → 0 < m → ¬ apart f (Value.ownBlock (.slice A m c)) ad.block := fun ad e _ h => by
  subst e
  exact h.2 rfl
theorem Ro.len (h : Ro At f base g n Q L v m zs w) : zs.length = m := by have := h.row.1; rw [ints_length] at this; omega
/-- The row has grown. -/
theorem Ro.grown {v' : Value} {m' : Nat} {zs' : List Int} (h : Ro At f base g n Q L v m zs w) (P : Prog At) (h1 : w'.ownsRow base 3 1 v' m' (ints zs')) (h2 : w.grownBy w' v.ownBlock) (h3 : v'.ownBlock = v.ownBlock ∨ v'.ownBlock = some w.heap.size) : Ro At f base g n Q L v' m' zs' w' := by
  have hF : Far (fun k => some k = v.ownBlock) w w' := ⟨h2.os, h2.tape, h2.output, h2.size, fun k hk hn => h2.block k hk hn⟩
  have ha : At (apart (apart f v.ownBlock) v'.ownBlock) w g n Q L := P.weak h.at_ (fun k hk hb => ⟨hb, fun e => by
    rcases h3 with h3 | h3
    · rw [h3] at e; exact hb.2 e
    · rw [h3] at e; injection e with e; omega⟩)
  refine ⟨P.weak (P.far ha hF (fun k hb e => hb.1.2 e)) (fun k _ hb => ⟨hb.1.1, hb.2⟩), h1, fun k hk => h.all k (Nat.le_trans h2.size hk), Nat.le_trans h.le h2.size⟩
theorem Ro.new (P : Prog At) (h : At f w g n Q L) (ha : ∀ k, w.heap.size ≤ k → f k) (hb : base ≤ w.heap.size) : Ro At f base g n Q L (.slice none 0 0) 0 [] w :=
  ⟨P.weak h (fun k _ hk => ⟨hk, by simp [Value.ownBlock]⟩), World.ownsRow_nil w base 3 1, ha, hb⟩
end
end Go.Proofs.Ytknalphhnicffaa
