/- Steps that several walks of cursor's laws share. Conditions: those of each theorem. -/
import Derived.Test.YtgbnpfaplaolcaaWakes
namespace Go.Proofs.Ytgbnpfaplaolcaa
open Go.RowKit

theorem below_only {B g : Nat} {w0 w w' : World} (h : Below B w0 w) (hf : Far (only g) w w') (hg : B ≤ g) (hB : B ≤ w.heap.size) : Below B w0 w' :=
  h.trans (hf.below hB (fun k hk e => by unfold only at e; omega))
theorem below_out {B g : Nat} {r : Option Nat} {w0 w w' : World} (h : Below B w0 w) (hf : Far (outS g r) w w') (hg : B ≤ g) (hr : ∀ k, r = some k → B ≤ k) (hB : B ≤ w.heap.size) : Below B w0 w' :=
  h.trans (hf.below hB (fun k hk e => by
    rcases e with e | e
    · omega
    · have := hr k e; omega))

/-- append of bytes onto an own row, its length and its bytes told. -/
theorem wpList_app_to {w : World} {ops : Array Oper} {rest : List Oper} {o : Oper} {a : Act} {Q : Exit → Act → World → Prop} (hgd : o.guard = none) (s x : Operand)
    (ho : o.op = .call { callee := .builtin .append, args := #[s, x], argTypes := #[23, 23] })
    (base : Nat) (v : Value) (n : Nat) (xs : List Int) (hs : a.eval s = v) (hown : w.ownsRow base 5 1 v n (cel xs))
    (A : Option Addr) (m c : Nat) (bs : List Int) (hx : a.eval x = .slice A m c) (h : Byts w A m bs) (k : Nat) (hk : n + m = k) (zs : List Int) (hz : xs ++ bs = zs) (hn : k ≤ 1000000) (hb : base ≤ w.heap.size)
    (hK : ∀ A' c' w', Hid (w'.ownsRow base 5 1 (.slice A' k c') k (cel zs)) → Hid (w.grownBy w' v.ownBlock) → Hid ((Value.slice A' k c').ownBlock = v.ownBlock ∨ (Value.slice A' k c').ownBlock = some w.heap.size) →
      wpList Try.prog ops Q rest (a.put o.dst (.slice A' k c')) w') : wpList Try.prog ops Q (o :: rest) a w := by
  subst hk hz
  exact wpList_app hgd s x ho base v n xs hs hown A m c bs hx h hn hb hK

theorem Byts.of_own {w : World} {base : Nat} {e : TypeId} {A : Option Addr} {n c : Nat} {bs : List Int} (h : w.ownsRow base e 1 (.slice A n c) n (cel bs)) : Byts w A n bs := by
  obtain ⟨A', c', e, _, _, h', _⟩ := Byts.of_row h
  cases e
  exact h'
theorem Byts.of_all {w : World} {g : Nat} {t : TypeId} {bs : List Int} {n : Nat} (h : Blk w g t (cel bs)) (hl : bs.length = n) : Byts w (some ⟨g, 0, none⟩) n bs := by
  subst hl
  simpa using Byts.of_blk h 0 (Nat.zero_le _)
/-- Bytes as a text, where they are read. -/
theorem text_is {w : World} {A : Option Addr} {n : Nat} (c : Nat) {bs : List Int} (h : Byts w A n bs) : (convert 23 9 (.slice A n c)).run Try.prog w = .ok (.string (strOfNums bs)) w :=
  run_text (P := Try.prog) w 23 5 9 A n c bs Try.underlying23 Try.underlying5 Try.underlying9 h
end Go.Proofs.Ytgbnpfaplaolcaa
