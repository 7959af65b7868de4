/- A slice of acts that came in. Conditions: those of each theorem. -/
import Derived.Test.YtlbloopiajjpfaaRows
import Derived.Test.YtlbloopiajjpfaaMem
import Derived.Test.YtlbloopiajjpfaaOpens
import Derived.ProofKit
namespace Go.Proofs.Ytlbloopiajjpfaa
open Go.ChangeShapes Go.WideShapes Go.ChangeAt Go.RowKit

theorem addr_one (a : Addr) (i : Nat) : a.add (i + 1) = ⟨(a.add i).block, (a.add i).off + 1, none⟩ := by rw [← Addr.add_twice]; rfl
theorem addr_two (a : Addr) (i : Nat) : a.add (i + 2) = ⟨(a.add i).block, (a.add i).off + 2, none⟩ := by rw [← Addr.add_twice]; rfl
/-- What came in: acts of three numbers each. -/
def ActsIn (w : World) (A : Option Addr) (n : Nat) (X Y Z : Nat → Int) : Prop :=
  ∀ k, k < n → ∃ a : Addr, A = some a ∧ w.cell? (a.add (k * 3)) = some (.int .u8 (X k)) ∧ w.cell? (a.add (k * 3 + 1)) = some (.int .i16 (Y k)) ∧ w.cell? (a.add (k * 3 + 2)) = some (.int .i16 (Z k)) ∧
    0 ≤ X k ∧ X k ≤ 255 ∧ -32768 ≤ Y k ∧ Y k ≤ 32767 ∧ -32768 ≤ Z k ∧ Z k ≤ 32767
/-- A slice of acts that came in. -/
theorem acts_in {H : Type} {enc : TypeId × Value → H} {W : World} {base : Nat} {spare : Nat → Bool} {held : Bool} {a : Option Addr} {len cap : Nat} {d : DataW H} {ps : List MemPlace} (h : DataW.Trod enc Try.prog W base spare held 22 (.slice a len cap) d ps) :
    len ≤ maxLen ∧ ∃ X Y Z : Nat → Int, ActsIn W a len X Y Z := by
  obtain ⟨fuel, hf⟩ := h
  obtain ⟨h1, h2⟩ := open_threes Try.underlying22 Try.underlying36 (by kernel_rfl) rfl rfl rfl (by kernel_rfl) (by kernel_rfl) (by kernel_rfl) Try.underlying5 Try.underlying34 Try.underlying34 hf
  refine ⟨h1, ?_⟩
  obtain ⟨f, hf⟩ := Go.Deep.choose_lt (α := Int × Int × Int) (n := len) (p := fun k x => ∃ ad : Addr, a = some ad ∧ W.cell? (ad.add (k * 3)) = some (.int .u8 x.1) ∧ W.cell? (ad.add (k * 3 + 1)) = some (.int .i16 x.2.1) ∧ W.cell? (ad.add (k * 3 + 2)) = some (.int .i16 x.2.2) ∧ 0 ≤ x.1 ∧ x.1 ≤ 255 ∧ -32768 ≤ x.2.1 ∧ x.2.1 ≤ 32767 ∧ -32768 ≤ x.2.2 ∧ x.2.2 ≤ 32767) (fun k hk => by
    obtain ⟨ad, x0, x1, x2, ha, c0, c1, c2, w0, w1, w2⟩ := h2 k hk
    have b0 := bounds_u8 w0
    have b1 := bounds_i16 w1
    have b2 := bounds_i16 w2
    exact ⟨(x0, x1, x2), ad, ha, c0, c1, c2, b0.1, b0.2, b1.1, b1.2, b2.1, b2.2⟩)
  exact ⟨fun k => (f k).1, fun k => (f k).2.1, fun k => (f k).2.2, fun k hk => hf k hk⟩
end Go.Proofs.Ytlbloopiajjpfaa
