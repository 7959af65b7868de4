/- A slice of acts that came in: structs of four whole numbers, opened at every index. Conditions: those of each theorem. -/
import Derived.Test.YtgjicnjibhofkaaRows
import Derived.Test.YtgjicnjibhofkaaMem
import Derived.Deep.Slices
import Derived.OpenShut
import Derived.ProofKit
namespace Go.Proofs.Ytgjicnjibhofkaa
open Go.ChangeShapes Go.WideShapes Go.ChangeAt Go.RowKit

theorem open_fours {H : Type} {enc : TypeId × Value → H} {P : Program} {w : World} {base : Nat} {spare : Nat → Bool} {held : Bool} {t e : TypeId} {f0 f1 f2 f3 : Field} {k0 k1 k2 k3 : IntKind} {fuel : Nat} {a : Option Addr} {len cap : Nat} {x : DataW H × List MemPlace}
    (ht : P.underlying t = some (.slice e)) (he : P.underlying e = some (.struct #[f0, f1, f2, f3])) (ce : P.cellsOf e = 4) (o0 : f0.offset = 0) (o1 : f1.offset = 1) (o2 : f2.offset = 2) (o3 : f3.offset = 3)
    (c0 : P.cellsOf f0.type = 1) (c1 : P.cellsOf f1.type = 1) (c2 : P.cellsOf f2.type = 1) (c3 : P.cellsOf f3.type = 1) (u0 : P.underlying f0.type = some (.int k0)) (u1 : P.underlying f1.type = some (.int k1)) (u2 : P.underlying f2.type = some (.int k2)) (u3 : P.underlying f3.type = some (.int k3))
    (h : DataW.trod enc P w base spare held fuel t [.slice a len cap] = some x) :
    len ≤ maxLen ∧ ∀ i, i < len → ∃ (ad : Addr) (x0 x1 x2 x3 : Int), a = some ad ∧ w.cell? (ad.add (i * 4)) = some (.int k0 x0) ∧ w.cell? (ad.add (i * 4 + 1)) = some (.int k1 x1) ∧ w.cell? (ad.add (i * 4 + 2)) = some (.int k2 x2) ∧ w.cell? (ad.add (i * 4 + 3)) = some (.int k3 x3) ∧
      (Lit.int k0 x0).wf = true ∧ (Lit.int k1 x1).wf = true ∧ (Lit.int k2 x2).wf = true ∧ (Lit.int k3 x3).wf = true := by
  rcases Go.Deep.open_slice ht h with ⟨h0, _⟩ | ⟨ad, l, c, m, n, D, Pl, hcs, hb, hl, hm, hmm, _, hx⟩
  · simp at h0
    obtain ⟨rfl, rfl, rfl⟩ := h0
    exact ⟨by simp, fun i hi => absurd hi (by omega)⟩
  · simp at hcs
    obtain ⟨rfl, rfl, rfl⟩ := hcs
    have hlm : len ≤ m := by rw [hmm]; split <;> omega
    refine ⟨by omega, fun i hi => ?_⟩
    obtain ⟨cs', h1, h2⟩ := hx i (by omega)
    rw [ce] at h1
    obtain ⟨_, hlen, hcell⟩ := World.cells?_some h1
    obtain ⟨xs, k, hk, hxy, _, hxl, hf⟩ := DataW.trod_struct he h2
    match xs, hxl, cs', hlen with
    | [y0, y1, y2, y3], _, [v0, v1, v2, v3], _ =>
      have g0 := hf 0 f0 rfl
      have g1 := hf 1 f1 rfl
      have g2 := hf 2 f2 rfl
      have g3 := hf 3 f3 rfl
      simp [o0, o1, o2, o3, c0, c1, c2, c3] at g0 g1 g2 g3
      have e0 := hcell 0 (by omega)
      have e1 := hcell 1 (by omega)
      have e2 := hcell 2 (by omega)
      have e3 := hcell 3 (by omega)
      rw [Go.Deep.add_add] at e0 e1 e2 e3
      obtain ⟨z0, hz0, _, w0⟩ := DataW.trod_int u0 g0
      obtain ⟨z1, hz1, _, w1⟩ := DataW.trod_int u1 g1
      obtain ⟨z2, hz2, _, w2⟩ := DataW.trod_int u2 g2
      obtain ⟨z3, hz3, _, w3⟩ := DataW.trod_int u3 g3
      simp at hz0 hz1 hz2 hz3
      subst hz0 hz1 hz2 hz3
      exact ⟨ad, z0, z1, z2, z3, rfl, by simpa using e0, by simpa using e1, by simpa using e2, by simpa using e3, w0, w1, w2, w3⟩
theorem addr_one (a : Addr) (i : Nat) : a.add (i + 1) = ⟨(a.add i).block, (a.add i).off + 1, none⟩ := by rw [← Addr.add_twice]; rfl
theorem addr_two (a : Addr) (i : Nat) : a.add (i + 2) = ⟨(a.add i).block, (a.add i).off + 2, none⟩ := by rw [← Addr.add_twice]; rfl
theorem addr_three (a : Addr) (i : Nat) : a.add (i + 3) = ⟨(a.add i).block, (a.add i).off + 3, none⟩ := by rw [← Addr.add_twice]; rfl
/-- What came in: acts of four numbers each. -/
def ActsIn (w : World) (A : Option Addr) (n : Nat) (X Y Z V : Nat → Int) : Prop :=
  ∀ k, k < n → ∃ a : Addr, A = some a ∧ w.cell? (a.add (k * 4)) = some (.int .u8 (X k)) ∧ w.cell? (a.add (k * 4 + 1)) = some (.int .i8 (Y k)) ∧ w.cell? (a.add (k * 4 + 2)) = some (.int .i8 (Z k)) ∧ w.cell? (a.add (k * 4 + 3)) = some (.int .i64 (V k)) ∧
    0 ≤ X k ∧ X k ≤ 255 ∧ -128 ≤ Y k ∧ Y k ≤ 127 ∧ -128 ≤ Z k ∧ Z k ≤ 127 ∧ -9223372036854775808 ≤ V k ∧ V k ≤ 9223372036854775807
/-- A slice of acts that came in. -/
theorem acts_in {H : Type} {enc : TypeId × Value → H} {W : World} {base : Nat} {spare : Nat → Bool} {held : Bool} {a : Option Addr} {len cap : Nat} {d : DataW H} {ps : List MemPlace} (h : DataW.Trod enc Try.prog W base spare held 22 (.slice a len cap) d ps) :
    len ≤ maxLen ∧ ∃ X Y Z V : Nat → Int, ActsIn W a len X Y Z V := by
  obtain ⟨fuel, hf⟩ := h
  obtain ⟨h1, h2⟩ := open_fours Try.underlying22 Try.underlying36 (by kernel_rfl) rfl rfl rfl rfl (by kernel_rfl) (by kernel_rfl) (by kernel_rfl) (by kernel_rfl) Try.underlying5 Try.underlying34 Try.underlying34 Try.underlying2 hf
  refine ⟨h1, ?_⟩
  obtain ⟨f, hf⟩ := Go.Deep.choose_lt (α := Int × Int × Int × Int) (n := len) (p := fun k x => ∃ ad : Addr, a = some ad ∧ W.cell? (ad.add (k * 4)) = some (.int .u8 x.1) ∧ W.cell? (ad.add (k * 4 + 1)) = some (.int .i8 x.2.1) ∧ W.cell? (ad.add (k * 4 + 2)) = some (.int .i8 x.2.2.1) ∧ W.cell? (ad.add (k * 4 + 3)) = some (.int .i64 x.2.2.2) ∧ 0 ≤ x.1 ∧ x.1 ≤ 255 ∧ -128 ≤ x.2.1 ∧ x.2.1 ≤ 127 ∧ -128 ≤ x.2.2.1 ∧ x.2.2.1 ≤ 127 ∧ -9223372036854775808 ≤ x.2.2.2 ∧ x.2.2.2 ≤ 9223372036854775807) (fun k hk => by
    obtain ⟨ad, x0, x1, x2, x3, ha, c0, c1, c2, c3, w0, w1, w2, w3⟩ := h2 k hk
    have b0 := bounds_u8 w0
    have b1 := bounds_i8 w1
    have b2 := bounds_i8 w2
    have b3 := bounds_i64 w3
    exact ⟨(x0, x1, x2, x3), ad, ha, c0, c1, c2, c3, b0.1, b0.2, b1.1, b1.2, b2.1, b2.2, b3.1, b3.2⟩)
  exact ⟨fun k => (f k).1, fun k => (f k).2.1, fun k => (f k).2.2.1, fun k => (f k).2.2.2, fun k hk => hf k hk⟩
end Go.Proofs.Ytgjicnjibhofkaa
