/- A slice of structs of three whole numbers that came in, opened at every index. Conditions: those of each theorem. -/
import Derived.Deep.Slices
import Derived.OpenShut
namespace Go.Proofs.Ytlbloopiajjpfaa
open Go.ChangeShapes Go.WideShapes

theorem open_threes {H : Type} {enc : TypeId × Value → H} {P : Program} {w : World} {base : Nat} {spare : Nat → Bool} {held : Bool} {t e : TypeId} {f0 f1 f2 : Field} {k0 k1 k2 : IntKind} {fuel : Nat} {a : Option Addr} {len cap : Nat} {x : DataW H × List MemPlace}
    (ht : P.underlying t = some (.slice e)) (he : P.underlying e = some (.struct #[f0, f1, f2])) (ce : P.cellsOf e = 3) (o0 : f0.offset = 0) (o1 : f1.offset = 1) (o2 : f2.offset = 2)
    (c0 : P.cellsOf f0.type = 1) (c1 : P.cellsOf f1.type = 1) (c2 : P.cellsOf f2.type = 1) (u0 : P.underlying f0.type = some (.int k0)) (u1 : P.underlying f1.type = some (.int k1)) (u2 : P.underlying f2.type = some (.int k2))
    (h : DataW.trod enc P w base spare held fuel t [.slice a len cap] = some x) :
    len ≤ maxLen ∧ ∀ i, i < len → ∃ (ad : Addr) (x0 x1 x2 : Int), a = some ad ∧ w.cell? (ad.add (i * 3)) = some (.int k0 x0) ∧ w.cell? (ad.add (i * 3 + 1)) = some (.int k1 x1) ∧ w.cell? (ad.add (i * 3 + 2)) = some (.int k2 x2) ∧
      (Lit.int k0 x0).wf = true ∧ (Lit.int k1 x1).wf = true ∧ (Lit.int k2 x2).wf = true := by
  rcases Go.Deep.open_slice ht h with ⟨h0, _⟩ | ⟨ad, l, c, m, n, D, Pl, hcs, hb, hl, hm, hmm, _, hx⟩
  · simp at h0
    obtain ⟨rfl, rfl, rfl⟩ := h0
    exact ⟨by simp, fun i hi => absurd hi (by omega)⟩
  · simp at hcs
    obtain ⟨rfl, rfl, rfl⟩ := hcs
    have hlm : len ≤ m := by rw [hmm]; split <;> omega
    refine ⟨by omega, fun i hi => ?_⟩
    obtain ⟨cs', h1, h2⟩ := hx i (by omega)
    rw [ce] at h1
    obtain ⟨_, hlen, hcell⟩ := World.cells?_some h1
    obtain ⟨xs, k, hk, hxy, _, hxl, hf⟩ := DataW.trod_struct he h2
    match xs, hxl, cs', hlen with
    | [y0, y1, y2], _, [v0, v1, v2], _ =>
      have g0 := hf 0 f0 rfl
      have g1 := hf 1 f1 rfl
      have g2 := hf 2 f2 rfl
      simp [o0, o1, o2, c0, c1, c2] at g0 g1 g2
      have e0 := hcell 0 (by omega)
      have e1 := hcell 1 (by omega)
      have e2 := hcell 2 (by omega)
      rw [Go.Deep.add_add] at e0 e1 e2
      obtain ⟨z0, hz0, _, w0⟩ := DataW.trod_int u0 g0
      obtain ⟨z1, hz1, _, w1⟩ := DataW.trod_int u1 g1
      obtain ⟨z2, hz2, _, w2⟩ := DataW.trod_int u2 g2
      simp at hz0 hz1 hz2
      subst hz0 hz1 hz2
      exact ⟨ad, z0, z1, z2, rfl, by simpa using e0, by simpa using e1, by simpa using e2, w0, w1, w2⟩
end Go.Proofs.Ytlbloopiajjpfaa
