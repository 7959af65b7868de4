/- Slices that came in: askings (structs of two whole numbers) and words of 16 bits, opened at every index. Conditions: those of each theorem. -/
import Derived.Test.YtbmapegfodomaaaRows
import Derived.Test.YtbmapegfodomaaaMem
import Derived.Deep.Slices
import Derived.OpenShut
import Derived.ProofKit
namespace Go.Proofs.Ytbmapegfodomaaa
open Go.ChangeShapes Go.WideShapes Go.ChangeAt Go.RowKit

theorem open_twos {H : Type} {enc : TypeId × Value → H} {P : Program} {w : World} {base : Nat} {spare : Nat → Bool} {held : Bool} {t e : TypeId} {f0 f1 : Field} {k0 k1 : IntKind} {fuel : Nat} {a : Option Addr} {len cap : Nat} {x : DataW H × List MemPlace}
    (ht : P.underlying t = some (.slice e)) (he : P.underlying e = some (.struct #[f0, f1])) (ce : P.cellsOf e = 2) (o0 : f0.offset = 0) (o1 : f1.offset = 1)
    (c0 : P.cellsOf f0.type = 1) (c1 : P.cellsOf f1.type = 1) (u0 : P.underlying f0.type = some (.int k0)) (u1 : P.underlying f1.type = some (.int k1))
    (h : DataW.trod enc P w base spare held fuel t [.slice a len cap] = some x) :
    len ≤ maxLen ∧ ∀ i, i < len → ∃ (ad : Addr) (x0 x1 : Int), a = some ad ∧ w.cell? (ad.add (i * 2)) = some (.int k0 x0) ∧ w.cell? (ad.add (i * 2 + 1)) = some (.int k1 x1) ∧
      (Lit.int k0 x0).wf = true ∧ (Lit.int k1 x1).wf = true := by
  rcases Go.Deep.open_slice ht h with ⟨h0, _⟩ | ⟨ad, l, c, m, n, D, Pl, hcs, hb, hl, hm, hmm, _, hx⟩
  · simp at h0
    obtain ⟨rfl, rfl, rfl⟩ := h0
    exact ⟨by simp, fun i hi => absurd hi (by omega)⟩
  · simp at hcs
    obtain ⟨rfl, rfl, rfl⟩ := hcs
    have hlm : len ≤ m := by rw [hmm]; split <;> omega
    refine ⟨by omega, fun i hi => ?_⟩
    obtain ⟨cs', h1, h2⟩ := hx i (by omega)
    rw [ce] at h1
    obtain ⟨_, hlen, hcell⟩ := World.cells?_some h1
    obtain ⟨xs, k, hk, hxy, _, hxl, hf⟩ := DataW.trod_struct he h2
    match xs, hxl, cs', hlen with
    | [y0, y1], _, [v0, v1], _ =>
      have g0 := hf 0 f0 rfl
      have g1 := hf 1 f1 rfl
      simp [o0, o1, c0, c1] at g0 g1
      have e0 := hcell 0 (by omega)
      have e1 := hcell 1 (by omega)
      rw [Go.Deep.add_add] at e0 e1
      obtain ⟨z0, hz0, _, w0⟩ := DataW.trod_int u0 g0
      obtain ⟨z1, hz1, _, w1⟩ := DataW.trod_int u1 g1
      simp at hz0 hz1
      subst hz0 hz1
      exact ⟨ad, z0, z1, rfl, by simpa using e0, by simpa using e1, w0, w1⟩
theorem addr_one (a : Addr) (i : Nat) : a.add (i + 1) = ⟨(a.add i).block, (a.add i).off + 1, none⟩ := by rw [← Addr.add_twice]; rfl
/-- What came in: askings of two numbers each. -/
def ActsIn (w : World) (A : Option Addr) (n : Nat) (X Y : Nat → Int) : Prop :=
  ∀ k, k < n → ∃ a : Addr, A = some a ∧ w.cell? (a.add (k * 2)) = some (.int .i64 (X k)) ∧ w.cell? (a.add (k * 2 + 1)) = some (.int .i64 (Y k)) ∧
    -9223372036854775808 ≤ X k ∧ X k ≤ 9223372036854775807 ∧ -9223372036854775808 ≤ Y k ∧ Y k ≤ 9223372036854775807
/-- A slice of askings that came in. -/
theorem acts_in {H : Type} {enc : TypeId × Value → H} {W : World} {base : Nat} {spare : Nat → Bool} {held : Bool} {a : Option Addr} {len cap : Nat} {d : DataW H} {ps : List MemPlace} (h : DataW.Trod enc Try.prog W base spare held 22 (.slice a len cap) d ps) :
    len ≤ maxLen ∧ ∃ X Y : Nat → Int, ActsIn W a len X Y := by
  obtain ⟨fuel, hf⟩ := h
  obtain ⟨h1, h2⟩ := open_twos Try.underlying22 Try.underlying34 (by kernel_rfl) rfl rfl (by kernel_rfl) (by kernel_rfl) Try.underlying2 Try.underlying2 hf
  refine ⟨h1, ?_⟩
  obtain ⟨f, hf⟩ := Go.Deep.choose_lt (α := Int × Int) (n := len) (p := fun k x => ∃ ad : Addr, a = some ad ∧ W.cell? (ad.add (k * 2)) = some (.int .i64 x.1) ∧ W.cell? (ad.add (k * 2 + 1)) = some (.int .i64 x.2) ∧ -9223372036854775808 ≤ x.1 ∧ x.1 ≤ 9223372036854775807 ∧ -9223372036854775808 ≤ x.2 ∧ x.2 ≤ 9223372036854775807) (fun k hk => by
    obtain ⟨ad, x0, x1, ha, c0, c1, w0, w1⟩ := h2 k hk
    have b0 := bounds_i64 w0
    have b1 := bounds_i64 w1
    exact ⟨(x0, x1), ad, ha, c0, c1, b0.1, b0.2, b1.1, b1.2⟩)
  exact ⟨fun k => (f k).1, fun k => (f k).2, fun k hk => hf k hk⟩
/-- Words of 16 bits that came in. -/
def WordsIn (w : World) (A : Option Addr) (n : Nat) (X : Nat → Int) : Prop :=
  ∀ k, k < n → ∃ a : Addr, A = some a ∧ w.cell? (a.add k) = some (.int .u16 (X k)) ∧ 0 ≤ X k ∧ X k ≤ 65535
theorem ActsIn.far {w w' : World} {A : Option Addr} {n : Nat} {X Y : Nat → Int} (h : ActsIn w A n X Y) (hb : Below w.heap.size w w') : ActsIn w' A n X Y := fun k hk => by
  obtain ⟨a, e, h1, h2, h3⟩ := h k hk
  exact ⟨a, e, (hb.cell (World.block_lt_of_cell? w _ h1)).trans h1, (hb.cell (World.block_lt_of_cell? w _ h2)).trans h2, h3⟩
theorem WordsIn.far {w w' : World} {A : Option Addr} {n : Nat} {X : Nat → Int} (h : WordsIn w A n X) (hb : Below w.heap.size w w') : WordsIn w' A n X := fun k hk => by
  obtain ⟨a, e, h1, h3⟩ := h k hk
  exact ⟨a, e, (hb.cell (World.block_lt_of_cell? w _ h1)).trans h1, h3⟩
/-- A slice of words that came in. -/
theorem words_in {H : Type} {enc : TypeId × Value → H} {W : World} {base : Nat} {spare : Nat → Bool} {held : Bool} {a : Option Addr} {len cap : Nat} {d : DataW H} {ps : List MemPlace} (h : DataW.Trod enc Try.prog W base spare held 40 (.slice a len cap) d ps) :
    len ≤ maxLen ∧ ∃ X : Nat → Int, WordsIn W a len X := by
  obtain ⟨fuel, hf⟩ := h
  rcases open_ints Try.underlying40 Try.underlying41 (by kernel_rfl) hf with ⟨hcs, _⟩ | ⟨x, l, c, zs, hcs, _, hl, hm, hz, _, hcell, hwz⟩
  · simp [Value.cells] at hcs
    obtain ⟨rfl, rfl, rfl⟩ := hcs
    exact ⟨by simp, fun _ => 0, fun k hk => absurd hk (by omega)⟩
  · simp [Value.cells] at hcs
    obtain ⟨rfl, rfl, rfl⟩ := hcs
    refine ⟨by omega, fun k => zs.getD k 0, fun k hk => ⟨x, rfl, hcell k (by rw [hz]; split <;> omega), ?_⟩⟩
    have := range_u16 hwz k
    simpa [List.getD_eq_getElem?_getD] using this
end Go.Proofs.Ytbmapegfodomaaa
