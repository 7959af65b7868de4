/- A setup that came in, and a slice of acts that came in (a kind, a list of numbers, a number), opened at every index. Conditions: those of each theorem. -/
import Derived.Test.YtedpikpknlaggaaAwake
import Derived.Deep.Slices
import Derived.OpenShut
import Derived.ChangeOld
import Derived.ProofKit
namespace Go.Proofs.Ytedpikpknlaggaa
open Go.ChangeShapes Go.WideShapes Go.ChangeAt Go.RowKit

theorem cells2 : Try.prog.cellsOf 2 = 1 := by kernel_rfl
theorem cells3 : Try.prog.cellsOf 3 = 1 := by kernel_rfl
theorem cells5 : Try.prog.cellsOf 5 = 1 := by kernel_rfl
theorem cells38 : Try.prog.cellsOf 38 = 1 := by kernel_rfl
theorem cells40 : Try.prog.cellsOf 40 = 3 := by kernel_rfl
/-- A setup: levels, bins, up, down, target, hold. -/
structure SetOk (n m u d t h : Int) : Prop where
  n : -9223372036854775808 ≤ n ∧ n ≤ 9223372036854775807
  m : -9223372036854775808 ≤ m ∧ m ≤ 9223372036854775807
  u : -9223372036854775808 ≤ u ∧ u ≤ 9223372036854775807
  d : -9223372036854775808 ≤ d ∧ d ≤ 9223372036854775807
  t : -9223372036854775808 ≤ t ∧ t ≤ 9223372036854775807
  h : -9223372036854775808 ≤ h ∧ h ≤ 9223372036854775807
theorem setup_in {H : Type} {enc : TypeId × Value → H} {W : World} {base : Nat} {v : Value} {d : DataW H} {p : List MemPlace} (hok : Value.okWide Try.prog W .any base 23 v) (h : DataW.Trod enc Try.prog W 0 (fun _ => true) true 23 v d p) :
    ∃ x0 x1 x2 x3 x4 x5 : Int, v = .agg #[.int .i64 x0, .int .i64 x1, .int .i64 x2, .int .i64 x3, .int .i64 x4, .int .i64 x5] ∧ SetOk x0 x1 x2 x3 x4 x5 := by
  obtain ⟨cs, rfl, _⟩ := okWide_struct Try.underlying23 hok
  obtain ⟨fuel, hf⟩ := h
  have hv : (Value.agg cs).cells.toList = cs.toList := rfl
  rw [hv] at hf
  obtain ⟨xs, k, _, _, hl, hxl, hx⟩ := DataW.trod_struct Try.underlying23 hf
  have hl6 : cs.toList.length = 6 := by rw [hl]; kernel_rfl
  obtain ⟨L⟩ := cs
  match xs, hxl, L, hl6 with
  | [y0, y1, y2, y3, y4, y5], _, [v0, v1, v2, v3, v4, v5], _ =>
    have g0 : DataW.trod enc Try.prog W 0 (fun _ => true) true k 3 (([v0, v1, v2, v3, v4, v5].drop 0).take (Try.prog.cellsOf 3)) = some y0 := hx 0 _ rfl
    have g1 : DataW.trod enc Try.prog W 0 (fun _ => true) true k 3 (([v0, v1, v2, v3, v4, v5].drop 1).take (Try.prog.cellsOf 3)) = some y1 := hx 1 _ rfl
    have g2 : DataW.trod enc Try.prog W 0 (fun _ => true) true k 3 (([v0, v1, v2, v3, v4, v5].drop 2).take (Try.prog.cellsOf 3)) = some y2 := hx 2 _ rfl
    have g3 : DataW.trod enc Try.prog W 0 (fun _ => true) true k 3 (([v0, v1, v2, v3, v4, v5].drop 3).take (Try.prog.cellsOf 3)) = some y3 := hx 3 _ rfl
    have g4 : DataW.trod enc Try.prog W 0 (fun _ => true) true k 2 (([v0, v1, v2, v3, v4, v5].drop 4).take (Try.prog.cellsOf 2)) = some y4 := hx 4 _ rfl
    have g5 : DataW.trod enc Try.prog W 0 (fun _ => true) true k 2 (([v0, v1, v2, v3, v4, v5].drop 5).take (Try.prog.cellsOf 2)) = some y5 := hx 5 _ rfl
    rw [cells3] at g0 g1 g2 g3
    rw [cells2] at g4 g5
    obtain ⟨z0, hz0, _, w0⟩ := DataW.trod_int Try.underlying3 g0
    obtain ⟨z1, hz1, _, w1⟩ := DataW.trod_int Try.underlying3 g1
    obtain ⟨z2, hz2, _, w2⟩ := DataW.trod_int Try.underlying3 g2
    obtain ⟨z3, hz3, _, w3⟩ := DataW.trod_int Try.underlying3 g3
    obtain ⟨z4, hz4, _, w4⟩ := DataW.trod_int Try.underlying2 g4
    obtain ⟨z5, hz5, _, w5⟩ := DataW.trod_int Try.underlying2 g5
    simp at hz0 hz1 hz2 hz3 hz4 hz5
    subst hz0 hz1 hz2 hz3 hz4 hz5
    exact ⟨z0, z1, z2, z3, z4, z5, rfl, bounds_i64 w0, bounds_i64 w1, bounds_i64 w2, bounds_i64 w3, bounds_i64 w4, bounds_i64 w5⟩

/-- A list of numbers that came in, as one cell. -/
theorem list_in {H : Type} {enc : TypeId × Value → H} {W : World} {fuel : Nat} {v : Value} {x : DataW H × List MemPlace} (h : DataW.trod enc Try.prog W 0 (fun _ => true) true fuel 38 [v] = some x) :
    ∃ (P : Option Addr) (L C : Nat) (X : List Int), v = .slice P L C ∧ Ints W P L X ∧ (∀ x ∈ X, -9223372036854775808 ≤ x ∧ x ≤ 9223372036854775807) ∧ L ≤ 9223372036854775807 := by
  rcases open_ints Try.underlying38 Try.underlying3 cells3 h with ⟨hcs, _⟩ | ⟨a, l, c, zs, hcs, _, hl, hm, hz, _, hc1, hwz⟩
  · simp at hcs
    subst hcs
    exact ⟨none, 0, 0, [], rfl, ⟨rfl, fun h => absurd h (by omega)⟩, by simp, by omega⟩
  · simp at hcs
    subst hcs
    refine ⟨some a, l, c, zs.take l, rfl, ⟨by rw [List.length_take]; simp at hz; omega, fun _ => ⟨a, rfl, fun k hk => ?_⟩⟩, fun z hz => bounds_i64 (hwz z (List.mem_of_mem_take hz)), by unfold maxLen at hm; omega⟩
    rw [hc1 k (by simp at hz; omega)]
    simp [List.getD_eq_getElem?_getD, hk]
theorem act_in {H : Type} {enc : TypeId × Value → H} {W : World} {fuel : Nat} {a : Option Addr} {len cap : Nat} {x : DataW H × List MemPlace} (h : DataW.trod enc Try.prog W 0 (fun _ => true) true fuel 24 [.slice a len cap] = some x) :
    len ≤ maxLen ∧ ∀ i, i < len → ∃ (ad : Addr) (K : Int) (P : Option Addr) (L C : Nat) (X : List Int) (N : Int), a = some ad ∧ ActIn W (ad.add (i * 3)) K P L C X N := by
  rcases Go.Deep.open_slice Try.underlying24 h with ⟨h0, _⟩ | ⟨ad, l, c, m, n, D, Pl, hcs, hb, hl, hm, hmm, _, hx⟩
  · simp at h0
    obtain ⟨rfl, rfl, rfl⟩ := h0
    exact ⟨by simp, fun i hi => absurd hi (by omega)⟩
  · simp at hcs
    obtain ⟨rfl, rfl, rfl⟩ := hcs
    have hlm : len ≤ m := by rw [hmm]; split <;> omega
    refine ⟨by omega, fun i hi => ?_⟩
    obtain ⟨cs', h1, h2⟩ := hx i (by omega)
    rw [cells40] at h1
    obtain ⟨_, hlen, hcell⟩ := World.cells?_some h1
    obtain ⟨xs, k, hk, _, _, hxl, hf⟩ := DataW.trod_struct Try.underlying40 h2
    match xs, hxl, cs', hlen with
    | [y0, y1, y2], _, [v0, v1, v2], _ =>
      have g0 : DataW.trod enc Try.prog W 0 (fun _ => true) true k 5 (([v0, v1, v2].drop 0).take (Try.prog.cellsOf 5)) = some y0 := hf 0 _ rfl
      have g1 : DataW.trod enc Try.prog W 0 (fun _ => true) true k 38 (([v0, v1, v2].drop 1).take (Try.prog.cellsOf 38)) = some y1 := hf 1 _ rfl
      have g2 : DataW.trod enc Try.prog W 0 (fun _ => true) true k 2 (([v0, v1, v2].drop 2).take (Try.prog.cellsOf 2)) = some y2 := hf 2 _ rfl
      rw [cells5] at g0
      rw [cells38] at g1
      rw [cells2] at g2
      obtain ⟨z0, hz0, _, w0⟩ := DataW.trod_int Try.underlying5 g0
      obtain ⟨P, L, C, X, hv1, hX, hbX, hL⟩ := list_in g1
      obtain ⟨z2, hz2, _, w2⟩ := DataW.trod_int Try.underlying2 g2
      simp at hz0 hz2
      subst hz0 hv1 hz2
      have e0 := hcell 0 (by omega)
      have e1 := hcell 1 (by omega)
      have e2 := hcell 2 (by omega)
      have b0 := bounds_u8 w0
      have b2 := bounds_i64 w2
      exact ⟨ad, z0, P, L, C, X, z2, rfl, ⟨by simpa [Addr.add] using e0, by simpa [Addr.add] using e1, by simpa [Addr.add] using e2, b0.1, b0.2, b2.1, b2.2, hX, hbX, hL⟩⟩
/-- A slice of acts that came in. -/
theorem acts_in {H : Type} {enc : TypeId × Value → H} {W : World} {a : Option Addr} {len cap : Nat} {d : DataW H} {ps : List MemPlace} (h : DataW.Trod enc Try.prog W 0 (fun _ => true) true 24 (.slice a len cap) d ps) :
    len ≤ maxLen ∧ ∃ K P L C X N, ActsIn W a len K P L C X N := by
  obtain ⟨fuel, hf⟩ := h
  obtain ⟨h1, h2⟩ := act_in hf
  refine ⟨h1, ?_⟩
  obtain ⟨f, hf⟩ := Go.Deep.choose_lt (α := Int × Option Addr × Nat × Nat × List Int × Int) (n := len) (p := fun k x => ∃ ad : Addr, a = some ad ∧ ActIn W (ad.add (k * 3)) x.1 x.2.1 x.2.2.1 x.2.2.2.1 x.2.2.2.2.1 x.2.2.2.2.2) (fun k hk => by
    obtain ⟨ad, K, P, L, C, X, N, ha, hx⟩ := h2 k hk
    exact ⟨(K, P, L, C, X, N), ad, ha, hx⟩)
  exact ⟨fun k => (f k).1, fun k => (f k).2.1, fun k => (f k).2.2.1, fun k => (f k).2.2.2.1, fun k => (f k).2.2.2.2.1, fun k => (f k).2.2.2.2.2, fun k hk => hf k hk⟩
end Go.Proofs.Ytedpikpknlaggaa
