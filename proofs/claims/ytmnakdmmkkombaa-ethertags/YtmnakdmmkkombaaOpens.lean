/- Arrays that came in, opened: twelve bytes, three numbers of 16 bits, three bools. Conditions: those of each theorem. -/
import Derived.Test.YtmnakdmmkkombaaSized
import Derived.ChangeOld
namespace Go.Proofs.Ytmnakdmmkkombaa
open Go.ChangeShapes Go.WideShapes Go.ChangeAt Go.RowKit

/-- An array of N things of one cell each: each thing, as its own type has it. -/
theorem open_array {H : Type} {enc : TypeId × Value → H} {W : World} {base N : Nat} {t e : TypeId} {v : Value} {d : DataW H} {p : List MemPlace} (hu : Try.prog.underlying t = some (.array N e)) (hc : Try.prog.cellsOf t = N) (he : Try.prog.cellsOf e = 1)
    (hok : Value.okWide Try.prog W .any base t v) (h : DataW.Trod enc Try.prog W 0 (fun _ => true) true t v d p) :
    ∃ cs : Array Value, v = .agg cs ∧ cs.size = N ∧ ∀ i, i < N → ∃ u m y, cs[i]? = some u ∧ DataW.trod enc Try.prog W 0 (fun _ => true) true m e [u] = some y := by
  unfold Value.okWide at hok
  rw [hu] at hok
  obtain ⟨cs, rfl, hsz, _⟩ := hok
  rw [hc] at hsz
  obtain ⟨fuel, hf⟩ := h
  obtain ⟨xs, m, _, _, _, hxl, hx⟩ := DataW.trod_array hu hf
  refine ⟨cs, rfl, hsz, fun i hi => ?_⟩
  have h1 := hx i hi
  rw [he, Nat.mul_one] at h1
  obtain ⟨y, hy⟩ : ∃ y, xs[i]? = some y := ⟨_, List.getElem?_eq_getElem (by omega)⟩
  rw [hy] at h1
  have e : ((Value.agg cs).cells.toList.drop i).take 1 = [cs[i]'(by omega)] := by
    rw [List.drop_eq_getElem_cons (by simp [Value.cells]; omega)]
    simp [Value.cells]
  rw [e] at h1
  exact ⟨_, m, y, Array.getElem?_eq_getElem (by omega), h1⟩

/-- Twelve bytes. -/
theorem open_twelve {H : Type} {enc : TypeId × Value → H} {W : World} {base : Nat} {v : Value} {d : DataW H} {p : List MemPlace} (hok : Value.okWide Try.prog W .any base 38 v) (h : DataW.Trod enc Try.prog W 0 (fun _ => true) true 38 v d p) :
    ∃ l : List Int, v = .agg (cel l).toArray ∧ l.length = 12 ∧ Octs l := by
  obtain ⟨cs, rfl, hsz, hx⟩ := open_array Try.underlying38 (by kernel_rfl) (by kernel_rfl) hok h
  have hz : ∀ i, i < 12 → ∃ z : Int, cs[i]? = some (.int .u8 z) ∧ 0 ≤ z ∧ z ≤ 255 := fun i hi => by
    obtain ⟨u, m, y, hu, hy⟩ := hx i hi
    obtain ⟨z, hz, _, w0⟩ := DataW.trod_int Try.underlying5 hy
    obtain rfl : u = .int .u8 z := by simpa using hz
    exact ⟨z, hu, bounds_u8 w0⟩
  refine ⟨(List.range 12).map fun i => ((cs[i]?.map fun u => match u with | .int _ z => z | _ => 0).getD 0), ?_, by simp, ?_⟩
  · congr 1
    apply Array.ext_getElem?
    intro i
    by_cases hi : i < 12
    · obtain ⟨z, hz, _⟩ := hz i hi
      simp [cel, hz, hi]
    · rw [Array.getElem?_eq_none (by omega), Array.getElem?_eq_none (by simp [cel]; omega)]
  · intro b hb
    obtain ⟨i, hi, rfl⟩ := List.mem_map.1 hb
    obtain ⟨z, hz, hlt⟩ := hz i (List.mem_range.1 hi)
    simp [hz, hlt]
theorem three_of {cs : Array Value} {a b c : Value} (hsz : cs.size = 3) (h0 : cs[0]? = some a) (h1 : cs[1]? = some b) (h2 : cs[2]? = some c) : cs = #[a, b, c] := by
  apply Array.ext_getElem?
  intro i
  rcases (by omega : i = 0 ∨ i = 1 ∨ i = 2 ∨ 3 ≤ i) with rfl | rfl | rfl | hi
  · simpa using h0
  · simpa using h1
  · simpa using h2
  · rw [Array.getElem?_eq_none (by omega), Array.getElem?_eq_none (by simpa using hi)]
/-- Three numbers of 16 bits. -/
theorem open_shorts {H : Type} {enc : TypeId × Value → H} {W : World} {base : Nat} {v : Value} {d : DataW H} {p : List MemPlace} (hok : Value.okWide Try.prog W .any base 33 v) (h : DataW.Trod enc Try.prog W 0 (fun _ => true) true 33 v d p) :
    ∃ x y z : Nat, v = .agg #[.int .u16 x, .int .u16 y, .int .u16 z] ∧ x ≤ 65535 ∧ y ≤ 65535 ∧ z ≤ 65535 := by
  obtain ⟨cs, rfl, hsz, hx⟩ := open_array Try.underlying33 (by kernel_rfl) (by kernel_rfl) hok h
  have hz : ∀ i, i < 3 → ∃ z : Nat, cs[i]? = some (.int .u16 (z : Nat)) ∧ z ≤ 65535 := fun i hi => by
    obtain ⟨u, m, y, hu, hy⟩ := hx i hi
    obtain ⟨z, hz, _, w0⟩ := DataW.trod_int Try.underlying32 hy
    obtain rfl : u = .int .u16 z := by simpa using hz
    have := bounds_u16 w0
    exact ⟨z.toNat, by rw [Int.toNat_of_nonneg this.1]; exact hu, by omega⟩
  obtain ⟨x, h0, b0⟩ := hz 0 (by omega)
  obtain ⟨y, h1, b1⟩ := hz 1 (by omega)
  obtain ⟨z, h2, b2⟩ := hz 2 (by omega)
  exact ⟨x, y, z, by rw [three_of hsz h0 h1 h2], b0, b1, b2⟩
/-- Three bools. -/
theorem open_bools3 {H : Type} {enc : TypeId × Value → H} {W : World} {base : Nat} {v : Value} {d : DataW H} {p : List MemPlace} (hok : Value.okWide Try.prog W .any base 34 v) (h : DataW.Trod enc Try.prog W 0 (fun _ => true) true 34 v d p) :
    ∃ x y z : Bool, v = .agg #[.bool x, .bool y, .bool z] := by
  obtain ⟨cs, rfl, hsz, hx⟩ := open_array Try.underlying34 (by kernel_rfl) (by kernel_rfl) hok h
  have hz : ∀ i, i < 3 → ∃ z : Bool, cs[i]? = some (.bool z) := fun i hi => by
    obtain ⟨u, m, y, hu, hy⟩ := hx i hi
    obtain ⟨z, hz, _⟩ := DataW.trod_bool Try.underlying4 hy
    obtain rfl : u = .bool z := by simpa using hz
    exact ⟨z, hu⟩
  obtain ⟨x, h0⟩ := hz 0 (by omega)
  obtain ⟨y, h1⟩ := hz 1 (by omega)
  obtain ⟨z, h2⟩ := hz 2 (by omega)
  exact ⟨x, y, z, by rw [three_of hsz h0 h1 h2]⟩
end Go.Proofs.Ytmnakdmmkkombaa
