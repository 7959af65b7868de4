/- An array of 32 bytes that came in, opened. Conditions: those of each theorem. -/
import Derived.Test.YtmpkbggnopcajaaSized
import Derived.ChangeOld
namespace Go.Proofs.Ytmpkbggnopcajaa
open Go.ChangeShapes Go.WideShapes Go.ChangeAt Go.RowKit

/-- An array of N things of one cell each: each thing, as its own type has it. -/
theorem open_array {H : Type} {enc : TypeId × Value → H} {W : World} {base N : Nat} {t e : TypeId} {v : Value} {d : DataW H} {p : List MemPlace} (hu : Try.prog.underlying t = some (.array N e)) (hc : Try.prog.cellsOf t = N) (he : Try.prog.cellsOf e = 1)
    (hok : Value.okWide Try.prog W .any base t v) (h : DataW.Trod enc Try.prog W 0 (fun _ => true) true t v d p) :
    ∃ cs : Array Value, v = .agg cs ∧ cs.size = N ∧ ∀ i, i < N → ∃ u m y, cs[i]? = some u ∧ DataW.trod enc Try.prog W 0 (fun _ => true) true m e [u] = some y := by
  unfold Value.okWide at hok
  rw [hu] at hok
  obtain ⟨cs, rfl, hsz, _⟩ := hok
  rw [hc] at hsz
  obtain ⟨fuel, hf⟩ := h
  obtain ⟨xs, m, _, _, _, hxl, hx⟩ := DataW.trod_array hu hf
  refine ⟨cs, rfl, hsz, fun i hi => ?_⟩
  have h1 := hx i hi
  rw [he, Nat.mul_one] at h1
  obtain ⟨y, hy⟩ : ∃ y, xs[i]? = some y := ⟨_, List.getElem?_eq_getElem (by omega)⟩
  rw [hy] at h1
  have e : ((Value.agg cs).cells.toList.drop i).take 1 = [cs[i]'(by omega)] := by
    rw [List.drop_eq_getElem_cons (by simp [Value.cells]; omega)]
    simp [Value.cells]
  rw [e] at h1
  exact ⟨_, m, y, Array.getElem?_eq_getElem (by omega), h1⟩

/-- Thirty-two bytes. -/
theorem open_whom {H : Type} {enc : TypeId × Value → H} {W : World} {base : Nat} {v : Value} {d : DataW H} {p : List MemPlace} (hok : Value.okWide Try.prog W .any base 39 v) (h : DataW.Trod enc Try.prog W 0 (fun _ => true) true 39 v d p) :
    ∃ l : List Int, v = .agg (cel l).toArray ∧ l.length = 32 ∧ Octs l := by
  obtain ⟨cs, rfl, hsz, hx⟩ := open_array Try.underlying39 (by kernel_rfl) (by kernel_rfl) hok h
  have hz : ∀ i, i < 32 → ∃ z : Int, cs[i]? = some (.int .u8 z) ∧ 0 ≤ z ∧ z ≤ 255 := fun i hi => by
    obtain ⟨u, m, y, hu, hy⟩ := hx i hi
    obtain ⟨z, hz, _, w0⟩ := DataW.trod_int Try.underlying5 hy
    obtain rfl : u = .int .u8 z := by simpa using hz
    exact ⟨z, hu, bounds_u8 w0⟩
  refine ⟨(List.range 32).map fun i => ((cs[i]?.map fun u => match u with | .int _ z => z | _ => 0).getD 0), ?_, by simp, ?_⟩
  · congr 1
    apply Array.ext_getElem?
    intro i
    by_cases hi : i < 32
    · obtain ⟨z, hz, _⟩ := hz i hi
      simp [cel, hz, hi]
    · rw [Array.getElem?_eq_none (by omega), Array.getElem?_eq_none (by simp [cel]; omega)]
  · intro b hb
    obtain ⟨i, hi, rfl⟩ := List.mem_map.1 hb
    obtain ⟨z, hz, hlt⟩ := hz i (List.mem_range.1 hi)
    simp [hz, hlt]
end Go.Proofs.Ytmpkbggnopcajaa
