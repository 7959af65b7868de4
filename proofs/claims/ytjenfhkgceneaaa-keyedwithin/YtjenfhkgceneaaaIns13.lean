/- A flow and twelve bytes that came in, opened. Conditions: those of each theorem. -/
import Derived.Test.YtjenfhkgceneaaaOpens
import Derived.Test.YtjenfhkgceneaaaSummOpens
import Derived.Test.YtjenfhkgceneaaaBuckets
namespace Go.Proofs.Ytjenfhkgceneaaa
open Go.ChangeShapes Go.WideShapes Go.ChangeAt Go.RowKit

theorem open_flo {H : Type} {enc : TypeId × Value → H} {W : World} {base : Nat} {u : Value} {d : DataW H} {p : List MemPlace} (hok : Value.okWide Try.prog W .any base 25 u) (h : DataW.Trod enc Try.prog W 0 (fun _ => true) true 25 u d p) :
    ∃ f : Flo, u = .agg f.cells.toArray ∧ f.Ok := by
  obtain ⟨v, q, s, e, a, b, rfl, hs, he, os, oe, hq, ha, hb⟩ := open_flow hok h
  exact ⟨⟨v, q, s, e, a, b⟩, rfl, ⟨hs, he, os, oe, hq, ha, hb⟩⟩
theorem open_twelve {H : Type} {enc : TypeId × Value → H} {W : World} {base : Nat} {u : Value} {d : DataW H} {p : List MemPlace} (hok : Value.okWide Try.prog W .any base 34 u) (h : DataW.Trod enc Try.prog W 0 (fun _ => true) true 34 u d p) :
    ∃ m : List Int, u = .agg (cel m).toArray ∧ m.length = 12 ∧ Octs m := by
  unfold Value.okWide at hok
  rw [Try.underlying34] at hok
  obtain ⟨cs, rfl, hsz, _⟩ := hok
  obtain ⟨fuel, hf⟩ := h
  obtain ⟨xs, k, _, _, hl, hxl, hx⟩ := DataW.trod_array Try.underlying34 hf
  have hv : (Value.agg cs).cells.toList = cs.toList := rfl
  rw [hv] at hx hl
  have hl12 : cs.toList.length = 12 := by rw [hl]; kernel_rfl
  obtain ⟨s, hs, ho⟩ := cel_of cs.toList (fun i hi => by
    have h1 := hx i (by omega)
    rw [show Try.prog.cellsOf 5 = 1 by kernel_rfl, Nat.mul_one] at h1
    obtain ⟨y, hy⟩ : ∃ y, xs[i]? = some y := ⟨_, List.getElem?_eq_getElem (by omega)⟩
    rw [hy] at h1
    obtain ⟨z, hz, _, w0⟩ := DataW.trod_int Try.underlying5 h1
    exact ⟨z, hz, bounds_u8 w0⟩)
  refine ⟨s, ?_, ?_, ho⟩
  · rw [← hs]
  · rw [hs, cel_length] at hl12
    exact hl12
end Go.Proofs.Ytjenfhkgceneaaa
