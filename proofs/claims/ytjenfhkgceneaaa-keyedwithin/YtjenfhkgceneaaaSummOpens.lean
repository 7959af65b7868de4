/- A key that came in, opened. Conditions: those of each theorem. -/
import Derived.Test.YtjenfhkgceneaaaSummRefSum
import Derived.OpenShut
import Derived.ChangeOld
namespace Go.Proofs.Ytjenfhkgceneaaa.summ
open Go.ChangeShapes Go.WideShapes Go.ChangeAt Go.RowKit

theorem cells5 : Try.prog.cellsOf 5 = 1 := by kernel_rfl
theorem cells22 : Try.prog.cellsOf 22 = 16 := by kernel_rfl
theorem open_key {H : Type} {enc : TypeId × Value → H} {W : World} {base : Nat} {v : Value} {d : DataW H} {p : List MemPlace} (hok : Value.okWide Try.prog W .any base 22 v) (h : DataW.Trod enc Try.prog W 0 (fun _ => true) true 22 v d p) :
    ∃ k : List Nat, v = .agg (cel k).toArray ∧ k.length = 16 ∧ Octs k := by
  unfold Value.okWide at hok
  rw [Try.underlying22] at hok
  obtain ⟨cs, rfl, hsz, _⟩ := hok
  rw [cells22] at hsz
  obtain ⟨fuel, hf⟩ := h
  obtain ⟨xs, m, _, _, _, hxl, hx⟩ := DataW.trod_array Try.underlying22 hf
  have hz : ∀ i, i < 16 → ∃ z : Nat, cs[i]? = some (.int .u8 (z : Nat)) ∧ z < 256 := by
    intro i hi
    have h1 := hx i hi
    rw [cells5, Nat.mul_one] at h1
    obtain ⟨y, hy⟩ : ∃ y, xs[i]? = some y := ⟨_, List.getElem?_eq_getElem (by omega)⟩
    rw [hy] at h1
    obtain ⟨z, hz, _, w0⟩ := DataW.trod_int Try.underlying5 h1
    have hb := bounds_u8 w0
    refine ⟨z.toNat, ?_, by omega⟩
    have e : ((Value.agg cs).cells.toList.drop i).take 1 = [cs[i]'(by omega)] := by
      rw [List.drop_eq_getElem_cons (by simp [Value.cells]; omega)]
      simp [Value.cells]
    rw [e] at hz
    rw [Array.getElem?_eq_getElem (by omega)]
    have : cs[i]'(by omega) = .int .u8 z := by simpa using hz
    rw [this, Int.toNat_of_nonneg hb.1]
  refine ⟨(List.range 16).map fun i => ((cs[i]?.map fun u => match u with | .int _ z => z.toNat | _ => 0).getD 0), ?_, by simp, ?_⟩
  · congr 1
    apply Array.ext_getElem?
    intro i
    by_cases hi : i < 16
    · obtain ⟨z, hz, _⟩ := hz i hi
      simp [cel, hz, hi]
    · rw [Array.getElem?_eq_none (by omega), Array.getElem?_eq_none (by simp [cel]; omega)]
  · intro b hb
    obtain ⟨i, hi, rfl⟩ := List.mem_map.1 hb
    obtain ⟨z, hz, hlt⟩ := hz i (List.mem_range.1 hi)
    simp [hz, hlt]

end Go.Proofs.Ytjenfhkgceneaaa.summ
