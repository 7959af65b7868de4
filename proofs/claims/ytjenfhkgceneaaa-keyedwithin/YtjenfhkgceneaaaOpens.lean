/- A flow that came in, opened: a bool, a byte, two arrays of sixteen bytes, two numbers of 16 bits. Conditions: those of each theorem. -/
import Derived.Test.YtjenfhkgceneaaaWords
import Derived.OpenShut
import Derived.ChangeOld
namespace Go.Proofs.Ytjenfhkgceneaaa
open Go.ChangeShapes Go.WideShapes Go.ChangeAt Go.RowKit

/-- Cells that are bytes each. -/
theorem cel_of : ∀ (cs : List Value), (∀ i, i < cs.length → ∃ z : Int, (cs.drop i).take 1 = [.int .u8 z] ∧ 0 ≤ z ∧ z ≤ 255) → ∃ s : List Int, cs = cel s ∧ Octs s
  | [], _ => ⟨[], rfl, Octs.nil⟩
  | v :: r, h => by
    obtain ⟨z, hz, hb⟩ := h 0 (by simp)
    obtain ⟨s, rfl, ho⟩ := cel_of r (fun i hi => by
      obtain ⟨y, hy, hc⟩ := h (i + 1) (by simpa using hi)
      exact ⟨y, by simpa using hy, hc⟩)
    obtain rfl : v = .int .u8 z := by simpa using hz
    refine ⟨z :: s, rfl, fun y hy => ?_⟩
    rcases List.mem_cons.1 hy with rfl | hy
    · exact hb
    · exact ho y hy

/-- Sixteen bytes, as cells. -/
theorem trod_sixteen {H : Type} {enc : TypeId × Value → H} {W : World} {m : Nat} {cs : List Value} {x : DataW H × List MemPlace} (h : DataW.trod enc Try.prog W 0 (fun _ => true) true m 22 cs = some x) : ∃ s, cs = cel s ∧ Sixteen s ∧ Octs s := by
  obtain ⟨xs, k, _, _, hl, hxl, hx⟩ := DataW.trod_array Try.underlying22 h
  have hl16 : cs.length = 16 := by rw [hl]; kernel_rfl
  obtain ⟨s, rfl, ho⟩ := cel_of cs (fun i hi => by
    have h1 := hx i (by omega)
    rw [show Try.prog.cellsOf 5 = 1 by kernel_rfl, Nat.mul_one] at h1
    obtain ⟨y, hy⟩ : ∃ y, xs[i]? = some y := ⟨_, List.getElem?_eq_getElem (by omega)⟩
    rw [hy] at h1
    obtain ⟨z, hz, _, w0⟩ := DataW.trod_int Try.underlying5 h1
    exact ⟨z, hz, bounds_u8 w0⟩)
  exact ⟨s, rfl, by rw [cel_length] at hl16; exact hl16, ho⟩

theorem split36 (l : List Value) (h : l.length = 36) : l = (l.drop 0).take 1 ++ ((l.drop 1).take 1 ++ ((l.drop 2).take 16 ++ ((l.drop 18).take 16 ++ ((l.drop 34).take 1 ++ (l.drop 35).take 1)))) := by
  have e : ∀ a b : Nat, l.drop a = (l.drop a).take b ++ l.drop (a + b) := fun a b => by
    rw [← List.drop_drop]
    exact (List.take_append_drop b (l.drop a)).symm
  have e35 : (l.drop 35).take 1 = l.drop 35 := List.take_of_length_le (by rw [List.length_drop]; omega)
  rw [e35, ← e 34 1, ← e 18 16, ← e 2 16, ← e 1 1, ← e 0 1]
  rfl

/-- Such a struct. -/
theorem open_flow {H : Type} {enc : TypeId × Value → H} {W : World} {base : Nat} {u : Value} {d : DataW H} {p : List MemPlace} (hok : Value.okWide Try.prog W .any base 25 u) (h : DataW.Trod enc Try.prog W 0 (fun _ => true) true 25 u d p) :
    ∃ (v : Bool) (q : Int) (s e : List Int) (a b : Nat), u = .agg (flo v q s e a b).toArray ∧ Sixteen s ∧ Sixteen e ∧ Octs s ∧ Octs e ∧ (0 ≤ q ∧ q ≤ 255) ∧ a ≤ 65535 ∧ b ≤ 65535 := by
  unfold Value.okWide at hok
  rw [Try.underlying25] at hok
  obtain ⟨cs, rfl, hsz, _⟩ := hok
  have hsz36 : cs.toList.length = 36 := by rw [Array.length_toList, hsz]; kernel_rfl
  obtain ⟨fuel, hf⟩ := h
  obtain ⟨xs, m, _, _, _, hxl, hx⟩ := DataW.trod_struct Try.underlying25 hf
  have hv : (Value.agg cs).cells.toList = cs.toList := rfl
  rw [hv] at hx
  match xs, hxl with
  | [y0, y1, y2, y3, y4, y5], _ =>
    have g0 : DataW.trod enc Try.prog W 0 (fun _ => true) true m 4 ((cs.toList.drop 0).take (Try.prog.cellsOf 4)) = some y0 := hx 0 _ rfl
    have g1 : DataW.trod enc Try.prog W 0 (fun _ => true) true m 5 ((cs.toList.drop 1).take (Try.prog.cellsOf 5)) = some y1 := hx 1 _ rfl
    have g2 : DataW.trod enc Try.prog W 0 (fun _ => true) true m 22 ((cs.toList.drop 2).take (Try.prog.cellsOf 22)) = some y2 := hx 2 _ rfl
    have g3 : DataW.trod enc Try.prog W 0 (fun _ => true) true m 22 ((cs.toList.drop 18).take (Try.prog.cellsOf 22)) = some y3 := hx 3 _ rfl
    have g4 : DataW.trod enc Try.prog W 0 (fun _ => true) true m 23 ((cs.toList.drop 34).take (Try.prog.cellsOf 23)) = some y4 := hx 4 _ rfl
    have g5 : DataW.trod enc Try.prog W 0 (fun _ => true) true m 23 ((cs.toList.drop 35).take (Try.prog.cellsOf 23)) = some y5 := hx 5 _ rfl
    rw [show Try.prog.cellsOf 4 = 1 by kernel_rfl] at g0
    rw [show Try.prog.cellsOf 5 = 1 by kernel_rfl] at g1
    rw [show Try.prog.cellsOf 22 = 16 by kernel_rfl] at g2 g3
    rw [show Try.prog.cellsOf 23 = 1 by kernel_rfl] at g4 g5
    obtain ⟨v, hb, _⟩ := DataW.trod_bool Try.underlying4 g0
    obtain ⟨q, hq, _, wq⟩ := DataW.trod_int Try.underlying5 g1
    obtain ⟨s, hs, h16, os⟩ := trod_sixteen g2
    obtain ⟨e, he, k16, oe⟩ := trod_sixteen g3
    obtain ⟨a, ha, _, wa⟩ := DataW.trod_int Try.underlying23 g4
    obtain ⟨b, hb2, _, wb⟩ := DataW.trod_int Try.underlying23 g5
    have ba := bounds_u16 wa
    have bb := bounds_u16 wb
    have hall := split36 cs.toList hsz36
    rw [hb, hq, hs, he, ha, hb2] at hall
    refine ⟨v, q, s, e, a.toNat, b.toNat, ?_, h16, k16, os, oe, bounds_u8 wq, by omega, by omega⟩
    rw [flo, Int.toNat_of_nonneg ba.1, Int.toNat_of_nonneg bb.1]
    congr 1
    apply Array.toList_inj.1
    rw [hall]
    rfl
end Go.Proofs.Ytjenfhkgceneaaa
