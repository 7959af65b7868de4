/- Flows that came in; slices of them, opened at every index. Conditions: those of each theorem. -/
import Derived.Test.YtfhlgmmfknfamaaFlos
import Derived.ChangeOld
import Derived.Deep.Slices
namespace Go.Proofs.Ytfhlgmmfknfamaa
open Go.ChangeShapes Go.WideShapes Go.ChangeAt Go.RowKit

theorem byt_of {z : Int} (h : (Lit.int .u8 z).wf = true) : byt z := by
  have h1 : IntKind.u8.min = 0 := rfl
  have h2 : IntKind.u8.max = 255 := rfl
  simp [Lit.wf] at h
  rw [h1, h2] at h
  exact h
theorem one_of {H : Type} {enc : TypeId × Value → H} {W : World} {base : Nat} {spare : Nat → Bool} {held : Bool} {m : Nat} {v : Value} {o : Option (DataW H × List MemPlace)} {x : DataW H × List MemPlace} (h : DataW.trod enc Try.prog W base spare held m 5 [v] = o) (ho : o = some x) : ∃ z, v = .int .u8 z ∧ byt z := by
  subst ho
  obtain ⟨z, hz, _, wz⟩ := DataW.trod_int Try.underlying5 h
  simp at hz
  exact ⟨z, hz, byt_of wz⟩
/-- Cells that are bytes each. -/
theorem cel_of : ∀ (cs : List Value), (∀ i, i < cs.length → ∃ z : Int, (cs.drop i).take 1 = [.int .u8 z] ∧ byt z) → ∃ s : List Int, cs = cel s ∧ ∀ z ∈ s, byt z
  | [], _ => ⟨[], rfl, fun _ h => by cases h⟩
  | v :: r, h => by
    obtain ⟨z, hz, hb⟩ := h 0 (by simp)
    obtain ⟨s, rfl, ho⟩ := cel_of r (fun i hi => by
      obtain ⟨y, hy, hc⟩ := h (i + 1) (by simpa using hi)
      exact ⟨y, by simpa using hy, hc⟩)
    obtain rfl : v = .int .u8 z := by simpa using hz
    refine ⟨z :: s, rfl, fun y hy => ?_⟩
    rcases List.mem_cons.1 hy with rfl | hy
    · exact hb
    · exact ho y hy
section
variable {H : Type} {enc : TypeId × Value → H} {W : World} {base : Nat} {spare : Nat → Bool} {held : Bool} {m : Nat} {cs : List Value} {x : DataW H × List MemPlace}
/-- Sixteen bytes, as cells. -/
theorem trod_sixteen (h : DataW.trod enc Try.prog W base spare held m 22 cs = some x) : ∃ s, cs = cel s ∧ s.length = 16 ∧ ∀ z ∈ s, byt z := by
  obtain ⟨xs, k, _, _, hl, hxl, hx⟩ := DataW.trod_array Try.underlying22 h
  have hl16 : cs.length = 16 := by rw [hl]; kernel_rfl
  obtain ⟨s, rfl, ho⟩ := cel_of cs (fun i hi => by
    have h1 := hx i (by omega)
    rw [show Try.prog.cellsOf 5 = 1 by kernel_rfl, Nat.mul_one] at h1
    obtain ⟨y, hy⟩ : ∃ y, xs[i]? = some y := ⟨_, List.getElem?_eq_getElem (by omega)⟩
    rw [hy] at h1
    obtain ⟨z, hz, _, w0⟩ := DataW.trod_int Try.underlying5 h1
    exact ⟨z, hz, byt_of w0⟩)
  exact ⟨s, rfl, by rw [cel_length] at hl16; exact hl16, ho⟩
theorem split36 (l : List Value) (h : l.length = 36) : l = (l.drop 0).take 1 ++ ((l.drop 1).take 1 ++ ((l.drop 2).take 16 ++ ((l.drop 18).take 16 ++ ((l.drop 34).take 1 ++ (l.drop 35).take 1)))) := by
  have e : ∀ a b : Nat, l.drop a = (l.drop a).take b ++ l.drop (a + b) := fun a b => by
    rw [← List.drop_drop]
    exact (List.take_append_drop b (l.drop a)).symm
  have e35 : (l.drop 35).take 1 = l.drop 35 := List.take_of_length_le (by rw [List.length_drop]; omega)
  rw [e35, ← e 34 1, ← e 18 16, ← e 2 16, ← e 1 1, ← e 0 1]
  rfl

/-- A flow, as cells. -/
theorem trod_flo (h : DataW.trod enc Try.prog W base spare held m 45 cs = some x) : ∃ f : Flo, cs = f.cs ∧ f.Ok := by
  obtain ⟨xs, k, _, _, hl, hxl, hx⟩ := DataW.trod_struct Try.underlying45 h
  have hl36 : cs.length = 36 := by rw [hl]; kernel_rfl
  match xs, hxl with
  | [y0, y1, y2, y3, y4, y5], _ =>
    have g0 : DataW.trod enc Try.prog W base spare held k 4 ((cs.drop 0).take (Try.prog.cellsOf 4)) = some y0 := hx 0 _ rfl
    have g1 : DataW.trod enc Try.prog W base spare held k 5 ((cs.drop 1).take (Try.prog.cellsOf 5)) = some y1 := hx 1 _ rfl
    have g2 : DataW.trod enc Try.prog W base spare held k 22 ((cs.drop 2).take (Try.prog.cellsOf 22)) = some y2 := hx 2 _ rfl
    have g3 : DataW.trod enc Try.prog W base spare held k 22 ((cs.drop 18).take (Try.prog.cellsOf 22)) = some y3 := hx 3 _ rfl
    have g4 : DataW.trod enc Try.prog W base spare held k 43 ((cs.drop 34).take (Try.prog.cellsOf 43)) = some y4 := hx 4 _ rfl
    have g5 : DataW.trod enc Try.prog W base spare held k 43 ((cs.drop 35).take (Try.prog.cellsOf 43)) = some y5 := hx 5 _ rfl
    rw [show Try.prog.cellsOf 4 = 1 by kernel_rfl] at g0
    rw [show Try.prog.cellsOf 5 = 1 by kernel_rfl] at g1
    rw [show Try.prog.cellsOf 22 = 16 by kernel_rfl] at g2 g3
    rw [show Try.prog.cellsOf 43 = 1 by kernel_rfl] at g4 g5
    obtain ⟨v, hb, _⟩ := DataW.trod_bool Try.underlying4 g0
    obtain ⟨q, hq, _, wq⟩ := DataW.trod_int Try.underlying5 g1
    obtain ⟨s, hs, h16, os⟩ := trod_sixteen g2
    obtain ⟨e, he, k16, oe⟩ := trod_sixteen g3
    obtain ⟨a, ha, _, wa⟩ := DataW.trod_int Try.underlying43 g4
    obtain ⟨b, hb2, _, wb⟩ := DataW.trod_int Try.underlying43 g5
    have ba := bounds_u16 wa
    have bb := bounds_u16 wb
    have hall := split36 cs hl36
    rw [hb, hq, hs, he, ha, hb2] at hall
    refine ⟨⟨v, q, s, e, a.toNat, b.toNat, h16, k16⟩, ?_, ⟨byt_of wq, os, oe, by show a.toNat ≤ _; omega, by show b.toNat ≤ _; omega⟩⟩
    show cs = .bool v :: .int .u8 q :: (cel s ++ (cel e ++ [.int .u16 ((a.toNat : Nat) : Int), .int .u16 ((b.toNat : Nat) : Int)]))
    rw [hall, Int.toNat_of_nonneg ba.1, Int.toNat_of_nonneg bb.1]
    rfl
end
/-- A flow that came in. -/
theorem flow_in {H : Type} {enc : TypeId × Value → H} {W : World} {base : Nat} {v : Value} {d : DataW H} {p : List MemPlace} (hok : Value.okWide Try.prog W .any base 45 v) (h : DataW.Trod enc Try.prog W 0 (fun _ => true) true 45 v d p) : ∃ x : Flo, v = .agg x.cs.toArray ∧ x.Ok := by
  obtain ⟨cs, rfl, _⟩ := okWide_struct Try.underlying45 hok
  obtain ⟨fuel, hf⟩ := h
  have hv : (Value.agg cs).cells.toList = cs.toList := rfl
  rw [hv] at hf
  obtain ⟨x, hx, ok⟩ := trod_flo hf
  exact ⟨x, by rw [← hx], ok⟩
theorem spot_none {w : World} {a : Addr} {v : Value} (h : w.cell? a = some v) : a.spot = none := by
  unfold World.cell? at h
  split at h
  · split at h
    · cases h
    · rename_i hs
      cases hsp : a.spot with
      | none => rfl
      | some s => rw [hsp] at hs; simp at hs
  · cases h
theorem add_plain {a : Addr} (h : a.spot = none) (i : Nat) : a.add i = ⟨a.block, a.off + i, none⟩ := by
  obtain ⟨b, o, s⟩ := a
  simp at h
  subst h
  exact Addr.add_mid b o i
/-- A slice of flows that came in. -/
theorem flows_in {H : Type} {enc : TypeId × Value → H} {W : World} {base : Nat} {spare : Nat → Bool} {held : Bool} {a : Option Addr} {len cap : Nat} {d : DataW H} {ps : List MemPlace} (h : DataW.Trod enc Try.prog W base spare held 24 (.slice a len cap) d ps) :
    len ≤ maxLen ∧ ∃ L : List Flo, L.length = len ∧ Els kFlo W a L ∧ ∀ p ∈ L, p.Ok := by
  obtain ⟨fuel, hf⟩ := h
  rcases Go.Deep.open_slice Try.underlying24 hf with ⟨h0, _⟩ | ⟨ad, l, c, m, n, D, Pl, hcs, hb, hl, hm, hmm, _, hx⟩
  · simp [Value.cells] at h0
    obtain ⟨rfl, rfl, rfl⟩ := h0
    exact ⟨by simp, [], rfl, Els.nil, fun p hp => by cases hp⟩
  · simp [Value.cells] at hcs
    obtain ⟨rfl, rfl, rfl⟩ := hcs
    have hlm : len ≤ m := by rw [hmm]; split <;> omega
    refine ⟨by omega, ?_⟩
    rw [show Try.prog.cellsOf 45 = 36 by kernel_rfl] at hx
    have key : ∀ i, i < len → ∃ x : Flo, (∀ j v, x.cs[j]? = some v → W.cell? ((ad.add (i * 36)).add j) = some v) ∧ x.Ok := fun i hi => by
      obtain ⟨cs', h1, h2⟩ := hx i (by omega)
      obtain ⟨_, hlen, hcell⟩ := World.cells?_some h1
      obtain ⟨p, hp, ok⟩ := trod_flo h2
      refine ⟨p, fun j v hv => ?_, ok⟩
      rw [← hp] at hv
      have hj := (List.getElem?_eq_some_iff.1 hv).1
      rw [hcell j (by omega)]
      exact hv
    haveI : Inhabited Flo := ⟨flo0⟩
    obtain ⟨f, hf⟩ := Go.Deep.choose_lt (α := Flo) (n := len) (p := fun i x => (∀ j v, x.cs[j]? = some v → W.cell? ((ad.add (i * 36)).add j) = some v) ∧ x.Ok) key
    refine ⟨(List.range len).map f, by simp, fun k s hk => ?_, fun p hp => ?_⟩
    · have hkl : k < len := by have := (List.getElem?_eq_some_iff.1 hk).1; simpa using this
      have hs : f k = s := by simpa [List.getElem?_map, List.getElem?_range hkl] using hk
      subst hs
      have hsp : ad.spot = none := by
        have h0 := (hf 0 (by omega)).1 0 (.bool (f 0).v) rfl
        have e : (ad.add (0 * 36)).add 0 = ad := by simp [Addr.add]
        rw [e] at h0
        exact spot_none h0
      refine ⟨ad.block, ad.off, ?_, fun j v hv => ?_⟩
      · obtain ⟨b, o, s⟩ := ad
        simp at hsp
        subst hsp
        rfl
      · have := (hf k hkl).1 j v hv
        rw [add_plain hsp, Addr.add_mid] at this
        exact this
    · obtain ⟨i, hi, rfl⟩ := List.mem_map.1 hp
      exact (hf i (List.mem_range.1 hi)).2
end Go.Proofs.Ytfhlgmmfknfamaa
