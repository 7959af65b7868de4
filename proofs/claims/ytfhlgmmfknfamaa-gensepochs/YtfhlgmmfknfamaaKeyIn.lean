/- Keys that came in; slices of them, opened at every index. Conditions: those of each theorem. -/
import Derived.Test.YtfhlgmmfknfamaaSts
import Derived.Test.YtfhlgmmfknfamaaFloIn
namespace Go.Proofs.Ytfhlgmmfknfamaa
open Go.ChangeShapes Go.WideShapes Go.ChangeAt Go.RowKit

/-- A key that came in. -/
theorem key_in {H : Type} {enc : TypeId × Value → H} {W : World} {base : Nat} {v : Value} {d : DataW H} {p : List MemPlace} (hok : Value.okWide Try.prog W .any base 22 v) (h : DataW.Trod enc Try.prog W 0 (fun _ => true) true 22 v d p) : ∃ x : Key, v = .agg x.cs.toArray ∧ x.Ok := by
  unfold Value.okWide at hok
  rw [Try.underlying22] at hok
  obtain ⟨cs, rfl, _⟩ := hok
  obtain ⟨fuel, hf⟩ := h
  have hv : (Value.agg cs).cells.toList = cs.toList := rfl
  rw [hv] at hf
  obtain ⟨s, hs, hl, ho⟩ := trod_sixteen hf
  refine ⟨⟨s, hl⟩, ?_, ho⟩
  show Value.agg cs = .agg (cel s).toArray
  rw [← hs]
/-- A slice of keys that came in. -/
theorem keys_in {H : Type} {enc : TypeId × Value → H} {W : World} {base : Nat} {spare : Nat → Bool} {held : Bool} {a : Option Addr} {len cap : Nat} {d : DataW H} {ps : List MemPlace} (h : DataW.Trod enc Try.prog W base spare held 23 (.slice a len cap) d ps) :
    len ≤ maxLen ∧ ∃ L : List Key, L.length = len ∧ Els kKey W a L ∧ ∀ p ∈ L, p.Ok := by
  obtain ⟨fuel, hf⟩ := h
  rcases Go.Deep.open_slice Try.underlying23 hf with ⟨h0, _⟩ | ⟨ad, l, c, m, n, D, Pl, hcs, hb, hl, hm, hmm, _, hx⟩
  · simp [Value.cells] at h0
    obtain ⟨rfl, rfl, rfl⟩ := h0
    exact ⟨by simp, [], rfl, Els.nil, fun p hp => by cases hp⟩
  · simp [Value.cells] at hcs
    obtain ⟨rfl, rfl, rfl⟩ := hcs
    have hlm : len ≤ m := by rw [hmm]; split <;> omega
    refine ⟨by omega, ?_⟩
    rw [show Try.prog.cellsOf 22 = 16 by kernel_rfl] at hx
    have key : ∀ i, i < len → ∃ x : Key, (∀ j v, x.cs[j]? = some v → W.cell? ((ad.add (i * 16)).add j) = some v) ∧ x.Ok := fun i hi => by
      obtain ⟨cs', h1, h2⟩ := hx i (by omega)
      obtain ⟨_, hlen, hcell⟩ := World.cells?_some h1
      obtain ⟨s, hp, hsl, ok⟩ := trod_sixteen h2
      refine ⟨⟨s, hsl⟩, fun j v hv => ?_, ok⟩
      have hv' : (cel s)[j]? = some v := hv
      rw [← hp] at hv'
      have hj := (List.getElem?_eq_some_iff.1 hv').1
      rw [hcell j (by omega)]
      exact hv'
    haveI : Inhabited Key := ⟨key0⟩
    obtain ⟨f, hf⟩ := Go.Deep.choose_lt (α := Key) (n := len) (p := fun i x => (∀ j v, x.cs[j]? = some v → W.cell? ((ad.add (i * 16)).add j) = some v) ∧ x.Ok) key
    refine ⟨(List.range len).map f, by simp, fun k s hk => ?_, fun p hp => ?_⟩
    · have hkl : k < len := by have := (List.getElem?_eq_some_iff.1 hk).1; simpa using this
      have hs : f k = s := by simpa [List.getElem?_map, List.getElem?_range hkl] using hk
      subst hs
      have hsp : ad.spot = none := by
        have hl0 : 0 < (f 0).cs.length := by rw [key16]; omega
        have h0 := (hf 0 (by omega)).1 0 _ (List.getElem?_eq_getElem hl0)
        have e : (ad.add (0 * 16)).add 0 = ad := by simp [Addr.add]
        rw [e] at h0
        exact spot_none h0
      refine ⟨ad.block, ad.off, ?_, fun j v hv => ?_⟩
      · obtain ⟨b, o, s⟩ := ad
        simp at hsp
        subst hsp
        rfl
      · have := (hf k hkl).1 j v hv
        rw [add_plain hsp, Addr.add_mid] at this
        exact this
    · obtain ⟨i, hi, rfl⟩ := List.mem_map.1 hp
      exact (hf i (List.mem_range.1 hi)).2
end Go.Proofs.Ytfhlgmmfknfamaa
