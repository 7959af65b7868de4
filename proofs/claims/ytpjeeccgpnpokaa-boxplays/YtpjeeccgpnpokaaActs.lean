/- What came in: acts, prefixes. Conditions: those of each theorem. -/
import Derived.Test.YtpjeeccgpnpokaaRooms
import Derived.Test.YtpjeeccgpnpokaaIns
import Derived.Deep.Slices
namespace Go.Proofs.Ytpjeeccgpnpokaa
open Go.ChangeShapes Go.WideShapes Go.ChangeAt Go.RowKit

/-- What came in: what is done, prefixes, moments and numbers. -/
def ActsIn (w : World) (A : Option Addr) (n : Nat) (O : Nat → Int) (P : Nat → Pre) (X Y : Nat → Int) : Prop :=
  ∀ k, k < n → ∃ b o, A = some ⟨b, o, none⟩ ∧ w.rangeAt b (o + k * 11) (.int .u8 (O k) :: ((P k).cs ++ [.int .i64 (X k), .int .i64 (Y k)])) ∧ (P k).Ok ∧ byt (O k) ∧ (-9223372036854775808 ≤ X k ∧ X k ≤ 9223372036854775807) ∧ (-9223372036854775808 ≤ Y k ∧ Y k ≤ 9223372036854775807)
theorem ActsIn.far {w w' : World} {A : Option Addr} {n : Nat} {O : Nat → Int} {P : Nat → Pre} {X Y : Nat → Int} (h : ActsIn w A n O P X Y) (hb : Below w.heap.size w w') : ActsIn w' A n O P X Y := fun k hk => by
  obtain ⟨b, o, e, h1, h2⟩ := h k hk
  exact ⟨b, o, e, fun j v hv => (hb.cell (World.block_lt_of_cell? w _ (h1 j v hv))).trans (h1 j v hv), h2⟩
/-- A slice of what is done, prefixes and numbers that came in. -/
theorem acts_in {H : Type} {enc : TypeId × Value → H} {W : World} {base : Nat} {spare : Nat → Bool} {held : Bool} {a : Option Addr} {len cap : Nat} {d : DataW H} {ps : List MemPlace} (h : DataW.Trod enc Try.prog W base spare held 22 (.slice a len cap) d ps) :
    len ≤ maxLen ∧ ∃ (O : Nat → Int) (P : Nat → Pre) (X Y : Nat → Int), ActsIn W a len O P X Y := by
  obtain ⟨fuel, hf⟩ := h
  rcases Go.Deep.open_slice Try.underlying22 hf with ⟨h0, _⟩ | ⟨ad, l, c, m, n, D, Pl, hcs, hb, hl, hm, hmm, _, hx⟩
  · simp [Value.cells] at h0
    obtain ⟨rfl, rfl, rfl⟩ := h0
    exact ⟨by simp, fun _ => 0, fun _ => pre0, fun _ => 0, fun _ => 0, fun i hi => absurd hi (by omega)⟩
  · simp [Value.cells] at hcs
    obtain ⟨rfl, rfl, rfl⟩ := hcs
    have hlm : len ≤ m := by rw [hmm]; split <;> omega
    refine ⟨by omega, ?_⟩
    rw [show Try.prog.cellsOf 39 = 11 by kernel_rfl] at hx
    have key : ∀ i, i < len → ∃ x : Int × Pre × Int × Int, (∀ j v, (Value.int .u8 x.1 :: (x.2.1.cs ++ [.int .i64 x.2.2.1, .int .i64 x.2.2.2]))[j]? = some v → W.cell? ((ad.add (i * 11)).add j) = some v) ∧ x.2.1.Ok ∧ byt x.1 ∧ (-9223372036854775808 ≤ x.2.2.1 ∧ x.2.2.1 ≤ 9223372036854775807) ∧ (-9223372036854775808 ≤ x.2.2.2 ∧ x.2.2.2 ≤ 9223372036854775807) := fun i hi => by
      obtain ⟨cs', h1, h2⟩ := hx i (by omega)
      obtain ⟨_, hlen, hcell⟩ := World.cells?_some h1
      obtain ⟨xs, k, _, _, _, hxl, hf⟩ := DataW.trod_struct Try.underlying39 h2
      match xs, hxl with
      | [y0, y1, y2, y3], _ =>
        have g0 : DataW.trod enc Try.prog W base spare held k 5 ((cs'.drop 0).take (Try.prog.cellsOf 5)) = some y0 := hf 0 _ rfl
        have g1 : DataW.trod enc Try.prog W base spare held k 31 ((cs'.drop 1).take (Try.prog.cellsOf 31)) = some y1 := hf 1 _ rfl
        have g2 : DataW.trod enc Try.prog W base spare held k 2 ((cs'.drop 9).take (Try.prog.cellsOf 2)) = some y2 := hf 2 _ rfl
        have g3 : DataW.trod enc Try.prog W base spare held k 2 ((cs'.drop 10).take (Try.prog.cellsOf 2)) = some y3 := hf 3 _ rfl
        rw [show Try.prog.cellsOf 5 = 1 by kernel_rfl] at g0
        rw [show Try.prog.cellsOf 2 = 1 by kernel_rfl] at g2 g3
        rw [show Try.prog.cellsOf 31 = 8 by kernel_rfl] at g1
        obtain ⟨t, ht, _, wt⟩ := DataW.trod_int Try.underlying5 g0
        obtain ⟨p, hp, ok⟩ := trod_pre g1
        obtain ⟨z, hz, _, wz⟩ := DataW.trod_int Try.underlying2 g2
        obtain ⟨y, hy, _, wy⟩ := DataW.trod_int Try.underlying2 g3
        have bt := byt_of wt
        have bz := bounds_i64 wz
        have by_ := bounds_i64 wy
        have e1 : (cs'.drop 10).take 1 = cs'.drop 10 := List.take_of_length_le (by rw [List.length_drop]; omega)
        rw [e1] at hy
        have e2 : cs' = .int .u8 t :: (p.cs ++ [.int .i64 z, .int .i64 y]) := by
          have a1 : cs' = (cs'.drop 0).take 1 ++ cs'.drop 1 := (List.take_append_drop 1 cs').symm
          have a2 : cs'.drop 1 = (cs'.drop 1).take 8 ++ cs'.drop 9 := by
            have := (List.take_append_drop 8 (cs'.drop 1)).symm
            rw [List.drop_drop] at this
            exact this
          have a3 : cs'.drop 9 = (cs'.drop 9).take 1 ++ cs'.drop 10 := by
            have := (List.take_append_drop 1 (cs'.drop 9)).symm
            rw [List.drop_drop] at this
            exact this
          rw [a1, a2, a3, ht, hp, hz, hy]
          rfl
        refine ⟨(t, p, z, y), fun j v hv => ?_, ok, bt, bz, by_⟩
        rw [← e2] at hv
        have hj := (List.getElem?_eq_some_iff.1 hv).1
        rw [hcell j (by omega)]
        exact hv
    haveI : Inhabited (Int × Pre × Int × Int) := ⟨(0, pre0, 0, 0)⟩
    obtain ⟨f, hf⟩ := Go.Deep.choose_lt (α := Int × Pre × Int × Int) (n := len) (p := fun i x => (∀ j v, (Value.int .u8 x.1 :: (x.2.1.cs ++ [.int .i64 x.2.2.1, .int .i64 x.2.2.2]))[j]? = some v → W.cell? ((ad.add (i * 11)).add j) = some v) ∧ x.2.1.Ok ∧ byt x.1 ∧ (-9223372036854775808 ≤ x.2.2.1 ∧ x.2.2.1 ≤ 9223372036854775807) ∧ (-9223372036854775808 ≤ x.2.2.2 ∧ x.2.2.2 ≤ 9223372036854775807)) key
    refine ⟨fun k => (f k).1, fun k => (f k).2.1, fun k => (f k).2.2.1, fun k => (f k).2.2.2, fun k hk => ?_⟩
    have hs : ad.spot = none := by
      have h0 := (hf 0 (by omega)).1 0 (.int .u8 (f 0).1) rfl
      have e : (ad.add (0 * 11)).add 0 = ad := by simp [Addr.add]
      rw [e] at h0
      exact spot_none h0
    obtain ⟨h1, h2, h3, h4, h5⟩ := hf k hk
    refine ⟨ad.block, ad.off, ?_, fun j v hv => ?_, h2, h3, h4, h5⟩
    · obtain ⟨b, o, s⟩ := ad
      simp at hs
      subst hs
      rfl
    · have := h1 j v hv
      rw [add_plain hs, Addr.add_mid] at this
      exact this
end Go.Proofs.Ytpjeeccgpnpokaa
