/- A prefix that came in; a slice of prefixes and numbers that came in, opened at every index. Conditions: those of each theorem. -/
import Derived.Test.YtpjeeccgpnpokaaEqs
import Derived.ChangeOld
namespace Go.Proofs.Ytpjeeccgpnpokaa
open Go.ChangeShapes Go.WideShapes Go.ChangeAt Go.RowKit

theorem byt_of {z : Int} (h : (Lit.int .u8 z).wf = true) : byt z := by
  have h1 : IntKind.u8.min = 0 := rfl
  have h2 : IntKind.u8.max = 255 := rfl
  simp [Lit.wf] at h
  rw [h1, h2] at h
  exact h
theorem one_of {H : Type} {enc : TypeId × Value → H} {W : World} {base : Nat} {spare : Nat → Bool} {held : Bool} {m : Nat} {v : Value} {o : Option (DataW H × List MemPlace)} {x : DataW H × List MemPlace} (h : DataW.trod enc Try.prog W base spare held m 5 [v] = o) (ho : o = some x) : ∃ z, v = .int .u8 z ∧ byt z := by
  subst ho
  obtain ⟨z, hz, _, wz⟩ := DataW.trod_int Try.underlying5 h
  simp at hz
  exact ⟨z, hz, byt_of wz⟩
/-- Seven bytes, as cells. -/
theorem trod_seven {H : Type} {enc : TypeId × Value → H} {W : World} {base : Nat} {spare : Nat → Bool} {held : Bool} {m : Nat} {cs : List Value} {x : DataW H × List MemPlace} (h : DataW.trod enc Try.prog W base spare held m 29 cs = some x) :
    ∃ a b c d e f g, cs = cel [a, b, c, d, e, f, g] ∧ ∀ z ∈ [a, b, c, d, e, f, g], byt z := by
  obtain ⟨xs, k, _, _, hl, hxl, hx⟩ := DataW.trod_array Try.underlying29 h
  have hl7 : cs.length = 7 := by rw [hl]; kernel_rfl
  rw [show Try.prog.cellsOf 5 = 1 by kernel_rfl] at hx
  have key : ∀ i, i < 7 → ∃ y, xs[i]? = some y := fun i hi => ⟨_, List.getElem?_eq_getElem (by omega)⟩
  match cs, hl7 with
  | [v0, v1, v2, v3, v4, v5, v6], _ =>
    obtain ⟨y0, e0⟩ := key 0 (by omega)
    obtain ⟨y1, e1⟩ := key 1 (by omega)
    obtain ⟨y2, e2⟩ := key 2 (by omega)
    obtain ⟨y3, e3⟩ := key 3 (by omega)
    obtain ⟨y4, e4⟩ := key 4 (by omega)
    obtain ⟨y5, e5⟩ := key 5 (by omega)
    obtain ⟨y6, e6⟩ := key 6 (by omega)
    obtain ⟨z0, rfl, b0⟩ := one_of (hx 0 (by omega)) e0
    obtain ⟨z1, rfl, b1⟩ := one_of (hx 1 (by omega)) e1
    obtain ⟨z2, rfl, b2⟩ := one_of (hx 2 (by omega)) e2
    obtain ⟨z3, rfl, b3⟩ := one_of (hx 3 (by omega)) e3
    obtain ⟨z4, rfl, b4⟩ := one_of (hx 4 (by omega)) e4
    obtain ⟨z5, rfl, b5⟩ := one_of (hx 5 (by omega)) e5
    obtain ⟨z6, rfl, b6⟩ := one_of (hx 6 (by omega)) e6
    refine ⟨z0, z1, z2, z3, z4, z5, z6, rfl, fun z hz => ?_⟩
    simp only [List.mem_cons, List.not_mem_nil, or_false] at hz
    rcases hz with rfl | rfl | rfl | rfl | rfl | rfl | rfl <;> assumption
/-- A prefix, as cells. -/
theorem trod_pre {H : Type} {enc : TypeId × Value → H} {W : World} {base : Nat} {spare : Nat → Bool} {held : Bool} {m : Nat} {cs : List Value} {x : DataW H × List MemPlace} (h : DataW.trod enc Try.prog W base spare held m 31 cs = some x) : ∃ p : Pre, cs = p.cs ∧ p.Ok := by
  obtain ⟨xs, k, _, _, hl, hxl, hx⟩ := DataW.trod_struct Try.underlying31 h
  have hl8 : cs.length = 8 := by rw [hl]; kernel_rfl
  match xs, hxl with
  | [y0, y1], _ =>
    have g0 : DataW.trod enc Try.prog W base spare held k 4 ((cs.drop 0).take (Try.prog.cellsOf 4)) = some y0 := hx 0 _ rfl
    have g1 : DataW.trod enc Try.prog W base spare held k 29 ((cs.drop 1).take (Try.prog.cellsOf 29)) = some y1 := hx 1 _ rfl
    rw [show Try.prog.cellsOf 4 = 1 by kernel_rfl] at g0
    rw [show Try.prog.cellsOf 29 = 7 by kernel_rfl] at g1
    obtain ⟨v, hv, _⟩ := DataW.trod_bool Try.underlying4 g0
    obtain ⟨a, b, c, d, e, f, g, hs, hb⟩ := trod_seven g1
    refine ⟨⟨v, a, b, c, d, e, f, g⟩, ?_, ⟨hb⟩⟩
    have e1 : (cs.drop 1).take 7 = cs.drop 1 := List.take_of_length_le (by rw [List.length_drop]; omega)
    rw [e1] at hs
    have e2 : cs = (cs.drop 0).take 1 ++ cs.drop 1 := (List.take_append_drop 1 cs).symm
    rw [e2, hv, hs]
    rfl
/-- A prefix that came in. -/
theorem prefix_in {H : Type} {enc : TypeId × Value → H} {W : World} {base : Nat} {v : Value} {d : DataW H} {p : List MemPlace} (hok : Value.okWide Try.prog W .any base 31 v) (h : DataW.Trod enc Try.prog W 0 (fun _ => true) true 31 v d p) : ∃ x : Pre, v = .agg x.cs.toArray ∧ x.Ok := by
  obtain ⟨cs, rfl, _⟩ := okWide_struct Try.underlying31 hok
  obtain ⟨fuel, hf⟩ := h
  have hv : (Value.agg cs).cells.toList = cs.toList := rfl
  rw [hv] at hf
  obtain ⟨x, hx, ok⟩ := trod_pre hf
  exact ⟨x, by rw [← hx], ok⟩
theorem spot_none {w : World} {a : Addr} {v : Value} (h : w.cell? a = some v) : a.spot = none := by
  unfold World.cell? at h
  split at h
  · split at h
    · cases h
    · rename_i hs
      cases hsp : a.spot with
      | none => rfl
      | some s => rw [hsp] at hs; simp at hs
  · cases h
theorem add_plain {a : Addr} (h : a.spot = none) (i : Nat) : a.add i = ⟨a.block, a.off + i, none⟩ := by
  obtain ⟨b, o, s⟩ := a
  simp at h
  subst h
  exact Addr.add_mid b o i
end Go.Proofs.Ytpjeeccgpnpokaa
