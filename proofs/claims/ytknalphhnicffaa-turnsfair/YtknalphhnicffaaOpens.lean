/- What came in, opened: acts (a kind, a class, a slice of heads each), rows of eight, bytes. Conditions: those of each theorem. -/
import Derived.Test.YtknalphhnicffaaPlayFar
import Derived.Test.YtknalphhnicffaaFairMem
import Derived.Deep.Slices
import Derived.ChangeSlices
namespace Go.Proofs.Ytknalphhnicffaa
open Go.ChangeShapes Go.WideShapes Go.ChangeAt Go.RowKit

instance : Inhabited ActIn := ⟨⟨0, 0, none, 0, []⟩⟩
/-- A slice of numbers, as heads. -/
theorem heads_in {H : Type} {enc : TypeId × Value → H} {W : World} {base : Nat} {spare : Nat → Bool} {held : Bool} {fuel : Nat} {cs : List Value} {x : DataW H × List MemPlace} (h : DataW.trod enc Try.prog W base spare held fuel 30 cs = some x) :
    ∃ (B : Option Addr) (c : Nat) (hs : List Int), cs = [.slice B hs.length c] ∧ Vals W B hs.length (ints hs) ∧ hs.length ≤ maxLen := by
  rcases open_ints Try.underlying30 Try.underlying3 (by kernel_rfl) h with ⟨rfl, _⟩ | ⟨a, len, cap, zs, rfl, _, hl, hm, hz, _, hc, _⟩
  · exact ⟨none, 0, [], rfl, Vals.none_, Nat.zero_le _⟩
  · have hzl : len ≤ zs.length := by rw [hz]; split <;> omega
    have hlen : (zs.take len).length = len := by rw [List.length_take]; omega
    refine ⟨some a, cap, zs.take len, by rw [hlen], ⟨by rw [ints_length], fun _ => ⟨a, rfl, fun k v hk => ?_⟩⟩, by rw [hlen]; omega⟩
    have hkl : k < (zs.take len).length := by have := (List.getElem?_eq_some_iff.1 hk).1; rwa [ints_length] at this
    rw [ints_at hkl] at hk
    injection hk with hk
    subst hk
    have h1 := hc k (by rw [hlen] at hkl; omega)
    rw [h1]
    congr 2
    rw [hlen] at hkl
    simp [List.getD_eq_getElem?_getD, hkl]
theorem vals_lt {W : World} {B : Option Addr} {hs : List Int} (h : Vals W B hs.length (ints hs)) : ∀ ad, B = some ad → 0 < hs.length → ad.block < W.heap.size := by
  intro ad e h0
  obtain ⟨a2, e2, hc⟩ := h.at_ (ints_at (zs := hs) h0)
  rw [e] at e2
  cases e2
  have := World.block_lt_of_cell? W _ hc
  rwa [Addr.block_add] at this
/-- A slice of acts that came in. -/
theorem acts_in {H : Type} {enc : TypeId × Value → H} {W : World} {base : Nat} {spare : Nat → Bool} {held : Bool} {a : Option Addr} {len cap : Nat} {d : DataW H} {ps : List MemPlace} (h : DataW.Trod enc Try.prog W base spare held 22 (.slice a len cap) d ps) :
    len ≤ maxLen ∧ ∃ T : Nat → ActIn, ActsIn W a len T := by
  obtain ⟨fuel, hf⟩ := h
  rcases Go.Deep.open_slice Try.underlying22 hf with ⟨h0, _⟩ | ⟨ad, l, c, m, n, D, Pl, hcs, hb, hl, hm, hmm, _, hx⟩
  · simp [Value.cells] at h0
    obtain ⟨rfl, rfl, rfl⟩ := h0
    exact ⟨by simp, fun _ => ⟨0, 0, none, 0, []⟩, fun k hk => absurd hk (by omega)⟩
  · simp [Value.cells] at hcs
    obtain ⟨rfl, rfl, rfl⟩ := hcs
    have hlm : len ≤ m := by rw [hmm]; split <;> omega
    refine ⟨by omega, ?_⟩
    have ce : Try.prog.cellsOf 37 = 3 := by kernel_rfl
    obtain ⟨T, hT⟩ := Go.Deep.choose_lt (α := ActIn) (n := len) (p := fun k t => ∃ b : Addr, some ad = some b ∧ W.cell? (b.add (k * 3)) = some (.int .u8 t.x) ∧ W.cell? (b.add (k * 3 + 1)) = some (.int .i8 t.y) ∧ W.cell? (b.add (k * 3 + 2)) = some (.slice t.b t.hs.length t.c) ∧
      Vals W t.b t.hs.length (ints t.hs) ∧ (∀ ad, t.b = some ad → 0 < t.hs.length → ad.block < W.heap.size) ∧ 0 ≤ t.x ∧ t.x ≤ 255 ∧ -128 ≤ t.y ∧ t.y ≤ 127 ∧ t.hs.length ≤ maxLen) (fun i hi => by
        obtain ⟨cs', h1, h2⟩ := hx i (by omega)
        rw [ce] at h1
        obtain ⟨_, hlen, hcell⟩ := World.cells?_some h1
        obtain ⟨xs, k, hk, hxy, _, hxl, hfd⟩ := DataW.trod_struct Try.underlying37 h2
        match xs, hxl, cs', hlen with
        | [y0, y1, y2], _, [v0, v1, v2], _ =>
          have g0 := hfd 0 _ rfl
          have g1 := hfd 1 _ rfl
          have g2 := hfd 2 _ rfl
          have c0 : Try.prog.cellsOf 5 = 1 := by kernel_rfl
          have c1 : Try.prog.cellsOf 35 = 1 := by kernel_rfl
          have c2 : Try.prog.cellsOf 30 = 1 := by kernel_rfl
          simp [c0, c1, c2] at g0 g1 g2
          have e0 := hcell 0 (by omega)
          have e1 := hcell 1 (by omega)
          have e2 := hcell 2 (by omega)
          rw [Go.Deep.add_add] at e0 e1 e2
          obtain ⟨z0, hz0, _, w0⟩ := DataW.trod_int Try.underlying5 g0
          obtain ⟨z1, hz1, _, w1⟩ := DataW.trod_int Try.underlying35 g1
          obtain ⟨B, cB, hs, hz2, hv, hml⟩ := heads_in g2
          simp at hz0 hz1 hz2
          subst hz0 hz1 hz2
          have b0 := bounds_u8 w0
          have b1 := bounds_i8 w1
          exact ⟨⟨z0, z1, B, cB, hs⟩, ad, rfl, by simpa using e0, by simpa using e1, by simpa using e2, hv, vals_lt hv, b0.1, b0.2, b1.1, b1.2, hml⟩)
    exact ⟨T, hT⟩
/-- Bytes that came in. -/
theorem bytes_in {H : Type} {enc : TypeId × Value → H} {W : World} {base : Nat} {spare : Nat → Bool} {held : Bool} {a : Option Addr} {len cap : Nat} {d : DataW H} {ps : List MemPlace} (h : DataW.Trod enc Try.prog W base spare held 55 (.slice a len cap) d ps) :
    ∃ X : Nat → Int, BytesIn W a len X := by
  obtain ⟨fuel, hf⟩ := h
  rcases open_ints Try.underlying55 Try.underlying5 (by kernel_rfl) hf with ⟨h0, _⟩ | ⟨ad, l, c, zs, hcs, _, hl, hm, hz, _, hc, hw⟩
  · simp [Value.cells] at h0
    obtain ⟨rfl, rfl, rfl⟩ := h0
    exact ⟨fun _ => 0, fun k hk => absurd hk (by omega)⟩
  · simp [Value.cells] at hcs
    obtain ⟨rfl, rfl, rfl⟩ := hcs
    have hzl : len ≤ zs.length := by rw [hz]; split <;> omega
    refine ⟨fun k => zs.getD k 0, fun k hk => ⟨ad, rfl, hc k (by omega), ?_⟩⟩
    have hmem : zs.getD k 0 ∈ zs := by
      rw [List.getD_eq_getElem?_getD, List.getElem?_eq_getElem (by omega)]
      exact List.getElem_mem _
    have := bounds_u8 (hw _ hmem)
    exact this
/-- Rows of eight that came in. -/
theorem rows_in {H : Type} {enc : TypeId × Value → H} {W : World} {base : Nat} {spare : Nat → Bool} {held : Bool} {a : Option Addr} {len cap : Nat} {d : DataW H} {ps : List MemPlace} (h : DataW.Trod enc Try.prog W base spare held 50 (.slice a len cap) d ps) :
    ∃ X : Nat → Nat → Int, RowsIn W a len X := by
  obtain ⟨fuel, hf⟩ := h
  rcases Go.Deep.open_slice Try.underlying50 hf with ⟨h0, _⟩ | ⟨ad, l, c, m, n, D, Pl, hcs, hb, hl, hm, hmm, _, hx⟩
  · simp [Value.cells] at h0
    obtain ⟨rfl, rfl, rfl⟩ := h0
    exact ⟨fun _ _ => 0, fun k hk => absurd hk (by omega)⟩
  · simp [Value.cells] at hcs
    obtain ⟨rfl, rfl, rfl⟩ := hcs
    have hlm : len ≤ m := by rw [hmm]; split <;> omega
    have ce : Try.prog.cellsOf 53 = 8 := by kernel_rfl
    have c1 : Try.prog.cellsOf 49 = 1 := by kernel_rfl
    obtain ⟨X, hX⟩ := Go.Deep.choose_lt (α := Nat → Int) (n := len) (p := fun i X => ∀ c, c < 8 → ∃ b : Addr, some ad = some b ∧ W.cell? ((b.add (i * 8)).add c) = some (.int .u16 (X c)) ∧ 0 ≤ X c ∧ X c ≤ 65535) (fun i hi => by
      obtain ⟨cs', h1, h2⟩ := hx i (by omega)
      rw [ce] at h1
      obtain ⟨_, hlen, hcell⟩ := World.cells?_some h1
      obtain ⟨xs, k, _, _, _, hxl, hfd⟩ := DataW.trod_array Try.underlying53 h2
      obtain ⟨Y, hY⟩ := Go.Deep.choose_lt (α := Int) (n := 8) (p := fun c y => W.cell? ((ad.add (i * 8)).add c) = some (.int .u16 y) ∧ 0 ≤ y ∧ y ≤ 65535) (fun c hc => by
        have g := hfd c hc
        have e := hcell c (by omega)
        rw [c1, Nat.mul_one] at g
        obtain ⟨y, hy⟩ : ∃ y, xs[c]? = some y := ⟨_, List.getElem?_eq_getElem (by omega)⟩
        rw [hy] at g
        have hcl : c < cs'.length := by omega
        have et : (cs'.drop c).take 1 = [cs'[c]] := by rw [List.drop_eq_getElem_cons hcl]; rfl
        rw [et] at g
        obtain ⟨z, hz, _, wz⟩ := DataW.trod_int Try.underlying49 g
        injection hz with hz _
        rw [List.getElem?_eq_getElem hcl, hz] at e
        have := bounds_u16 wz
        exact ⟨z, e, this.1, this.2⟩)
      exact ⟨Y, fun c hc => ⟨ad, rfl, (hY c hc).1, (hY c hc).2.1, (hY c hc).2.2⟩⟩)
    exact ⟨X, fun i hi c hc => hX i hi c hc⟩
end Go.Proofs.Ytknalphhnicffaa
