/- The contract of the laws' awake; what came in: moments, prefixes and numbers. Conditions: those of each theorem. -/
import Derived.Test.YteeobeeoefokdaaWadd
import Derived.Test.YteeobeeoefokdaaIns
namespace Go.Proofs.Yteeobeeoefokdaa
open Go.ChangeShapes Go.WideShapes Go.ChangeAt Go.RowKit

theorem below_tri {B : Nat} {g s q : Nat} {a w w' : World} (h : Below B a w) (hf : Far (tri g s q) w w') (hg : B ≤ g) (hs : B ≤ s) (hq : B ≤ q) (hB : B ≤ w.heap.size) : Below B a w' :=
  h.trans (hf.below hB (fun k hk e => by rcases e with e | e | e <;> omega))
def aw0 : Wn := ⟨100, 10, 0, 0, 1, []⟩
def aw1 : Wn := ⟨100, 10, 0, 9, 1, [⟨pre0, 9, 0⟩]⟩
def aw2 : Wn := ⟨100, 10, 0, 10, 1, [⟨pre0, 10, 0⟩]⟩
def aw3 : Wn := ⟨100, 10, 1, 1, 1, [⟨pre0, 1, 0⟩]⟩
theorem aw01 : (aw0.to 0).cnt pre0 9 = aw1 ∧ (aw0.to 0).hvy pre0 9 = false := by constructor <;> kernel_rfl
theorem aw12 : (aw1.to 0).cnt pre0 1 = aw2 ∧ (aw1.to 0).hvy pre0 1 = true := by constructor <;> kernel_rfl
theorem aw23 : (aw2.to 100).cnt pre0 1 = aw3 ∧ (aw2.to 100).hvy pre0 1 = false := by constructor <;> kernel_rfl
/-- A new variable that is a prefix. -/
theorem wpList_newp {ops : Array Oper} {rest : List Oper} {o : Oper} {a : Act} {Q : Exit → Act → World → Prop} (hgd : o.guard = none) (x y : Operand) (ho : o.op = .store 31 x y) (z : World) (p : Pre)
    (hx : a.eval x = .pointer (some ⟨z.heap.size, 0, none⟩)) (hy : a.eval y = .agg p.cs.toArray)
    (h : ∀ w', Hid (Blk w' z.heap.size 31 p.cs) → Hid (Below z.heap.size z w') → wpList Try.prog ops Q rest (a.put o.dst undef) w') : wpList Try.prog ops Q (o :: rest) a (z.alloc (.cells #[.bool false, .int .u8 0, .int .u8 0, .int .u8 0, .int .u8 0, .int .u8 0, .int .u8 0, .int .u8 0] 31)) :=
  wpList_lay hgd 31 8 size25 x y ho z.heap.size p.cs hx hy 31 pre0.cs (Blk.new z 31 pre0.cs) rfl (cs8 _) (all_oneCell_toArray (pre_each p)) fun w' hb hf =>
    h w' hb (below_only ((Below.refl _ _).alloc (Nat.le_refl _) _) hf.out (Nat.le_refl _) (by simp))
set_option maxHeartbeats 1000000 in
theorem awake_any (w : World) : Calls Try.prog 7 #[] w fun e w' => e = .returned (.bool true) ∧ Below w.heap.size w w' := by
  go_enter Try.func7, Try.ntmps7
  go_upto_region 3 with (first | (refine wpList_build rfl 31 [] rfl [] rfl pre0.cs (run_pre0 _) ?_) | (go_at_call 8; (with_reducible refine (wnew_ 1 1 100 10 _ rfl (by omega) (by omega) ⟨by omega, by omega⟩ ⟨by omega, by omega⟩).mono ?_); rintro e w1 ⟨g, s, q, rfl, hs, hg, hb⟩; have S1 := Lib.hid hs; have B1 := Lib.hid hb; have HG := Lib.hid hg; clear hs hb hg) | (refine wpList_newp rfl (.tmp 3) (.tmp 8) rfl w1 pre0 rfl rfl ?_; intro w2 K2 hb2; have S2 := Lib.hid (S1.out.below hb2.out); have B2 : Hid (Below w.heap.size w w2) := B1.out.trans (hb2.out.mono B1.out.size); clear hb2))
  have hl := S1.out.lt
  have hz : w.heap.size ≤ w1.heap.size := B1.out.size
  clear S1 B1
  go_wp2_with (first
    | (go_at_call 9; (with_reducible refine (wadd_ g s q aw0 0 9 pre0 _ S2.out pre0_ok).mono ?_); rintro e w3 ⟨rfl, hs, hf⟩; rw [aw01.1] at hs; rw [aw01.2]; have S3 := Lib.hid hs; have K3 : Hid (Blk w3 w1.heap.size 31 pre0.cs) := K2.out.far hf (fun e => by rcases e with e | e | e <;> omega); have B3 : Hid (Below w.heap.size w w3) := below_tri B2.out hf HG.out.1 HG.out.2.1 HG.out.2.2 B2.out.size; clear hs hf) | (go_at_call 9; (with_reducible refine (wadd_ g s q aw1 0 1 pre0 _ S3.out pre0_ok).mono ?_); rintro e w4 ⟨rfl, hs, hf⟩; rw [aw12.1] at hs; rw [aw12.2]; have S4 := Lib.hid hs; have K4 : Hid (Blk w4 w1.heap.size 31 pre0.cs) := K3.out.far hf (fun e => by rcases e with e | e | e <;> omega); have B4 : Hid (Below w.heap.size w w4) := below_tri B3.out hf HG.out.1 HG.out.2.1 HG.out.2.2 B3.out.size; clear hs hf) | (go_at_call 9; (with_reducible refine (wadd_ g s q aw2 100 1 pre0 _ S4.out pre0_ok).mono ?_); rintro e w5 ⟨rfl, hs, hf⟩; rw [aw23.1] at hs; rw [aw23.2]; have S5 := Lib.hid hs; have K5 : Hid (Blk w5 w1.heap.size 31 pre0.cs) := K4.out.far hf (fun e => by rcases e with e | e | e <;> omega); have B5 : Hid (Below w.heap.size w w5) := below_tri B4.out hf HG.out.1 HG.out.2.1 HG.out.2.2 B4.out.size; clear hs hf) | (refine wpList_pre (by rfl) (.tmp 3) rfl _ _ rfl pre0 (whole_at K2.out) ?_) | (refine wpList_pre (by rfl) (.tmp 3) rfl _ _ rfl pre0 (whole_at K3.out) ?_) | (refine wpList_pre (by rfl) (.tmp 3) rfl _ _ rfl pre0 (whole_at K4.out) ?_) | (go_at_call 11; (with_reducible refine (number_ g s q aw3 _ S5.out).mono ?_); rintro e w6 ⟨rfl, rfl⟩))
  go_ret
  exact ⟨rfl, B5.out⟩

/-- What came in: moments, prefixes and numbers. -/
def SeenIn (w : World) (A : Option Addr) (n : Nat) (O : Nat → Int) (P : Nat → Pre) (X : Nat → Int) : Prop :=
  ∀ k, k < n → ∃ b o, A = some ⟨b, o, none⟩ ∧ w.rangeAt b (o + k * 10) (.int .i64 (O k) :: ((P k).cs ++ [.int .i64 (X k)])) ∧ (P k).Ok ∧ (-9223372036854775808 ≤ O k ∧ O k ≤ 9223372036854775807) ∧ (-9223372036854775808 ≤ X k ∧ X k ≤ 9223372036854775807)
theorem SeenIn.far {w w' : World} {A : Option Addr} {n : Nat} {O : Nat → Int} {P : Nat → Pre} {X : Nat → Int} (h : SeenIn w A n O P X) (hb : Below w.heap.size w w') : SeenIn w' A n O P X := fun k hk => by
  obtain ⟨b, o, e, h1, h2⟩ := h k hk
  exact ⟨b, o, e, fun j v hv => (hb.cell (World.block_lt_of_cell? w _ (h1 j v hv))).trans (h1 j v hv), h2⟩
theorem seen_now {w : World} {b o : Nat} {t x : Int} {p : Pre} (h : w.rangeAt b o (.int .i64 t :: (p.cs ++ [.int .i64 x]))) : w.cell? ⟨b, o, none⟩ = some (.int .i64 t) := h 0 _ rfl
theorem seen_pre {w : World} {b o : Nat} {t x : Int} {p : Pre} (h : w.rangeAt b o (.int .i64 t :: (p.cs ++ [.int .i64 x]))) : w.rangeAt b (o + 1) p.cs := fun j v hv => by
  have := h (j + 1) v (by rw [List.getElem?_cons_succ, List.getElem?_append_left (List.getElem?_eq_some_iff.1 hv).1]; exact hv)
  rw [show o + 1 + j = o + (j + 1) by omega]
  exact this
theorem seen_num {w : World} {b o : Nat} {t x : Int} {p : Pre} (h : w.rangeAt b o (.int .i64 t :: (p.cs ++ [.int .i64 x]))) : w.cell? ⟨b, o + 9, none⟩ = some (.int .i64 x) := h 9 _ rfl
/-- A slice of moments, prefixes and numbers that came in. -/
theorem seen_in {H : Type} {enc : TypeId × Value → H} {W : World} {base : Nat} {spare : Nat → Bool} {held : Bool} {a : Option Addr} {len cap : Nat} {d : DataW H} {ps : List MemPlace} (h : DataW.Trod enc Try.prog W base spare held 22 (.slice a len cap) d ps) :
    len ≤ maxLen ∧ ∃ (O : Nat → Int) (P : Nat → Pre) (X : Nat → Int), SeenIn W a len O P X := by
  obtain ⟨fuel, hf⟩ := h
  rcases Go.Deep.open_slice Try.underlying22 hf with ⟨h0, _⟩ | ⟨ad, l, c, m, n, D, Pl, hcs, hb, hl, hm, hmm, _, hx⟩
  · simp [Value.cells] at h0
    obtain ⟨rfl, rfl, rfl⟩ := h0
    exact ⟨by simp, fun _ => 0, fun _ => pre0, fun _ => 0, fun i hi => absurd hi (by omega)⟩
  · simp [Value.cells] at hcs
    obtain ⟨rfl, rfl, rfl⟩ := hcs
    have hlm : len ≤ m := by rw [hmm]; split <;> omega
    refine ⟨by omega, ?_⟩
    rw [show Try.prog.cellsOf 43 = 10 by kernel_rfl] at hx
    have key : ∀ i, i < len → ∃ x : Int × Pre × Int, (∀ j v, (Value.int .i64 x.1 :: (x.2.1.cs ++ [.int .i64 x.2.2]))[j]? = some v → W.cell? ((ad.add (i * 10)).add j) = some v) ∧ x.2.1.Ok ∧ (-9223372036854775808 ≤ x.1 ∧ x.1 ≤ 9223372036854775807) ∧ (-9223372036854775808 ≤ x.2.2 ∧ x.2.2 ≤ 9223372036854775807) := fun i hi => by
      obtain ⟨cs', h1, h2⟩ := hx i (by omega)
      obtain ⟨_, hlen, hcell⟩ := World.cells?_some h1
      obtain ⟨xs, k, _, _, _, hxl, hf⟩ := DataW.trod_struct Try.underlying43 h2
      match xs, hxl with
      | [y0, y1, y2], _ =>
        have g0 : DataW.trod enc Try.prog W base spare held k 2 ((cs'.drop 0).take (Try.prog.cellsOf 2)) = some y0 := hf 0 _ rfl
        have g1 : DataW.trod enc Try.prog W base spare held k 31 ((cs'.drop 1).take (Try.prog.cellsOf 31)) = some y1 := hf 1 _ rfl
        have g2 : DataW.trod enc Try.prog W base spare held k 2 ((cs'.drop 9).take (Try.prog.cellsOf 2)) = some y2 := hf 2 _ rfl
        rw [show Try.prog.cellsOf 2 = 1 by kernel_rfl] at g0 g2
        rw [show Try.prog.cellsOf 31 = 8 by kernel_rfl] at g1
        obtain ⟨t, ht, _, wt⟩ := DataW.trod_int Try.underlying2 g0
        obtain ⟨p, hp, ok⟩ := trod_pre g1
        obtain ⟨z, hz, _, wz⟩ := DataW.trod_int Try.underlying2 g2
        have bt := bounds_i64 wt
        have bz := bounds_i64 wz
        have e1 : (cs'.drop 9).take 1 = cs'.drop 9 := List.take_of_length_le (by rw [List.length_drop]; omega)
        rw [e1] at hz
        have e2 : cs' = .int .i64 t :: (p.cs ++ [.int .i64 z]) := by
          have a1 : cs' = (cs'.drop 0).take 1 ++ cs'.drop 1 := (List.take_append_drop 1 cs').symm
          have a2 : cs'.drop 1 = (cs'.drop 1).take 8 ++ cs'.drop 9 := by
            have := (List.take_append_drop 8 (cs'.drop 1)).symm
            rw [List.drop_drop] at this
            exact this
          rw [a1, a2, ht, hp, hz]
          rfl
        refine ⟨(t, p, z), fun j v hv => ?_, ok, bt, bz⟩
        rw [← e2] at hv
        have hj := (List.getElem?_eq_some_iff.1 hv).1
        rw [hcell j (by omega)]
        exact hv
    haveI : Inhabited (Int × Pre × Int) := ⟨(0, pre0, 0)⟩
    obtain ⟨f, hf⟩ := Go.Deep.choose_lt (α := Int × Pre × Int) (n := len) (p := fun i x => (∀ j v, (Value.int .i64 x.1 :: (x.2.1.cs ++ [.int .i64 x.2.2]))[j]? = some v → W.cell? ((ad.add (i * 10)).add j) = some v) ∧ x.2.1.Ok ∧ (-9223372036854775808 ≤ x.1 ∧ x.1 ≤ 9223372036854775807) ∧ (-9223372036854775808 ≤ x.2.2 ∧ x.2.2 ≤ 9223372036854775807)) key
    refine ⟨fun k => (f k).1, fun k => (f k).2.1, fun k => (f k).2.2, fun k hk => ?_⟩
    have hs : ad.spot = none := by
      have h0 := (hf 0 (by omega)).1 0 (.int .i64 (f 0).1) rfl
      have e : (ad.add (0 * 10)).add 0 = ad := by simp [Addr.add]
      rw [e] at h0
      exact spot_none h0
    obtain ⟨h1, h2, h3, h4⟩ := hf k hk
    refine ⟨ad.block, ad.off, ?_, fun j v hv => ?_, h2, h3, h4⟩
    · obtain ⟨b, o, s⟩ := ad
      simp at hs
      subst hs
      rfl
    · have := h1 j v hv
      rw [add_plain hs, Addr.add_mid] at this
      exact this
end Go.Proofs.Yteeobeeoefokdaa
