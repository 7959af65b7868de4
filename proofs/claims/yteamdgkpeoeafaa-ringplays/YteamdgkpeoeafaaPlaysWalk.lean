/- The walk of the law RingPlays: for any room, acts and numbers it returns true and turns nothing that was there. -/
import Derived.Test.YteamdgkpeoeafaaNils
import Derived.Deep.CutBlock
import Derived.Deep.RegionLaw
namespace Go.Proofs.Yteamdgkpeoeafaa
open Go.RowKit

/-- Where the loop stands: the ring and the list w (the slice v) hold the same numbers. -/
def PlaysRel (w : World) (g q n : Nat) (zs : List Int) (v : Value) (w' : World) : Prop :=
  RingAt 54 3 w' g q n (ints zs) ∧ w'.ownsRow w.heap.size 3 1 v zs.length (ints zs) ∧ v.ownBlock ≠ some q ∧ Below w.heap.size w w'

theorem below_drewN {B : Nat} {w w' : World} (h : Below B w w') (k : Nat) : Below B w (w'.drewN k) := ⟨h.os, h.tape, h.output, h.size, h.block⟩

/-- What came in: acts and numbers. -/
def PlaysArgs (w : World) (A B : Option Addr) (n : Nat) (X Y : Nat → Int) : Prop :=
  ∀ k, k < n → ∃ a b : Addr, A = some a ∧ B = some b ∧ w.cell? (a.add k) = some (.int .u8 (X k)) ∧ w.cell? (b.add k) = some (.int .i16 (Y k)) ∧ 0 ≤ X k ∧ X k ≤ 255 ∧ -32768 ≤ Y k ∧ Y k ≤ 32767

theorem Vals.shape {w : World} {base : Nat} {v : Value} {n : Nat} {vs : List Value} (h : w.ownsRow base 3 1 v n vs) : ∃ A c, v = .slice A n c ∧ n ≤ c ∧ Vals w A n vs ∧ v.ownBlock = A.map (·.block) := by
  obtain ⟨A, c, h1, h2, _, h4, h5, _⟩ := Vals.of_row h
  exact ⟨A, c, h1, h2, h4, h5⟩

/-- The ring stays while the list grows. -/
theorem plays_app {w w3 w5 : World} {g q r n k : Nat} {xs zs : List Int} {v : Value} {A' : Option Addr} {c' : Nat} {o : Obj} (hr : RingAt 54 3 w3 g q r (ints zs)) (ho : w3.ownsRow w.heap.size 3 1 v n (ints xs)) (hne : v.ownBlock ≠ some q) (hb : Below w.heap.size w w3)
    (h1 : w5.ownsRow w.heap.size 3 1 (.slice A' k c') k (ints zs)) (h2 : (w3.alloc o).grownBy w5 v.ownBlock) (h3 : (Value.slice A' k c').ownBlock = v.ownBlock ∨ (Value.slice A' k c').ownBlock = some (w3.alloc o).heap.size) (hk : zs.length = k) :
    PlaysRel w g q r zs (.slice A' k c') w5 := by
  have hlt := hr.lt
  have hg : v.ownBlock ≠ some g := by obtain ⟨f, cs, b1, _⟩ := hr; exact b1.row_apart ho (by decide)
  subst hk
  refine ⟨hr.far (S := fun b => v.ownBlock = some b) (((Far.refl _ w3).alloc o).grown h2 (fun k e _ => e)) hg hne, h1, ?_, (hb.alloc hb.size o).grown h2 (by have := hb.size; simp; omega) (fun k e => (ho.lt k e).1)⟩
  rcases h3 with h | h
  · rw [h]; exact hne
  · rw [h]
    simp
    omega

theorem run_upto31 {A : Option Addr} {n c k : Nat} (W : World) (hk : k ≤ c) :
    (Instr.slice 31 (.slice A n c) none (some (.int .i64 k)) none).run Try.prog W = .ok (.slice A k c) W := by
  have h := run_slice_h (P := Try.prog) (w := W) 31 A n c (by kernel_rfl) .i64 (k : Int) (by omega) (by omega)
  rw [h]
  simp [sliced, go_sem]
theorem run_from31 {A : Option Addr} {n c k : Nat} (W : World) (hk : k + 1 ≤ n) :
    (Instr.slice 31 (.slice A n c) (some (.int .i64 ((k : Int) + 1))) none none).run Try.prog W = .ok (.slice (if c = k + 1 then A else A.map (·.add (k + 1))) (n - (k + 1)) (c - (k + 1))) W := by
  have h := run_slice_l (P := Try.prog) (w := W) 31 A n c (by kernel_rfl) .i64 ((k : Int) + 1) (by omega) (by omega)
  rw [h, show ((k : Int) + 1).toNat = k + 1 by omega]
  simp [sliced, go_sem]

theorem ints_take (zs : List Int) (k : Nat) : (ints zs).take k = ints (zs.take k) := by simp [ints, List.map_take]
theorem ints_drop (zs : List Int) (k : Nat) : (ints zs).drop k = ints (zs.drop k) := by simp [ints, List.map_drop]
theorem erase_parts (zs : List Int) (p : Nat) : zs.take p ++ zs.drop (p + 1) = zs.eraseIdx p := (List.eraseIdx_eq_take_drop_succ zs p).symm

/-- The ring stays while a new list is made out of two parts. -/
theorem plays_twice {w wc w5 w6 : World} {g q r n k : Nat} {zs : List Int} {A5 A6 : Option Addr} {c5 c6 : Nat} (hr : RingAt 54 3 wc g q r (ints zs)) (hb : Below w.heap.size w wc)
    (h2 : (wc.alloc (.cells #[] 3)).drew.grownBy w5 (some wc.heap.size)) (h3 : (Value.slice A5 n c5).ownBlock = some wc.heap.size ∨ (Value.slice A5 n c5).ownBlock = some (wc.alloc (.cells #[] 3)).drew.heap.size)
    (g1 : w6.ownsRow w.heap.size 3 1 (.slice A6 k c6) k (ints zs)) (g2 : w5.grownBy w6 (Value.slice A5 n c5).ownBlock) (g3 : (Value.slice A6 k c6).ownBlock = (Value.slice A5 n c5).ownBlock ∨ (Value.slice A6 k c6).ownBlock = some w5.heap.size) (hk : zs.length = k) :
    PlaysRel w g q r zs (.slice A6 k c6) w6 := by
  have hlt := hr.lt
  subst hk
  have hb0 : Below wc.heap.size wc (wc.alloc (.cells #[] 3)).drew := ((Below.refl _ _).alloc (Nat.le_refl _) _).drew
  have hs0 := hb0.size
  have hb5 : Below wc.heap.size wc w5 := hb0.grown h2 hb0.size (fun k e => by cases e; exact Nat.le_refl _)
  have hs5 := hb5.size
  have hb6 : Below wc.heap.size wc w6 := hb5.grown g2 hb5.size (fun k e => by
    rcases h3 with h | h <;> rw [h] at e <;> injection e with e <;> omega)
  refine ⟨hr.below hb6, g1, ?_, hb.trans (hb6.mono hb.size)⟩
  rcases g3 with h | h
  · rw [h]
    rcases h3 with h | h <;> rw [h] <;> intro e <;> injection e with e <;> omega
  · rw [h]
    intro e
    injection e with e
    omega

/-- What Pop or Cut left. -/
def CutOut (g q r : Nat) (zs : List Int) (wr : World) (x ok y : Value) (wx : World) : Prop :=
  ∃ z : Int, y = .int .i64 z ∧ Far (both g q) wr wx ∧
    ((∃ p : Nat, z = p ∧ p < zs.length ∧ x = .int .i64 (zs.getD p 0) ∧ ok = .bool true ∧ RingAt 54 3 wx g q r (ints (zs.eraseIdx p))) ∨
     ((z < 0 ∨ (zs.length : Int) ≤ z) ∧ x = .int .i64 0 ∧ ok = .bool false ∧ RingAt 54 3 wx g q r (ints zs)))

set_option maxRecDepth 100000 in
set_option maxHeartbeats 8000000 in
theorem plays_near (r : Nat) (x : Int) (A B : Option Addr) (n c m d : Nat) (X Y : Nat → Int) (w : World) (hn : n ≤ 200) (hm : n ≤ m) (hx : x = r) (h1 : 1 ≤ r) (h2 : r ≤ 4096) (ha : PlaysArgs w A B n X Y) :
    Calls Try.prog 3 #[.int .i64 x, .slice A n c, .slice B m d] w fun e w' => e = .returned (.bool true) ∧ Below w.heap.size w w' := by
  subst hx
  have HA := Lib.hid ha
  clear ha
  have hd : decide ((200 : Int) < (n : Int)) = false := by simp; omega
  have hd2 : decide (m < n) = false := by simp; omega
  have hd3 : decide ((r : Int) < 1) = false := by simp; omega
  have hd4 : decide ((4096 : Int) < (r : Int)) = false := by simp; omega
  go_enter Try.func3, Try.ntmps3
  go_wp2_with (first | (go_at_call 7; (with_reducible refine (awake_any _).mono ?_); rintro e w1 ⟨rfl, hb1⟩; have W1 := Lib.hid hb1; clear hb1) | (go_at_call 8; (with_reducible refine (newin_I r _ _ rfl h1 h2).mono ?_); rintro e w2 ⟨g, q, rfl, hr, hg, hq, hb2⟩; have R2 := Lib.hid hr; have W2 : Hid (Below w.heap.size w w2) := W1.out.trans (hb2.mono W1.out.size); have hsz1 := W1.out.size; clear hr hb2))
  have hgw : w.heap.size ≤ g := by omega
  have hqw : w.heap.size ≤ q := by omega
  clear hg hq hsz1
  go_loopw [9, 10, 11, 12, 13, 14, 15, 16, 17, 18, 68] (fun v _ _ _ _ _ _ _ _ _ i w' => ∃ (k : Nat) (zs : List Int), k ≤ n ∧ i = .int .i64 k ∧ PlaysRel w g q r zs v w') (fun _ _ _ _ _ _ _ _ _ _ i _ => n - (intOf i).toNat)
  case atStart => exact ⟨0, [], Nat.zero_le _, rfl, R2.out, World.ownsRow_nil _ _ _ _, by simp [Value.ownBlock], W2.out⟩
  case round =>
    obtain ⟨k, zs, hk, rfl, hr, ho, hne, hb⟩ := hrel
    have R3 := Lib.hid hr
    have O3 := Lib.hid ho
    have N3 := Lib.hid hne
    have W3 := Lib.hid hb
    have hlen := hr.lt.2.2.1
    rw [ints_length] at hlen
    clear hr ho hne
    by_cases hlt : k < n
    · have hd5 : decide ((k : Int) < (n : Int)) = true := by simp; omega
      obtain ⟨a, b, rfl, rfl, hca, hcb, hx0, hx1, hy0, hy1⟩ := HA.out k hlt
      have hca' : wr.cell? (a.add k) = some (.int .u8 (X k)) := (hb.cell (World.block_lt_of_cell? w _ hca)).trans hca
      have hcb' : wr.cell? (b.add k) = some (.int .i16 (Y k)) := (hb.cell (World.block_lt_of_cell? w _ hcb)).trans hcb
      generalize X k = X0 at *
      generalize Y k = Y0 at *
      clear hb
      obtain ⟨A1, c1, rfl, hnc, hvals, hob⟩ := Vals.shape O3.out
      have HV := Lib.hid hvals
      have HOB := Lib.hid hob
      clear hvals hob
      have HG3 : Hid ((Value.slice A1 zs.length c1).ownBlock ≠ some g) := by obtain ⟨f, cs, b1, _⟩ := R3.out; exact b1.row_apart O3.out (by decide)
      obtain ⟨t, ht⟩ : ∃ t : Nat, X0 % 4 = t := ⟨(X0 % 4).toNat, by omega⟩
      have ht4 : t < 4 := by omega
      go_upto_block 2 with fail
      go_cut [9, 11, 12, 13, 14, 15, 80] (fun v x ok want is _ _ wx => ∃ (zs' : List Int) (z : Int) (b : Bool), PlaysRel w g q r zs' v wx ∧ x = .int .i64 z ∧ want = .int .i64 z ∧ ok = .bool b ∧ is = .bool b)
      case first =>
        by_cases ht2 : t < 2
        · have hts : t = 0 ∨ t = 1 := by omega
          by_cases hfull : zs.length = r
          · have HL : Hid ((ints zs).length = r) := by show _ = _; rw [ints_length]; exact hfull
            have hd6 : decide ((zs.length : Int) < (r : Int)) = false := by simp; omega
            have hd7 : decide (zs.length < r) = false := by simp; omega
            clear hfull
            rcases hts with rfl | rfl
            all_goals
              go_wp2_with (first | (go_at_call 11; (with_reducible refine (pushfull_I g q r _ _ _ R3.out HL.out).mono ?_); rintro e w' ⟨rfl, rfl⟩))
              go_meet
              case rel => exact ⟨zs, 0, false, ⟨R3.out, O3.out, N3.out, W3.out⟩, rfl, rfl, rfl, rfl⟩
          · have HL : Hid ((ints zs).length < r) := by show _ < _; rw [ints_length]; omega
            have hd6 : decide ((zs.length : Int) < (r : Int)) = true := by simp; omega
            have hd7 : decide (zs.length < r) = true := by simp; omega
            rcases hts with rfl | rfl
            all_goals
              go_wp2_with (first | (go_at_call 11; (with_reducible refine (push_I g q r Y0 _ _ R3.out HL.out).mono ?_); rintro e w4 ⟨rfl, hr4, hf4⟩; rw [show ints zs ++ [Value.int .i64 Y0] = ints (zs ++ [Y0]) from (ints_app zs [Y0]).symm] at hr4; have R4 := Lib.hid hr4; have W4 : Hid (Below w.heap.size w w4) := below_both W3.out hf4 hgw hqw W3.out.size; have O4 := Lib.hid (hf4.row O3.out (fun k e h => by rcases h with h | h <;> subst h; exact HG3.out e; exact N3.out e)); clear hr4 hf4) | (at_builtin; refine wpList_app rfl (.tmp 132) (.tmp 134) rfl w.heap.size (.slice A1 zs.length c1) zs.length zs rfl (by exact O4.out.alloc _) (some ⟨w4.heap.size, 0, none⟩) 1 1 [Y0] rfl (by exact Vals.of_blk (vs := ints [Y0]) (Blk.new w4 3 (ints [Y0])) rfl) (zs.length + 1) rfl (zs ++ [Y0]) rfl (by omega) (by have := W4.out.size; simp; omega) ?_; intro A' c' w' H1 H2 H3))
              go_meet
              case rel => exact ⟨zs ++ [Y0], 0, true, plays_app R4.out O4.out N3.out W4.out H1.out H2.out H3.out (by simp), rfl, rfl, rfl, rfl⟩
        · go_upto_if 86 with fail
          go_cut [11, 12, 15, 80] (fun x ok y _ wx => CutOut g q r zs wr x ok y wx)
          case first =>
            by_cases ht3 : t = 2
            · subst ht3
              rcases zs with _ | ⟨z, zs⟩
              · go_wp2_with (first | (go_at_call 12; (with_reducible refine (popnone_I g q r _ R3.out).mono ?_); rintro e w' ⟨rfl, rfl⟩))
                go_meet
                case rel => exact ⟨0, rfl, Far.refl _ _, .inr ⟨.inr (by simp), rfl, rfl, R3.out⟩⟩
              · go_wp2_with (first | (go_at_call 12; (with_reducible refine (pop_I g q r _ _ _ R3.out).mono ?_); rintro e w4 ⟨rfl, hr4, hf4⟩; have R4 := Lib.hid hr4; have F4 := Lib.hid hf4; clear hr4 hf4))
                go_meet
                case rel => exact ⟨0, rfl, F4.out, .inl ⟨0, rfl, by simp, rfl, rfl, R4.out⟩⟩
            · have ht5 : t = 3 := by omega
              subst ht5
              by_cases hin : 0 ≤ Y0 ∧ Y0 < zs.length
              · obtain ⟨p, hp⟩ : ∃ p : Nat, Y0 = p := ⟨Y0.toNat, by omega⟩
                have hpl : p < zs.length := by omega
                have HP := Lib.hid hp
                obtain ⟨zp, hzp⟩ : ∃ z, zs.getD p 0 = z := ⟨_, rfl⟩
                have HZP := Lib.hid hzp
                have HAT : Hid ((ints zs)[p]? = some (.int .i64 zp)) := by rw [← hzp]; exact ints_at hpl
                have HSH : Hid (∀ i, i < p → ∃ z, (ints zs)[i]? = some (.int .i64 z)) := fun i hi => ⟨_, ints_at (by omega)⟩
                clear hp hzp
                go_wp2_with (first | (go_at_call 13; (with_reducible refine (cut_I g q r p _ (ints zs) _ _ R3.out HP.out HAT.out HSH.out).mono ?_); rintro e w4 ⟨rfl, hr4, hf4⟩; rw [ints_erase] at hr4; have R4 := Lib.hid hr4; have F4 := Lib.hid hf4; clear hr4 hf4))
                go_meet
                case rel => exact ⟨Y0, rfl, F4.out, .inl ⟨p, HP.out, hpl, by rw [HZP.out], rfl, R4.out⟩⟩
              · have HP : Hid (Y0 < 0 ∨ ((ints zs).length : Int) ≤ Y0) := by show _ ∨ _; rw [ints_length]; omega
                go_wp2_with (first | (go_at_call 13; (with_reducible refine (cutnone_I g q r _ (ints zs) _ R3.out HP.out).mono ?_); rintro e w' ⟨rfl, rfl⟩))
                go_meet
                case rel => exact ⟨Y0, rfl, Far.refl _ _, .inr ⟨by have := HP.out; rw [ints_length] at this; exact this, rfl, rfl, R3.out⟩⟩
          case rest =>
            obtain ⟨z, rfl, hf, hrest⟩ := hcut
            have O4 := Lib.hid (hf.row O3.out (fun k e h => by rcases h with h | h <;> subst h; exact HG3.out e; exact N3.out e))
            have W4 : Hid (Below w.heap.size w wc) := below_both W3.out hf hgw hqw W3.out.size
            clear hf
            rcases hrest with ⟨p, rfl, hp, rfl, rfl, hr4⟩ | ⟨hz, rfl, rfl, hr4⟩
            · have R4 := Lib.hid hr4
              clear hr4
              have hd6 : decide ((p : Int) < (zs.length : Int)) = true := by simp; omega
              have hd7 : decide (p < zs.length) = true := by simp; omega
              obtain ⟨ad, rfl, hcp⟩ := (Vals.of_own O4.out).at_ (ints_at hp)
              generalize zs.getD p 0 = zp at *
              have hs1 := fun W => run_upto31 (A := some ad) (n := zs.length) (c := c1) (k := p) W (by omega)
              have hs2 := fun W => run_from31 (A := some ad) (n := zs.length) (c := c1) (k := p) W (by omega)
              have HVF := Lib.hid ((Vals.of_own O4.out).from_ (k := p + 1) (by omega) hnc)
              generalize (if c1 = p + 1 then some ad else (some ad).map (·.add (p + 1))) = Z at *
              have HB1 : Hid (Below w.heap.size w (wc.alloc (.cells #[] 3)).drew) := (W4.out.alloc W4.out.size _).drew
              have HB0 : Hid (Below wc.heap.size wc (wc.alloc (.cells #[] 3)).drew) := ((Below.refl _ _).alloc (Nat.le_refl _) _).drew
              have HS1 : Hid (w.heap.size ≤ (wc.alloc (.cells #[] 3)).drew.heap.size) := HB1.out.size
              have HO1 : Hid ((wc.alloc (.cells #[] 3)).drew.ownsRow w.heap.size 3 1 (.slice (some ⟨wc.heap.size, 0, none⟩) 0 0) 0 (ints [])) := World.ownsRow_lit wc #[] 0 W4.out.size (Nat.zero_le _) rfl
              have HI1 : Hid (Vals (wc.alloc (.cells #[] 3)).drew (some ad) p (ints (zs.take p))) := by
                have := ((Vals.of_own O4.out).upto (k := p) (by omega)).below HB0.out
                rw [ints_take] at this
                exact this
              have HK : Hid (∀ w2, (wc.alloc (.cells #[] 3)).drew.grownBy w2 (some wc.heap.size) → Vals w2 Z (zs.length - (p + 1)) (ints (zs.drop (p + 1))) ∧ Below w.heap.size w w2) := by
                intro w2 hg
                have hb : Below wc.heap.size wc w2 := HB0.out.grown hg HB0.out.size (fun k e => by cases e; exact Nat.le_refl _)
                refine ⟨?_, W4.out.trans (hb.mono W4.out.size)⟩
                have := HVF.out.below hb
                rw [ints_drop] at this
                exact this
              have hwp : IntKind.i64.wrap ((p : Int) + 1) = (p : Int) + 1 := by have := R4.out.lt; rw [IntKind.wrap_i64]; omega
              have HER := Lib.hid (erase_parts zs p)
              have HEL : Hid ((zs.eraseIdx p).length = zs.length - 1) := by show _ = _; rw [List.length_eraseIdx, if_pos hp]
              go_wp2_with fail
              go_region_law (first | (refine step_app (by rfl) (.tmp 111) (.tmp 114) (by rfl) w.heap.size _ 0 [] (by rfl) (by exact HO1.out) _ p _ (zs.take p) (by rfl) (by exact HI1.out) p (by omega) (zs.take p) (by rfl) (by omega) (by exact HS1.out) ?_; intro A5 c5 w5 H1 H2 H3) | (refine step_app (by rfl) (.tmp 115) (.tmp 119) (by rfl) w.heap.size _ p (zs.take p) (by rfl) (by exact H1.out) _ (zs.length - (p + 1)) _ (zs.drop (p + 1)) (by rfl) (by exact (HK.out _ H2.out).1) (zs.length - 1) (by omega) (zs.eraseIdx p) (by exact HER.out) (by omega) (by exact (HK.out _ H2.out).2.size) ?_; intro A6 c6 w6 G1 G2 G3))
              all_goals
                go_wp2_with fail
                go_meet
                case rel => exact ⟨zs.eraseIdx p, zp, true, plays_twice R4.out W4.out H2.out H3.out G1.out G2.out G3.out HEL.out, rfl, rfl, rfl, rfl⟩
            · have R4 := Lib.hid hr4
              clear hr4
              by_cases hz0 : z < 0
              · have hd6 : decide (0 ≤ z) = false := by simp; omega
                clear hz
                go_wp2_with fail
                go_meet
                case rel => exact ⟨zs, 0, false, ⟨R4.out, O4.out, N3.out, W4.out⟩, rfl, rfl, rfl, rfl⟩
              · have hd6 : decide (0 ≤ z) = true := by simp; omega
                have hd7 : decide (z < (zs.length : Int)) = false := by simp; omega
                clear hz
                go_wp2_with fail
                go_meet
                case rel => exact ⟨zs, 0, false, ⟨R4.out, O4.out, N3.out, W4.out⟩, rfl, rfl, rfl, rfl⟩
      case rest =>
        obtain ⟨zs', z, bb, hrel', rfl, rfl, rfl, rfl⟩ := hcut
        obtain ⟨hr, ho, hne', hb'⟩ := hrel'
        have R5 := Lib.hid hr
        have O5 := Lib.hid ho
        have N5 := Lib.hid hne'
        have W5 := Lib.hid hb'
        have HL5 := Lib.hid (ints_length zs')
        clear hr ho hne' hb' R3 O3 N3 W3 HV HOB HG3 hnc hlen
        obtain ⟨A5, c5, rfl, hnc, hvals, _⟩ := Vals.shape O5.out
        have HV5 := Lib.hid hvals
        have hl5 : zs'.length ≤ 4096 := by have := R5.out.lt; rw [ints_length] at this; omega
        clear hvals
        have hbb : (bb != bb) = false := by cases bb <;> rfl
        go_wp2_with (first | (go_at_call 9; (with_reducible refine (lenin_I g q r zs'.length _ _ R5.out HL5.out).mono ?_); rintro e w' ⟨rfl, rfl⟩) | (go_at_call 10; (with_reducible refine (roomin_I g q r _ _ R5.out).mono ?_); rintro e w' ⟨rfl, rfl⟩))
        go_loopw [16, 17, 18] (fun v _ _ w' => ∃ i : Int, -1 ≤ i ∧ i ≤ (zs'.length : Int) + 1 ∧ v = .int .i64 i ∧ PlaysRel w g q r zs' (.slice A5 zs'.length c5) w') (fun v _ _ _ => ((zs'.length : Int) + 2 - intOf v).toNat)
        case atStart => exact ⟨-1, by omega, by omega, rfl, R5.out, O5.out, N5.out, W5.out⟩
        case round =>
          obtain ⟨i, hi0, hi1, rfl, hr, ho, hne', hb'⟩ := hrel
          have R6 := Lib.hid hr
          have O6 := Lib.hid ho
          have N6 := Lib.hid hne'
          have W6 := Lib.hid hb'
          clear hr ho hne' hb' R5 O5 N5 W5
          by_cases hle : i ≤ (zs'.length : Int)
          · have e1 : decide (i ≤ (zs'.length : Int)) = true := by simpa using hle
            by_cases hneg : i < 0
            · have e2 : decide (0 ≤ i) = false := by simp; omega
              have HX : Hid (i < 0 ∨ ((ints zs').length : Int) ≤ i) := .inl hneg
              go_wp2_with (first | (go_at_call 14; (with_reducible refine (atnone_I g q r _ _ _ R6.out HX.out).mono ?_); rintro e w' ⟨rfl, rfl⟩))
              go_roundw
              case rel => exact ⟨i + 1, by omega, by omega, rfl, R6.out, O6.out, N6.out, W6.out⟩
              case measure => simp [intOf]; omega
            · have e2 : decide (0 ≤ i) = true := by simp; omega
              by_cases hlast : i = (zs'.length : Int)
              · have e3 : decide (i < (zs'.length : Int)) = false := by simp; omega
                have HX : Hid (i < 0 ∨ ((ints zs').length : Int) ≤ i) := .inr (by rw [ints_length]; omega)
                clear hlast
                go_wp2_with (first | (go_at_call 14; (with_reducible refine (atnone_I g q r _ _ _ R6.out HX.out).mono ?_); rintro e w' ⟨rfl, rfl⟩))
                go_roundw
                case rel => exact ⟨i + 1, by omega, by omega, rfl, R6.out, O6.out, N6.out, W6.out⟩
                case measure => simp [intOf]; omega
              · have e3 : decide (i < (zs'.length : Int)) = true := by simp; omega
                obtain ⟨p, hp⟩ : ∃ p : Nat, i = p := ⟨i.toNat, by omega⟩
                subst hp
                have hpl : p < zs'.length := by omega
                have e4 : decide (p < zs'.length) = true := by simpa using hpl
                have e5 : decide (p ≤ zs'.length) = true := by simp; omega
                obtain ⟨ad, rfl, hcp⟩ := (Vals.of_own O6.out).at_ (ints_at hpl)
                have HAT := Lib.hid (ints_at hpl)
                generalize zs'.getD p 0 = zp at *
                go_wp2_with (first | (go_at_call 14; (with_reducible refine (at_I g q r p _ _ _ _ R6.out rfl HAT.out).mono ?_); rintro e w' ⟨rfl, md, rfl⟩))
                go_roundw
                case rel => exact ⟨(p : Int) + 1, by omega, by omega, rfl, R6.out, O6.out, N6.out, below_drewN W6.out md⟩
                case measure => simp [intOf]; omega
          · have e1 : decide (i ≤ (zs'.length : Int)) = false := by simpa using hle
            go_wp2
            go_roundw
            case rel => exact ⟨k + 1, zs', by omega, by go_num, R6.out, O6.out, N6.out, W6.out⟩
            case measure => simp [intOf]; omega
    · obtain rfl : k = n := by omega
      have hd5 : decide ((k : Int) < (k : Int)) = false := by simp
      clear hb
      go_wp2
      go_ret
      exact ⟨rfl, W3.out⟩
end Go.Proofs.Yteamdgkpeoeafaa
