/- The walk of the law MailOrder: for any numbers and any step it returns true and turns nothing that was there. -/
import Derived.Test.YtninoghalmhngaaFullWalk
namespace Go.Proofs.Ytninoghalmhngaa
open Go.RowKit

theorem below_drewN {B : Nat} {w w' : World} (h : Below B w w') (k : Nat) : Below B w (w'.drewN k) := ⟨h.os, h.tape, h.output, h.size, h.block⟩
/-- How long a slice is. -/
def lenV : Value → Nat
  | .slice _ n _ => n
  | _ => 0
/-- The box stays while a list grows. -/
theorem BoxAt.appended {w w' : World} {g c n : Nat} {B : Nat → Prop} {vs : List Int} {v v' : Value} (h : BoxAt w g c n (fun k => B k ∨ v.ownBlock = some k) vs) (hg : w.grownBy w' v.ownBlock) (hv : v'.ownBlock = v.ownBlock ∨ v'.ownBlock = some w.heap.size) : BoxAt w' g c n (fun k => B k ∨ v'.ownBlock = some k) vs := by
  have hb2 : BoxAt w g c n (fun k => B k ∨ v.ownBlock = some k ∨ v'.ownBlock = some k) vs := h.weak fun k hk e => by
    rcases e with e | e | e
    · exact .inl e
    · exact .inr e
    · rcases hv with hv | hv
      · exact .inr (hv ▸ e)
      · rw [hv] at e
        injection e with e
        omega
  exact (hb2.far (S := fun k => v.ownBlock = some k) ((Far.refl _ w).grown hg (fun k e _ => e)) (fun k e => .inr (.inl e))).weak fun k _ e => by
    rcases e with e | e
    · exact .inl e
    · exact .inr (.inr e)

/-- Where the second loop stands: the first t are out, the others in the box. -/
def OrderRel (w : World) (g c n : Nat) (zs : List Int) (t : Nat) (v : Value) (w' : World) : Prop :=
  w'.ownsRow w.heap.size 3 1 v t (ints (zs.take t)) ∧ BoxAt w' g c n (fun k => old w k ∨ v.ownBlock = some k) (zs.drop t) ∧ Below w.heap.size w w'
/-- Behind an append of what was drained. -/
theorem OrderRel.more {w w2 w3 : World} {g c n : Nat} {zs zs' : List Int} {t : Nat} {v v' : Value} (hb : BoxAt w2 g c n (fun k => old w k ∨ v.ownBlock = some k) zs') (hw : Below w.heap.size w w2) (hrow : w2.ownsRow w.heap.size 3 1 v t (ints (zs.take t))) {t' : Nat} (ho : w3.ownsRow w.heap.size 3 1 v' t' (ints (zs.take t'))) (hg : w2.grownBy w3 v.ownBlock)
    (hv : v'.ownBlock = v.ownBlock ∨ v'.ownBlock = some w2.heap.size) (hz : zs' = zs.drop t') : OrderRel w g c n zs t' v' w3 := by
  subst hz
  exact ⟨ho, hb.appended hg hv, hw.grown hg hw.size (fun k e => (hrow.lt k e).1)⟩
theorem below_only {B : Nat → Prop} {w w1 w2 : World} {g c n : Nat} {vs : List Int} (h : BoxAt w1 g c n B vs) (hB : ∀ k, k < w.heap.size → B k) (hb : Below w.heap.size w w1) (hf : Far (only c) w1 w2) : Below w.heap.size w w2 :=
  hb.trans (hf.below hb.size (fun k hk e => h.apart.2 (by have : k = c := e; subst this; exact hB _ hk)))

set_option maxRecDepth 100000 in
set_option maxHeartbeats 4000000 in
theorem order_long (A : Option Addr) (n c : Nat) (mo : Int) (w : World) (hn : 100 < n) : Calls Try.prog 5 #[.slice A n c, .int .u8 mo] w fun e w' => e = .returned (.bool true) ∧ Below w.heap.size w w' := by
  have hd : decide ((100 : Int) < (n : Int)) = true := by simp; omega
  go_enter Try.func5, Try.ntmps5
  go_wp2_with fail
  refine (awake_any _).mono ?_
  rintro e w1 ⟨rfl, hb1⟩
  have W1 := Lib.hid hb1
  clear hb1
  go_wp2_with fail
  refine (awake_any _).mono ?_
  rintro e w2 ⟨rfl, hb2⟩
  have W2 : Hid (Below w.heap.size w w2) := W1.out.trans (hb2.mono W1.out.size)
  clear hb2
  go_wp2_with fail
  go_ret
  exact ⟨rfl, W2.out⟩

set_option maxRecDepth 100000 in
set_option maxHeartbeats 4000000 in
theorem order_near (A : Option Addr) (n cp : Nat) (mo : Int) (zs : List Int) (w : World) (hn : n ≤ 100) (hz : zs.length = n) (h0 : 0 ≤ mo) (h1 : mo ≤ 255) (hA : ∀ k, k < n → ∃ ad, A = some ad ∧ w.cell? (ad.add k) = some (.int .i64 (zs.getD k 0))) :
    Calls Try.prog 5 #[.slice A n cp, .int .u8 mo] w fun e w' => e = .returned (.bool true) ∧ Below w.heap.size w w' := by
  have hd : decide ((100 : Int) < (n : Int)) = false := by simp; omega
  have HA := Lib.hid hA
  clear hA
  go_enter Try.func5, Try.ntmps5
  go_wp2_with (first | (go_at_call 7; (with_reducible refine (awake_any _).mono ?_); rintro e w1 ⟨rfl, hb1⟩; have W1 := Lib.hid hb1; clear hb1) | (go_at_call 8; (with_reducible refine (new_ok _ 100 _ (by omega) (by omega) (by omega)).mono ?_); rintro e w2 ⟨g, c, rfl, hr, hg, hc, hb2⟩; have R2 : Hid (BoxAt w2 g c 100 (old w) []) := hr.weak (fun k _ e => Nat.lt_of_lt_of_le e W1.out.size); have W2 : Hid (Below w.heap.size w w2) := W1.out.trans (hb2.mono W1.out.size); clear hr hb2))
  clear hg hc
  go_loopw [7, 26] (fun _ y w' => ∃ k : Nat, y = .int .i64 k ∧ k ≤ n ∧ BoxAt w' g c 100 (old w) (zs.take k) ∧ Below w.heap.size w w') (fun _ y _ => n - (intOf y).toNat)
  case atStart => exact ⟨0, rfl, by omega, R2.out, W2.out⟩
  case round =>
    obtain ⟨k, rfl, hk, hr, hb⟩ := hrel
    have HR := Lib.hid hr
    have HW := Lib.hid hb
    have hws := hb.size
    by_cases hlt : k < n
    · have hd1 : decide ((k : Int) < (n : Int)) = true := by simp; omega
      have HL : Hid ((zs.take k).length < 100) := by show _ < _; rw [List.length_take]; omega
      obtain ⟨ad, rfl, hca⟩ := HA.out k hlt
      have hcell := (hb.cell (World.block_lt_of_cell? w _ hca)).trans hca
      have HS := Lib.hid (take_snoc (zs := zs) (k := k) (by omega))
      generalize zs.getD k 0 = z at HS hcell
      clear hr hb hca
      go_wp2_with (first | (go_at_call 10; (with_reducible refine (put_room g c 100 _ _ _ _ HR.out HL.out (old_not hws)).mono ?_); rintro e w3 ⟨rfl, hr3, hf3⟩; have R3 := Lib.hid hr3; have W3 := Lib.hid (HR.out.turn HW.out hf3); clear hr3 hf3))
      go_roundw
      case rel => exact ⟨k + 1, by go_num, by omega, by rw [← HS.out]; exact R3.out, W3.out⟩
      case measure => simp [intOf]; omega
    · have hd1 : decide ((k : Int) < (n : Int)) = false := by simp; omega
      have HB : Hid (BoxAt wr g c 100 (old w) zs) := by have := HR.out; rw [List.take_of_length_le (by omega)] at this; exact this
      clear hr hb HR
      go_wp2_with fail
      go_loopw [8, 9, 10] (fun v _ _ w' => ∃ t : Nat, t ≤ n ∧ lenV v = t ∧ OrderRel w g c 100 zs t v w') (fun v _ _ _ => n - lenV v)
      case atStart => exact ⟨0, by omega, rfl, World.ownsRow_nil _ _ _ _, HB.out.weak (fun k _ e => by rcases e with e | e; exact e; cases e), HW.out⟩
      case round =>
        obtain ⟨t, ht, hlv, hr⟩ := hrel
        have O1 := Lib.hid hr.1
        have B1 := Lib.hid hr.2.1
        have W3 := Lib.hid hr.2.2
        have hws3 := hr.2.2.size
        clear hr
        obtain ⟨A1, c1, rfl, hnc, _⟩ := Vals.of_row O1.out
        have HL : Hid ((zs.drop t).length = n - t) := by show _ = _; rw [List.length_drop, hz]
        by_cases hlt2 : t < n
        · have hd2 : decide ((0 : Int) < ((n - t : Nat) : Int)) = true := by simp; omega
          have hd3 : decide (0 < n - t) = true := by simp; omega
          obtain ⟨d, hdd⟩ : ∃ d : Nat, (d : Int) = max 0 (min (1 + mo) ((n - t : Nat) : Int)) := ⟨(max 0 (min (1 + mo) ((n - t : Nat) : Int))).toNat, by omega⟩
          have hdn : 1 ≤ d ∧ t + d ≤ n := by omega
          have HM : Hid ((d : Int) = max 0 (min (1 + mo) (zs.drop t).length)) := by show _ = _; rw [HL.out]; exact hdd
          have HC : Hid (∀ k, (Value.slice A1 t c1).ownBlock = some k → k ≠ c) := fun k e h => B1.out.apart.2 (.inr (h ▸ e))
          have HT : Hid (zs.take t ++ (zs.drop t).take d = zs.take (t + d)) := List.take_add.symm
          have HD : Hid ((zs.drop t).drop d = zs.drop (t + d)) := List.drop_drop
          clear hdd
          go_wp2_with (first | (go_at_call 9; (with_reducible refine (len_is g c 100 (n - t) _ _ _ B1.out HL.out).mono ?_); rintro e w' ⟨rfl, rfl⟩) | (go_at_call 11; (with_reducible refine (drain_any g c 100 _ _ _ d _ B1.out HM.out).mono ?_); rintro e w4 ⟨A4, c4, rfl, hd4⟩; have O4 := Lib.hid (hd4.2.2.row O1.out (fun k e h => HC.out k e h)); have V4 := Lib.hid (Vals.of_own hd4.1); have B4 := Lib.hid (hd4.2.1.weak (B' := fun k => old w k ∨ (Value.slice A1 t c1).ownBlock = some k) (fun k _ e => .inl e)); have W4 : Hid (Below w.heap.size w w4) := below_only B1.out (fun k hk => .inl hk) W3.out hd4.2.2; have hws4 := W4.out.size; clear hd4) | (at_builtin; refine wpList_app rfl (.tmp 40) (.tmp 45) rfl w.heap.size (.slice A1 t c1) t (zs.take t) rfl (by exact O4.out) A4 d c4 ((zs.drop t).take d) rfl (by exact V4.out) (t + d) rfl (zs.take (t + d)) HT.out (by omega) hws4 ?_; intro A5 c5 w5 H1 H2 H3))
          have R5 := Lib.hid (OrderRel.more (w := w) B4.out W4.out O4.out H1.out H2.out H3.out HD.out)
          have B5 := Lib.hid R5.out.2.1
          have W5 := Lib.hid R5.out.2.2
          have hws5 := R5.out.2.2.size
          clear B1 B4 O1 O4 V4 H2 H3 W3 W4 HM HT HD
          by_cases hlt3 : t + d < n
          · have HY : Hid (BoxAt w5 g c 100 (fun k => old w k ∨ (Value.slice A5 (t + d) c5).ownBlock = some k) (zs.getD (t + d) 0 :: zs.drop (t + d + 1))) := by
              have := B5.out
              rw [drop_at (by omega)] at this
              exact this
            have HT2 := Lib.hid (take_snoc (zs := zs) (k := t + d) (by omega))
            have HC5 : Hid (∀ k, (Value.slice A5 (t + d) c5).ownBlock = some k → k ≠ c) := fun k e h => B5.out.apart.2 (.inr (h ▸ e))
            generalize zs.getD (t + d) 0 = z at HY HT2
            go_wp2_with (first | (go_at_call 12; (with_reducible refine (take_some g c 100 _ _ _ _ HY.out).mono ?_); rintro e w6 ⟨rfl, hb6, hf6⟩; have B6 := Lib.hid hb6; have W6 : Hid (Below w.heap.size w w6) := below_only HY.out (fun k hk => .inl hk) W5.out hf6; have O6 := Lib.hid (hf6.row H1.out (fun k e h => HC5.out k e h)); have hws6 := W6.out.size; clear hb6 hf6) | (at_builtin; refine wpList_app rfl (.tmp 53) (.tmp 55) rfl w.heap.size (.slice A5 (t + d) c5) (t + d) (zs.take (t + d)) rfl (by exact O6.out.alloc _) (some ⟨w6.heap.size, 0, none⟩) 1 1 [z] rfl (by exact Vals.of_blk (vs := ints [z]) (Blk.new w6 3 (ints [z])) rfl) (t + d + 1) rfl (zs.take (t + d + 1)) HT2.out (by omega) (by simp; omega) ?_; intro A7 c7 w7 G1 G2 G3))
            go_roundw
            case rel => exact ⟨t + d + 1, by omega, rfl, OrderRel.more (B6.out.below ((Below.refl _ _).alloc (Nat.le_refl _) _)) (W6.out.alloc hws6 _) (O6.out.alloc _) G1.out G2.out G3.out rfl⟩
            case measure => simp [lenV]; omega
          · have HY : Hid (BoxAt w5 g c 100 (fun k => old w k ∨ (Value.slice A5 (t + d) c5).ownBlock = some k) []) := by
              have := B5.out
              rw [List.drop_eq_nil_of_le (by omega)] at this
              exact this
            go_wp2_with (first | (go_at_call 12; (with_reducible refine (take_none g c 100 _ _ HY.out).mono ?_); rintro e w6 ⟨rfl, rfl⟩))
            go_roundw
            case rel => exact ⟨t + d, by omega, rfl, R5.out⟩
            case measure => simp [lenV]; omega
        · have hd2 : decide ((0 : Int) < ((n - t : Nat) : Int)) = false := by simp; omega
          have hd3 : decide (0 < n - t) = false := by simp; omega
          have htn : t = n := by omega
          have O2 : Hid (wr.ownsRow w.heap.size 3 1 (.slice A1 t c1) t (ints zs)) := by have := O1.out; rw [List.take_of_length_le (by omega)] at this; exact this
          have HAW : Hid (∀ k, k < n → ∃ ad, A = some ad ∧ wr.cell? (ad.add k) = some (.int .i64 (zs.getD k 0))) := fun k hk => by
            obtain ⟨ad, e, hc⟩ := HA.out k hk
            exact ⟨ad, e, (W3.out.cell (World.block_lt_of_cell? w _ hc)).trans hc⟩
          have V2 := Lib.hid (Vals.of_own O2.out)
          have hne : (((t : Nat) : Int) != ((n : Nat) : Int)) = false := by rw [htn]; simp
          go_wp2_with (first | (go_at_call 9; (with_reducible refine (len_is g c 100 (n - t) _ _ _ B1.out HL.out).mono ?_); rintro e w' ⟨rfl, rfl⟩))
          clear htn hne
          go_loopw [11, 64] (fun _ y w' => ∃ i : Nat, y = .int .i64 i ∧ i ≤ n ∧ Below wr.heap.size wr w') (fun _ y _ => n - (intOf y).toNat)
          case atStart => exact ⟨0, rfl, by omega, Below.refl _ _⟩
          case round =>
            obtain ⟨i, rfl, hi, hbw⟩ := hrel
            have WX := Lib.hid hbw
            by_cases hlt4 : i < n
            · have hd4 : decide ((i : Int) < (n : Int)) = true := by simp; omega
              have hd5 : decide (i < t) = true := by simp; omega
              have hd6 : decide (i < n) = true := by simpa using hlt4
              obtain ⟨ad, rfl, hc1⟩ := HAW.out i hlt4
              obtain ⟨ad2, rfl, hc2⟩ := V2.out.at_ (ints_at (zs := zs) (k := i) (by omega))
              have hc3 := (hbw.cell (World.block_lt_of_cell? _ _ hc1)).trans hc1
              have hc4 := (hbw.cell (World.block_lt_of_cell? _ _ hc2)).trans hc2
              generalize zs.getD i 0 = z at hc3 hc4
              clear hbw hc1 hc2
              go_wp2_with fail
              go_quiet (fail)
              go_wp2
              go_roundw
              case rel => exact ⟨i + 1, by go_num, by omega, below_drewN WX.out _⟩
              case measure => simp [intOf]; omega
            · have hd4 : decide ((i : Int) < (n : Int)) = false := by simp; omega
              clear hbw
              go_wp2
              go_ret
              exact ⟨rfl, W3.out.trans (WX.out.mono hws3)⟩
theorem order_any (A : Option Addr) (n cp : Nat) (mo : Int) (zs : List Int) (w : World) (hz : zs.length = n) (h0 : 0 ≤ mo) (h1 : mo ≤ 255) (hA : ∀ k, k < n → ∃ ad, A = some ad ∧ w.cell? (ad.add k) = some (.int .i64 (zs.getD k 0))) :
    Calls Try.prog 5 #[.slice A n cp, .int .u8 mo] w fun e w' => e = .returned (.bool true) ∧ Below w.heap.size w w' := by
  by_cases hn : n ≤ 100
  · exact order_near A n cp mo zs w hn hz h0 h1 hA
  · exact order_long A n cp mo w (by omega)
end Go.Proofs.Ytninoghalmhngaa
