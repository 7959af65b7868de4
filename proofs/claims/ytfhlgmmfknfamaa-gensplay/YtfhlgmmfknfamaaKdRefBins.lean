/- The contracts of the document's Bins, of its Ints of two lists that are alike, and of the laws' awake. Conditions: those of each theorem. -/
import Derived.Test.YtfhlgmmfknfamaaKdBins
namespace Go.Proofs.Ytfhlgmmfknfamaa.kd
open Go.RowKit

/-- append of numbers onto an own row, its length and its numbers told. -/
theorem wpList_appI {w : World} {ops : Array Oper} {rest : List Oper} {o : Oper} {a : Act} {Q : Exit → Act → World → Prop} (hgd : o.guard = none) (s x : Operand)
    (ho : o.op = .call { callee := .builtin .append, args := #[s, x], argTypes := #[47, 47] })
    (base : Nat) (v : Value) (n : Nat) (xs : List Int) (hs : a.eval s = v) (hown : w.ownsRow base 3 1 v n (ints xs))
    (A : Option Addr) (m c : Nat) (bs : List Int) (hx : a.eval x = .slice A m c) (h : summ.Vals w A m (ints bs)) (k : Nat) (hk : n + m = k) (zs : List Int) (hz : xs ++ bs = zs) (hn : k ≤ 1000000) (hb : base ≤ w.heap.size)
    (hK : ∀ A' c' w', Hid (w'.ownsRow base 3 1 (.slice A' k c') k (ints zs)) → Hid (w.grownBy w' v.ownBlock) → wpList Try.prog ops Q rest (a.put o.dst (.slice A' k c')) w') : wpList Try.prog ops Q (o :: rest) a w := by
  subst hk hz
  refine wpList_plain hgd fun K hK' => ?_
  obtain ⟨v', w', hrun, h2, h3, _⟩ := summ.run_append_vals (P := Try.prog) w base 47 o.type 3 (.int .i64 0) 8 Try.underlying47 info3 rfl v n (ints xs) hown A m c (ints bs) h (ints_one bs) hn (by omega) hb
  rw [← ints_app] at h2
  obtain ⟨A', c', rfl, _⟩ := summ.Vals.of_row h2
  unfold Oper.wp
  simp [execOp, ho, resolve, invoke, builtin, hs, hx, hrun, Result.andThen]
  exact hK' _ _ (hK A' c' w' h2 h3)
/-- The same, the level's number told. -/
theorem refFall_at (k : List Nat) (f : Flo) (l : Nat) (y n : Int) (w : World) (hy : y = ((l : Nat) : Int)) (hk : summ.Octs k) (h16 : k.length = 16) (hf : f.Ok) (hl : l ≤ 255) (hn : n ≤ 9223372036854775807) :
    Calls Try.prog 35 #[.agg (summ.cel k).toArray, .agg f.cells.toArray, .int .i64 y, .int .i64 n] w (NumOut w (fl k f.key l n)) := by
  subst hy
  exact refFall_any k f l n w hk h16 hf hl hn
/-- Where the loop stands: j bins are there. -/
structure RefAt (w : World) (k : List Nat) (f : Flo) (n : Int) (j : Nat) (o : Value) (W : World) : Prop where
  row : ∃ Z c, o = .slice Z j c ∧ W.ownsRow (w.heap.size + 2) 3 1 (.slice Z j c) j (ints (bns k f.key n j))
  two : Two w.heap.size (w.heap.size + 1) k f W
  be : Below w.heap.size w W

set_option maxRecDepth 100000 in
set_option maxHeartbeats 4000000 in
theorem refBins_any (k : List Nat) (f : Flo) (z n : Int) (w : World) (hk : summ.Octs k) (h16 : k.length = 16) (hf : f.Ok) (hn : n ≤ 9223372036854775807) :
    Calls Try.prog 31 #[.agg (summ.cel k).toArray, .agg f.cells.toArray, .int .i64 z, .int .i64 n] w (BinsOut w (bns k f.key n (lvl z))) := by
  have R0 : Hid (RefAt w k f n 0 (.slice none 0 0) ((w.alloc (.cells (summ.cel k).toArray 22)).alloc (.cells f.cells.toArray 45))) := ⟨⟨none, 0, rfl, ⟨rfl, .inl ⟨rfl, rfl⟩⟩⟩, Two.new w k f, below_two w _ _⟩
  have hlv := Lib.hid (fun i => lvl_lt (z := z) (i := i))
  have hl4 := lvl_le z
  generalize lvl z = L at *
  have LF := Lib.hid hf.cells_length
  have H16 := Lib.hid h16
  have CF := Lib.hid (fun l y W (hy : y = ((l : Nat) : Int)) (hl : l ≤ 255) => refFall_at k f l y n W hy hk h16 hf hl hn)
  clear hf hk h16
  go_enter Try.func31, Try.ntmps31
  go_upto_region 1 with (fail)
  generalize ((w.alloc (.cells (summ.cel k).toArray 22)).alloc (.cells f.cells.toArray 45)) = w1 at *
  go_wp2_with fail
  go_loopw [9, 10, 11] (fun o _ y w' => ∃ i : Nat, y = .int .i64 (i : Nat) ∧ i ≤ 4 ∧ RefAt w k f n (min i L) o w') (fun _ _ y _ => 4 - (intOf y).toNat)
  case atStart => exact ⟨0, rfl, by omega, by rw [Nat.zero_min]; exact R0.out⟩
  case round =>
    obtain ⟨i, rfl, hi, hr⟩ := hrel
    clear R0
    have HR := Lib.hid hr
    clear hr
    by_cases hlt : i < 4
    · have hd : decide ((i : Int) < 4) = true := by simp; omega
      by_cases hL : i < L
      · have hd3 : decide ((i : Int) < z) = true := by simpa using (hlv.out i hlt).1 hL
        have hm : min i L = i := by omega
        rw [hm] at HR
        obtain ⟨⟨Z, c, rfl, ho⟩, ht, hbe⟩ := HR.out
        have HO := Lib.hid ho
        have HT := Lib.hid ht
        have HW := Lib.hid hbe
        clear ho ht hbe HR hm
        have hN := bns_snoc k f.key n i
        go_wp2_with (first | (refine wpList_key rfl (.tmp 4) rfl w.heap.size rfl k HT.out.1 H16.out ?_) | (refine wpList_flo rfl (.tmp 5) rfl (w.heap.size + 1) rfl f HT.out.2 LF.out ?_) | (go_at_call 35; (with_reducible refine (CF.out (i + 1) ((i : Int) + 1) _ (by omega) (by omega)).mono ?_); rintro e w4 ⟨rfl, hb⟩; have O4 := Lib.hid (((Far.of_below hb nobody).row HO.out (fun _ _ e => e)).alloc (.cells #[.int .i64 (fl k f.key (i + 1) n)] 3)); have T4 : Hid (Two w.heap.size (w.heap.size + 1) k f (w4.alloc (.cells #[.int .i64 (fl k f.key (i + 1) n)] 3))) := (HT.out.below hb).below ((Below.refl _ _).alloc (Nat.le_refl _) _); have W4 : Hid (Below w.heap.size w (w4.alloc (.cells #[.int .i64 (fl k f.key (i + 1) n)] 3))) := (HW.out.trans (hb.mono HW.out.size)).alloc (Nat.le_trans HW.out.size hb.size) _; have B4 : Hid (summ.Vals (w4.alloc (.cells #[.int .i64 (fl k f.key (i + 1) n)] 3)) (some ⟨w4.heap.size, 0, none⟩) 1 (ints [fl k f.key (i + 1) n])) := summ.Vals.of_blk (summ.Blk.new w4 3 (ints [fl k f.key (i + 1) n])) rfl; have hs4 : w.heap.size + 2 ≤ (w4.alloc (.cells #[.int .i64 (fl k f.key (i + 1) n)] 3)).heap.size := (by have := T4.out.2.lt; omega); clear hb) | (refine wpList_appI rfl (.tmp 17) (.tmp 24) rfl (w.heap.size + 2) (.slice Z i c) i (bns k f.key n i) rfl O4.out (some ⟨w4.heap.size, 0, none⟩) 1 1 [fl k f.key (i + 1) n] rfl B4.out (i + 1) rfl (bns k f.key n (i + 1)) hN (by omega) hs4 ?_; intro Z5 c5 w5 O5 G5; have R5 : Hid (RefAt w k f n (i + 1) (.slice Z5 (i + 1) c5) w5) := ⟨⟨Z5, c5, rfl, O5.out⟩, ⟨T4.out.1.grown G5.out (fun e => by have := (O4.out.lt _ e).1; omega), T4.out.2.grown G5.out (fun e => by have := (O4.out.lt _ e).1; omega)⟩, W4.out.grown G5.out W4.out.size (fun j e => by have := (O4.out.lt j e).1; omega)⟩; clear O5 G5))
        go_roundw
        case rel => exact ⟨i + 1, by go_num, by omega, by rw [show min (i + 1) L = i + 1 by omega]; exact R5.out⟩
        case measure => simp [intOf]; omega
      · have hd3 : decide ((i : Int) < z) = false := by simpa using fun h => hL ((hlv.out i hlt).2 h)
        have R5 : Hid (RefAt w k f n (min (i + 1) L) u9 wr) := by
          have := HR.out
          rw [show min i L = min (i + 1) L by omega] at this
          exact this
        go_wp2_with fail
        go_roundw
        case rel => exact ⟨i + 1, by go_num, by omega, R5.out⟩
        case measure => simp [intOf]; omega
    · have hd : decide ((i : Int) < 4) = false := by simp; omega
      have R5 : Hid (RefAt w k f n L u9 wr) := by
        have := HR.out
        rw [show min i L = L by omega] at this
        exact this
      clear HR
      obtain ⟨⟨Z, c, rfl, ho⟩, ht, hbe⟩ := R5.out
      have HO := Lib.hid ho
      have HW := Lib.hid hbe
      clear ho ht hbe R5
      go_wp2
      go_ret
      have hl := bns_length k f.key n L
      refine ⟨Z, c, by rw [hl]; rfl, HW.out, ?_⟩
      rw [hl]
      exact summ.Vals.of_own HO.out

set_option maxRecDepth 100000 in
set_option maxHeartbeats 2000000 in
/-- Two lists that are alike are. -/
theorem ints_alike (A B : Option Addr) (m c c' : Nat) (zs : List Int) (w : World) (hm : m ≤ 1000) (ha : summ.Vals w A m (ints zs)) (hb : summ.Vals w B m (ints zs)) :
    Calls Try.prog 24 #[.slice A m c, .slice B m c'] w fun e w' => e = .returned (.bool true) ∧ Below w.heap.size w w' := by
  have hl : zs.length = m := by have := ha.1; rw [ints_length] at this; exact this
  have HA := Lib.hid ha
  have HB := Lib.hid hb
  have HL := Lib.hid hl
  have W0 : Hid (Below w.heap.size w w) := Below.refl _ w
  clear ha hb hl
  go_enter Try.func24, Try.ntmps24
  go_wp2_with fail
  go_loopw [5, 13] (fun _ y w' => ∃ i : Nat, y = .int .i64 (i : Nat) ∧ i ≤ m ∧ Below w.heap.size w w') (fun _ y _ => m - (intOf y).toNat)
  case atStart => exact ⟨0, rfl, by omega, W0.out⟩
  case round =>
    obtain ⟨i, rfl, hi, hr⟩ := hrel
    have HR := Lib.hid hr
    clear hr W0
    by_cases hlt : i < m
    · have hd : decide ((i : Int) < (m : Int)) = true := by simp; omega
      have hd2 : decide (i < m) = true := by simpa using hlt
      obtain ⟨ad, rfl, h1⟩ := HA.out.at_ (ints_at (zs := zs) (k := i) (by rw [HL.out]; exact hlt))
      obtain ⟨bd, rfl, h2⟩ := HB.out.at_ (ints_at (zs := zs) (k := i) (by rw [HL.out]; exact hlt))
      have c1 := keep9 HR.out h1
      have c2 := keep9 HR.out h2
      clear h1 h2
      generalize zs.getD i 0 = x at *
      go_wp2_with fail
      go_region
      go_wp2_with fail
      go_roundw
      case rel => exact ⟨i + 1, by go_num, by omega, HR.out.drew⟩
      case measure => simp [intOf]; omega
    · have hd : decide ((i : Int) < (m : Int)) = false := by simp; omega
      have hd2 : decide (i < m) = false := by simpa using hlt
      go_wp2
      go_ret
      exact ⟨rfl, HR.out⟩

/-- Nothing. -/
def k0 : List Nat := List.replicate 16 0
def f0 : Flo := ⟨false, 0, zz, zz, 0, 0⟩
theorem k0_octs : summ.Octs k0 := fun b hb => by
  have := List.eq_of_mem_replicate hb
  omega
theorem f0_ok : f0.Ok := by
  have hz : Octs zz := fun z hz => by
    have := List.eq_of_mem_replicate hz
    omega
  exact ⟨rfl, rfl, hz, hz, ⟨by decide, by decide⟩, by decide, by decide⟩
theorem run_k0 (w : World) : (Instr.build 22 #[]).run Try.prog w = .ok (.agg (summ.cel k0).toArray) w := run_build w 22 _ _ (by kernel_rfl)
theorem run_f0 (w : World) : (Instr.build 45 #[]).run Try.prog w = .ok (.agg f0.cells.toArray) w := run_build w 45 _ _ (by kernel_rfl)
end Go.Proofs.Ytfhlgmmfknfamaa.kd
