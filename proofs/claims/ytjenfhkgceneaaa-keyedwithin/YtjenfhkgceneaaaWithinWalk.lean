/- The walk of the law KeyedWithin: for any key, flow and two bytes it returns true and turns nothing that was there. -/
import Derived.Test.YtjenfhkgceneaaaRefBins
namespace Go.Proofs.Ytjenfhkgceneaaa
open Go.RowKit

/-- The same, the list's length told. -/
theorem BinsOut.at_ {w w' : World} {zs : List Int} {e : Ending} {m : Nat} (h : BinsOut w zs e w') (hm : zs.length = m) : ∃ A c, e = .returned (.slice A m c) ∧ Below w.heap.size w w' ∧ summ.Vals w' A m (ints zs) := by
  subst hm
  exact h
/-- Where the loop stands: the key, the flow and both lists. -/
structure WithinAt (w : World) (k : List Nat) (f : Flo) (A B : Option Addr) (T M : Nat) (xs ys : List Int) (W : World) : Prop where
  two : Two w.heap.size (w.heap.size + 1) k f W
  all : summ.Vals W A T (ints xs)
  some_ : summ.Vals W B M (ints ys)
  be : Below w.heap.size w W
theorem WithinAt.drew {w : World} {k : List Nat} {f : Flo} {A B : Option Addr} {T M : Nat} {xs ys : List Int} {W : World} (h : WithinAt w k f A B T M xs ys W) : WithinAt w k f A B T M xs ys W.drew :=
  ⟨h.two, h.all.below (Below.refl _ W).drew, h.some_.below (Below.refl _ W).drew, h.be.drew⟩
theorem WithinAt.drewN {w : World} {k : List Nat} {f : Flo} {A B : Option Addr} {T M : Nat} {xs ys : List Int} {W : World} (h : WithinAt w k f A B T M xs ys W) (q : Nat) : WithinAt w k f A B T M xs ys (W.drewN q) :=
  ⟨h.two, h.all.below (below_drewN (Below.refl _ W) q), h.some_.below (below_drewN (Below.refl _ W) q), below_drewN h.be q⟩

set_option maxRecDepth 100000 in
set_option maxHeartbeats 2000000 in
theorem within_none (k : List Nat) (f : Flo) (l : Nat) (w : World) :
    Calls Try.prog 4 #[.agg (summ.cel k).toArray, .agg f.cells.toArray, .int .u8 ((l : Nat) : Int), .int .u8 0] w fun e w' => e = .returned (.bool true) ∧ Below w.heap.size w w' := by
  have V0 : Hid (Below w.heap.size w ((w.alloc (.cells (summ.cel k).toArray 22)).alloc (.cells f.cells.toArray 25))) := below_two w _ _
  have CA := Lib.hid awake_any
  go_enter Try.func4, Try.ntmps4
  go_upto_region 1 with (fail)
  generalize ((w.alloc (.cells (summ.cel k).toArray 22)).alloc (.cells f.cells.toArray 25)) = w1 at *
  go_upto_region 2 with (go_at_call 7; (with_reducible refine (CA.out _).mono ?_); rintro e w2 ⟨rfl, hb⟩; have V2 : Hid (Below w.heap.size w w2) := V0.out.trans (hb.mono V0.out.size); clear hb)
  go_wp2_with (go_at_call 7; (with_reducible refine (CA.out _).mono ?_); rintro e w3 ⟨rfl, hb⟩; have V3 : Hid (Below w.heap.size w w3) := V2.out.trans (hb.mono V2.out.size); clear hb)
  go_ret
  exact ⟨rfl, V3.out⟩

set_option maxRecDepth 100000 in
set_option maxHeartbeats 8000000 in
theorem within_some (k : List Nat) (f : Flo) (l n : Nat) (w : World) (hk : summ.Octs k) (h16 : k.length = 16) (hf : f.Ok) (hl : l ≤ 255) (hn : n ≤ 255) (hn0 : 0 < n) :
    Calls Try.prog 4 #[.agg (summ.cel k).toArray, .agg f.cells.toArray, .int .u8 ((l : Nat) : Int), .int .u8 ((n : Nat) : Int)] w fun e w' => e = .returned (.bool true) ∧ Below w.heap.size w w' := by
  have T1 : Hid (Two w.heap.size (w.heap.size + 1) k f ((w.alloc (.cells (summ.cel k).toArray 22)).alloc (.cells f.cells.toArray 25))) := Two.new w k f
  have V0 : Hid (Below w.heap.size w ((w.alloc (.cells (summ.cel k).toArray 22)).alloc (.cells f.cells.toArray 25))) := below_two w _ _
  have LF := Lib.hid hf.cells_length
  have H16 := Lib.hid h16
  have CA := Lib.hid awake_any
  have C1 := Lib.hid (fun W => progBucket_any k f n W hk h16 hf (by omega))
  have C3 := Lib.hid (fun W => progBins_any k f 4 n W hk h16 hf (by omega))
  have C4 := Lib.hid (fun W => progBins_any k f l n W hk h16 hf (by omega))
  have hb := fl_bd (k := k) (bs := f.key) (l := 0) (n := n) (by omega)
  have XB : Hid (∀ j, j < lvl 4 → 0 ≤ (bns k f.key n (lvl 4)).getD j 0 ∧ (bns k f.key n (lvl 4)).getD j 0 < n) := fun j hj => by
    rw [bns_at hj]
    exact fl_bd (by omega)
  have XY : Hid (∀ j, j < lvl 4 → j < lvl l → (bns k f.key n (lvl l)).getD j 0 = (bns k f.key n (lvl 4)).getD j 0) := fun j h1 h2 => by rw [bns_at h1, bns_at h2]
  have LX := Lib.hid (bns_length k f.key n (lvl 4))
  have LY := Lib.hid (bns_length k f.key n (lvl l))
  have hT : lvl 4 = 4 := rfl
  have hM : ((lvl l : Nat) : Int) = min (l : Int) 4 := by unfold lvl; omega
  have hM4 := lvl_le l
  have dT : (((lvl 4 : Nat) : Int) == 4) = true := by rw [hT]; rfl
  have dM : (((lvl l : Nat) : Int) == min (l : Int) 4) = true := by rw [hM]; simp
  generalize bns k f.key n (lvl 4) = xs at *
  generalize bns k f.key n (lvl l) = ys at *
  generalize fl k f.key 0 n = b at *
  generalize lvl l = M at *
  generalize lvl 4 = T at *
  have db0 : decide (0 ≤ b) = true := by simpa using hb.1
  have db1 : decide (b < (n : Int)) = true := by simpa using hb.2
  have hT4 : T ≤ 4 := by omega
  have dn : ((n : Int) == 0) = false := by simp; omega
  clear hf hk h16 hT hM hb hn0
  go_enter Try.func4, Try.ntmps4
  go_upto_region 1 with (fail)
  generalize ((w.alloc (.cells (summ.cel k).toArray 22)).alloc (.cells f.cells.toArray 25)) = w1 at *
  go_upto_region 3 with (go_at_call 7; (with_reducible refine (CA.out _).mono ?_); rintro e w2 ⟨rfl, hb⟩; have T2 := Lib.hid (T1.out.below hb); have V2 : Hid (Below w.heap.size w w2) := V0.out.trans (hb.mono V0.out.size); clear hb)
  clear T1 V0
  go_upto_region 4 with (first | (refine wpList_key rfl (.tmp 4) rfl w.heap.size rfl k T2.out.1 H16.out ?_) | (refine wpList_flo rfl (.tmp 5) rfl (w.heap.size + 1) rfl f T2.out.2 LF.out ?_) | (go_at_call 11; (with_reducible refine (C3.out _).mono ?_); rintro e w3 h; obtain ⟨A, c, rfl, hb, hy⟩ := h.at_ LX.out; have T3 := Lib.hid (T2.out.below hb); have V3 : Hid (Below w.heap.size w w3) := V2.out.trans (hb.mono V2.out.size); have Y3 := Lib.hid hy; clear hb hy h))
  clear T2 V2
  go_upto_region 5 with (first | (refine wpList_key rfl (.tmp 4) rfl w.heap.size rfl k T3.out.1 H16.out ?_) | (refine wpList_flo rfl (.tmp 5) rfl (w.heap.size + 1) rfl f T3.out.2 LF.out ?_) | (go_at_call 11; (with_reducible refine (C4.out _).mono ?_); rintro e w4 h; obtain ⟨B, c', rfl, hb, hy⟩ := h.at_ LY.out; have W4 : Hid (WithinAt w k f A B T M xs ys w4) := ⟨T3.out.below hb, Y3.out.below hb, hy, V3.out.trans (hb.mono V3.out.size)⟩; clear hb hy h))
  clear T3 V3 Y3 C3 C4
  go_wp2_with fail
  go_loopw [11, 34] (fun _ y w' => ∃ i : Nat, y = .int .i64 (i : Nat) ∧ i ≤ T ∧ WithinAt w k f A B T M xs ys w') (fun _ y _ => T - (intOf y).toNat)
  case atStart => exact ⟨0, rfl, by omega, W4.out⟩
  case round =>
    obtain ⟨i, rfl, hi, hr⟩ := hrel
    have HR := Lib.hid hr
    clear hr W4
    by_cases hlt : i < T
    · have hd : decide ((i : Int) < (T : Int)) = true := by simp; omega
      have hd2 : decide (i < T) = true := by simpa using hlt
      obtain ⟨ad, rfl, c1⟩ := HR.out.all.at_ (ints_at (zs := xs) (k := i) (by rw [LX.out]; exact hlt))
      have xb := XB.out i hlt
      have dx0 : decide (xs.getD i 0 < 0) = false := by simp only [decide_eq_false_iff_not]; omega
      have dx1 : decide ((n : Int) ≤ xs.getD i 0) = false := by simp only [decide_eq_false_iff_not]; omega
      have xy := XY.out i hlt
      by_cases hM : i < M
      · have hd3 : decide ((i : Int) < (M : Int)) = true := by simp; omega
        have hd4 : decide (i < M) = true := by simpa using hM
        obtain ⟨bd, rfl, c2⟩ := HR.out.some_.at_ (ints_at (zs := ys) (k := i) (by rw [LY.out]; exact hM))
        rw [xy hM] at c2
        generalize xs.getD i 0 = x at *
        clear xb xy
        go_upto_region 8 with (fail)
        have k1 : ∀ N, (wr.drewN N).cell? (ad.add i) = some (.int .i64 x) := fun N => c1
        have k2 : ∀ N, (wr.drewN N).cell? (bd.add i) = some (.int .i64 x) := fun N => c2
        go_quiet (fail)
        have HR2 := Lib.hid (HR.out.drewN nq)
        generalize wr.drewN nq = wq at *
        go_wp2_with fail
        go_roundw
        case rel => exact ⟨i + 1, by go_num, by omega, HR2.out⟩
        case measure => simp [intOf]; omega
      · have hd3 : decide ((i : Int) < (M : Int)) = false := by simp; omega
        have hd4 : decide (i < M) = false := by simpa using hM
        generalize xs.getD i 0 = x at *
        clear xb xy
        go_upto_region 8 with (fail)
        have k1 : ∀ N, (wr.drewN N).cell? (ad.add i) = some (.int .i64 x) := fun N => c1
        go_quiet (fail)
        have HR2 := Lib.hid (HR.out.drewN nq)
        generalize wr.drewN nq = wq at *
        go_wp2_with fail
        go_roundw
        case rel => exact ⟨i + 1, by go_num, by omega, HR2.out⟩
        case measure => simp [intOf]; omega
    · have hd : decide ((i : Int) < (T : Int)) = false := by simp; omega
      have hd2 : decide (i < T) = false := by simpa using hlt
      go_wp2_with (first | (refine wpList_key rfl (.tmp 4) rfl w.heap.size rfl k HR.out.two.1 H16.out ?_) | (refine wpList_flo rfl (.tmp 5) rfl (w.heap.size + 1) rfl f HR.out.two.2 LF.out ?_) | (go_at_call 8; (with_reducible refine (C1.out _).mono ?_); rintro e w5 ⟨rfl, hb⟩; have V5 : Hid (Below w.heap.size w w5) := HR.out.be.trans (hb.mono HR.out.be.size); clear hb))
      go_ret
      exact ⟨rfl, V5.out⟩

theorem within_any (k : List Nat) (f : Flo) (l n : Nat) (w : World) (hk : summ.Octs k) (h16 : k.length = 16) (hf : f.Ok) (hl : l ≤ 255) (hn : n ≤ 255) :
    Calls Try.prog 4 #[.agg (summ.cel k).toArray, .agg f.cells.toArray, .int .u8 ((l : Nat) : Int), .int .u8 ((n : Nat) : Int)] w fun e w' => e = .returned (.bool true) ∧ Below w.heap.size w w' := by
  rcases Nat.eq_zero_or_pos n with rfl | h0
  · exact within_none k f l w
  · exact within_some k f l n w hk h16 hf hl hn h0
end Go.Proofs.Ytjenfhkgceneaaa
