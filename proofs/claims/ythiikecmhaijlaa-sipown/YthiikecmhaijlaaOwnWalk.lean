/- The walk of the law SipOwn: for any key, any bytes and any room it returns true and turns nothing that was there. -/
import Derived.Test.YthiikecmhaijlaaSumsWalk
namespace Go.Proofs.Ythiikecmhaijlaa
open Go.RowKit

theorem below_drewN {B : Nat} {w w' : World} (h : Below B w w') (k : Nat) : Below B w (w'.drewN k) := ⟨h.os, h.tape, h.output, h.size, h.block⟩
theorem size5 : (Try.prog.info? 5).map (·.size) = some 1 := by kernel_rfl
/-- make with spare room. -/
theorem make_room (n r N : Nat) (hN : n + r = N) (hm : N ≤ 1000) (W : World) : (Instr.makeSlice 23 (.int .i64 (n : Nat)) (.int .i64 ((n : Int) + (r : Int)))).run Try.prog W = .ok (.slice (some ⟨W.heap.size, 0, none⟩) n N) (W.alloc (.cells (madeCells #[.int .u8 0] N) 5)) := by
  obtain ⟨i, hi, hzz⟩ := Option.map_eq_some_iff.1 info5
  simp only [Prod.mk.injEq] at hzz
  obtain ⟨hz, hs, hb⟩ := hzz
  have h := run_make (P := Try.prog) W 23 5 i (.int .u8 0) Try.underlying23 hi hz .i64 .i64 (n : Int) ((n : Int) + (r : Int)) (by omega) (by omega) (by rw [hb]; omega) (by omega)
  rw [h, hs, Nat.mul_one, Int.toNat_natCast, show ((n : Int) + (r : Int)).toNat = N by omega]
  rfl
theorem made_list (n : Nat) : (madeCells #[Value.int .u8 0] n).toList = cel (List.replicate n 0) := by
  apply List.ext_getElem?
  intro i
  by_cases hi : i < n
  · simp [madeCells, cel, hi, Nat.mod_one]
  · rw [List.getElem?_eq_none (by simp [madeCells]; omega), List.getElem?_eq_none (by simp [cel]; omega)]
/-- copy into a new row with spare room. -/
theorem run_copied {w : World} {A : Option Addr} {n c N : Nat} {l : List Nat} (h : Vals w A n (cel l)) (hN : n ≤ N) (ty : TypeId) :
    (Builtin.copy_ #[23, 23] ty #[.slice (some ⟨w.heap.size, 0, none⟩) n N, .slice A n c]).run Try.prog (w.alloc (.cells (madeCells #[.int .u8 0] N) 5)) = .ok (goInt n) (w.alloc (.cells (cel (l ++ List.replicate (N - n) 0)).toArray 5)) := by
  have hl : l.length = n := by have := h.1; rw [cel_length] at this; exact this
  have hsz := size_madeCells #[Value.int .u8 0] N
  have hm : madeCells #[Value.int .u8 0] N = (cel (List.replicate N 0)).toArray := by rw [← made_list]
  by_cases h0 : n = 0
  · subst h0
    obtain rfl : l = [] := List.length_eq_zero_iff.1 hl
    have := run_copy_none (P := Try.prog) (w.alloc (.cells (madeCells #[.int .u8 0] N) 5)) 23 23 ty 5 (some ⟨w.heap.size, 0, none⟩) A 0 N 0 c Try.underlying23 size5 rfl
    rw [this, hm]
    rfl
  · obtain ⟨ad, rfl, hc⟩ := h.2 (by omega)
    have hr := run_copy_row (P := Try.prog) (w.alloc (.cells (madeCells #[.int .u8 0] N) 5)) 23 23 ty 5 w.heap.size 0 n N ad n c (madeCells #[.int .u8 0] N) 5 (cel l) Try.underlying23 size5 (heap_alloc_new w _)
      (by rw [cel_length, hl]; simp) (fun j v hv => by
        have := hc j v hv
        rw [World.cell?_alloc_lt _ _ _ (World.block_lt_of_cell? w _ this)]
        exact this) (by rw [cel_length, hl, hsz]; omega) (cel_one l)
    rw [hr, setRow_new, cel_length, hl]
    congr 4
    simp only [List.take_zero, List.nil_append, Nat.zero_add]
    rw [made_list, cel_drop, cel_app, List.drop_replicate]
/-- Two parts, in a new list. -/
theorem PartsAt.two {w : World} {A B : Option Addr} {q c m d : Nat} {l l' : List Nat} (h : Vals w A q (cel l)) (h' : Vals w B m (cel l')) :
    PartsAt (w.alloc (.cells #[.slice A q c, .slice B m d] 23)) (some ⟨w.heap.size, 0, none⟩) 2 [l, l'] := by
  have hn : l.length = q := by have := h.1; rw [cel_length] at this; exact this
  have hn' : l'.length = m := by have := h'.1; rw [cel_length] at this; exact this
  subst hn hn'
  have hb := Blk.new w 23 [.slice A l.length c, .slice B l'.length d]
  have hbel : Below w.heap.size w (w.alloc (.cells #[.slice A l.length c, .slice B l'.length d] 23)) := (Below.refl _ _).alloc (Nat.le_refl _) _
  refine ⟨rfl, fun i hi => ?_⟩
  rcases (by omega : i = 0 ∨ i = 1) with rfl | rfl
  · exact ⟨_, A, c, rfl, by rw [Addr.add_at]; exact hb.cell 0, h.below hbel⟩
  · exact ⟨_, B, d, rfl, by rw [Addr.add_at]; exact hb.cell 1, h'.below hbel⟩
theorem Small.two {l : List Nat} (h : Octs l) (hn : l.length ≤ 1000) : Small [l, l] := fun p hp => by
  simp at hp
  subst hp
  exact ⟨h, hn⟩
/-- What the law's own row holds. -/
theorem row_low {l : List Nat} {m k : Nat} (h : k < l.length) : (cel (l ++ List.replicate m 0))[k]? = some (.int .u8 ((l.getD k 0 : Nat) : Int)) := by
  rw [cel_app, List.getElem?_append_left (by rw [cel_length]; exact h), cel_at h]
theorem row_high {l : List Nat} {m k : Nat} (h : l.length ≤ k) (hk : k < l.length + m) : (cel (l ++ List.replicate m 0))[k]? = some (.int .u8 0) := by
  rw [cel_app, List.getElem?_append_right (by rw [cel_length]; exact h), cel_length]
  unfold cel
  rw [List.map_replicate, List.getElem?_replicate, if_pos (by omega)]
  rfl

set_option maxRecDepth 100000 in
set_option maxHeartbeats 4000000 in
theorem own_long (k : List Nat) (A : Option Addr) (n c a : Nat) (w : World) (hn : 100 < n) : Calls Try.prog 4 #[.agg (cel k).toArray, .slice A n c, .int .u8 (a : Nat)] w fun e w' => e = .returned (.bool true) ∧ Below w.heap.size w w' := by
  have hd : decide ((100 : Int) < (n : Int)) = true := by simp; omega
  have hd2 : decide (100 < n) = true := by simpa using hn
  have W0 : Hid (Below w.heap.size w (w.alloc (.cells (cel k).toArray 22))) := (Below.refl _ w).alloc (Nat.le_refl _) _
  go_enter Try.func4, Try.ntmps4
  go_wp2_with fail
  refine (awake_any _).mono ?_
  rintro e w1 ⟨rfl, hb1⟩
  have W1 : Hid (Below w.heap.size w w1) := W0.out.trans (hb1.mono W0.out.size)
  clear hb1
  go_wp2_with fail
  refine (awake_any _).mono ?_
  rintro e w2 ⟨rfl, hb2⟩
  have W2 : Hid (Below w.heap.size w w2) := W1.out.trans (hb2.mono W1.out.size)
  clear hb2
  go_wp2_with fail
  go_ret
  exact ⟨rfl, W2.out⟩

set_option maxRecDepth 100000 in
set_option maxHeartbeats 4000000 in
theorem own_near (k : List Nat) (A : Option Addr) (n c r : Nat) (l : List Nat) (w : World) (hk : Octs k) (h16 : k.length = 16) (h : Vals w A n (cel l)) (hl : Octs l) (hn : n ≤ 100) (hr : r < 256) :
    Calls Try.prog 4 #[.agg (cel k).toArray, .slice A n c, .int .u8 (r : Nat)] w fun e w' => e = .returned (.bool true) ∧ Below w.heap.size w w' := by
  have hd : decide ((100 : Int) < (n : Int)) = false := by simp; omega
  have hd2 : decide (100 < n) = false := by simp; omega
  have hln : l.length = n := by have := h.1; rw [cel_length] at this; exact this
  have W0 : Hid (Below w.heap.size w (w.alloc (.cells (cel k).toArray 22))) := (Below.refl _ w).alloc (Nat.le_refl _) _
  have B0 : Hid (Blk (w.alloc (.cells (cel k).toArray 22)) w.heap.size 22 (cel k)) := Blk.new w 22 (cel k)
  obtain ⟨N, hN⟩ : ∃ N, n + r = N := ⟨_, rfl⟩
  have hmk := make_room n r N hN (by omega)
  have hN1 : N ≤ 355 := by omega
  have hN2 : n ≤ N := by omega
  have HV := Lib.hid h
  have HL := Lib.hid hln
  have HK := Lib.hid hk
  have H16 := Lib.hid h16
  have HO := Lib.hid hl
  clear hN h hln hk h16 hl
  go_enter Try.func4, Try.ntmps4
  go_wp2_with fail
  refine (awake_any _).mono ?_
  rintro e w1 ⟨rfl, hb1⟩
  have W1 : Hid (Below w.heap.size w w1) := W0.out.trans (hb1.mono W0.out.size)
  have B1 : Hid (Blk w1 w.heap.size 22 (cel k)) := B0.out.far (S := fun _ => False) (Far.of_below hb1 _) (fun e => e)
  clear hb1 W0 B0
  have hcp := run_copied (c := c) (N := N) (HV.out.below W1.out) hN2
  have hup := run_upto (some ⟨w1.heap.size, 0, none⟩) n N N (Nat.le_refl _)
  go_upto_region 6 with (fail)
  have R2 : Hid (Blk (w1.alloc (.cells (cel (l ++ List.replicate (N - n) 0)).toArray 5)) w1.heap.size 5 (cel (l ++ List.replicate (N - n) 0))) := Blk.new w1 5 _
  have W2 : Hid (Below w.heap.size w (w1.alloc (.cells (cel (l ++ List.replicate (N - n) 0)).toArray 5))) := W1.out.alloc W1.out.size _
  have B2 : Hid (Blk (w1.alloc (.cells (cel (l ++ List.replicate (N - n) 0)).toArray 5)) w.heap.size 22 (cel k)) := B1.out.alloc _
  have HLO : Hid (∀ j, j < n → (cel (l ++ List.replicate (N - n) 0))[j]? = some (.int .u8 ((l.getD j 0 : Nat) : Int))) := fun j hj => row_low (by rw [HL.out]; exact hj)
  have HHI : Hid (∀ j, n ≤ j → j < N → (cel (l ++ List.replicate (N - n) 0))[j]? = some (.int .u8 0)) := fun j hj hj' => row_high (by rw [HL.out]; exact hj) (by rw [HL.out]; omega)
  have HVO : Hid (Vals (w1.alloc (.cells (cel (l ++ List.replicate (N - n) 0)).toArray 5)) (some ⟨w1.heap.size, 0, none⟩) n (cel l)) := by
    have := (Vals.of_blk R2.out rfl).upto (k := n) (by rw [cel_length]; simp; rw [HL.out]; omega)
    rw [cel_take, List.take_append_of_le_length (by rw [HL.out]; omega), List.take_of_length_le (by rw [HL.out]; omega)] at this
    exact this
  clear hcp hup hmk W1 B1
  generalize cel (l ++ List.replicate (N - n) 0) = X at *
  generalize w1.alloc (.cells X.toArray 5) = w2 at *
  generalize w1.heap.size = g at *
  have hsm := Lib.hid (Small.two HO.out (by rw [HL.out]; omega))
  have HC := Lib.hid (sum_is k (some ⟨w2.heap.size, 0, none⟩) 2 2 [l, l] (w2.alloc (.cells #[.slice (some ⟨g, 0, none⟩) n N, .slice (some ⟨g, 0, none⟩) n N] 23)) HK.out H16.out (PartsAt.two HVO.out HVO.out) (by omega) hsm.out)
  have W3 : Hid (Below w2.heap.size w2 (w2.alloc (.cells #[.slice (some ⟨g, 0, none⟩) n N, .slice (some ⟨g, 0, none⟩) n N] 23))) := (Below.refl _ _).alloc (Nat.le_refl _) _
  go_upto_region 7 with (first | (refine wpList_key rfl (.tmp 3) rfl w.heap.size rfl k B2.out H16.out ?_) | (go_at_call 8; (with_reducible refine HC.out.mono ?_); rintro e w4 ⟨rfl, hb4⟩; have W4 : Hid (Below w2.heap.size w2 w4) := W3.out.trans (hb4.mono W3.out.size); clear hb4))
  have R4 : Hid (Blk w4 g 5 X) := R2.out.far (S := fun _ => False) (Far.of_below W4.out _) (fun e => e)
  have W5 : Hid (Below w.heap.size w w4) := W2.out.trans (W4.out.mono W2.out.size)
  clear HC W3 W4 R2 B2 W2 HVO hsm
  go_wp2_with fail
  go_loopw [9, 40] (fun _ y w' => ∃ i : Nat, y = .int .i64 i ∧ i ≤ N ∧ Below w4.heap.size w4 w') (fun _ y _ => N - (intOf y).toNat)
  case atStart => exact ⟨0, rfl, by omega, Below.refl _ _⟩
  case round =>
    obtain ⟨i, rfl, hi, hbw⟩ := hrel
    have WX := Lib.hid hbw
    by_cases hlt : i < N
    · have hd3 : decide ((i : Int) < (N : Int)) = true := by simp; omega
      have hd4 : decide (i < N) = true := by simpa using hlt
      by_cases hin : i < n
      · have hd5 : decide ((i : Int) < (n : Int)) = true := by simp; omega
        have hd6 : decide (i < n) = true := by simpa using hin
        have hd7 : decide ((n : Int) ≤ (i : Int)) = false := by simp; omega
        have hd8 : decide (n ≤ i) = false := by simp; omega
        have hc1 : wr.cell? ⟨g, i, none⟩ = some (.int .u8 ((l.getD i 0 : Nat) : Int)) := (hbw.cell (p := ⟨g, i, none⟩) R4.out.lt).trans ((R4.out.cell i).trans (HLO.out i hin))
        obtain ⟨ad, rfl, hc2⟩ := HV.out.at_ (cel_at (bs := l) (k := i) (by rw [HL.out]; exact hin))
        have hc3 := (W5.out.cell (World.block_lt_of_cell? w _ hc2)).trans hc2
        have hc4 := (hbw.cell (World.block_lt_of_cell? _ _ hc3)).trans hc3
        generalize l.getD i 0 = b at *
        clear hc2 hc3 hbw
        go_wp2_with fail
        go_quiet (fail)
        go_wp2
        go_roundw
        case rel => exact ⟨i + 1, by go_num, by omega, below_drewN WX.out _⟩
        case measure => simp [intOf]; omega
      · have hd5 : decide ((i : Int) < (n : Int)) = false := by simp; omega
        have hd6 : decide (i < n) = false := by simpa using hin
        have hd7 : decide ((n : Int) ≤ (i : Int)) = true := by simp; omega
        have hd8 : decide (n ≤ i) = true := by simp; omega
        have hc1 : wr.cell? ⟨g, i, none⟩ = some (.int .u8 0) := (hbw.cell (p := ⟨g, i, none⟩) R4.out.lt).trans ((R4.out.cell i).trans (HHI.out i (by omega) hlt))
        clear hbw
        go_wp2_with fail
        go_quiet (fail)
        go_wp2
        go_roundw
        case rel => exact ⟨i + 1, by go_num, by omega, below_drewN WX.out _⟩
        case measure => simp [intOf]; omega
    · have hd3 : decide ((i : Int) < (N : Int)) = false := by simp; omega
      have hd4 : decide (i < N) = false := by simpa using hlt
      clear hbw
      go_wp2
      go_ret
      exact ⟨rfl, W5.out.trans (WX.out.mono W5.out.size)⟩
theorem own_any (k : List Nat) (A : Option Addr) (n c r : Nat) (l : List Nat) (w : World) (hk : Octs k) (h16 : k.length = 16) (h : Vals w A n (cel l)) (hl : Octs l) (_hc : n ≤ c) (hr : r < 256) :
    Calls Try.prog 4 #[.agg (cel k).toArray, .slice A n c, .int .u8 (r : Nat)] w fun e w' => e = .returned (.bool true) ∧ Below w.heap.size w w' := by
  by_cases hn : n ≤ 100
  · exact own_near k A n c r l w hk h16 h hl hn hr
  · exact own_long k A n c r w (by omega)
end Go.Proofs.Ythiikecmhaijlaa
