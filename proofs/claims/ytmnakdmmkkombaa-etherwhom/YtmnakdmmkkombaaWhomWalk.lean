/- The walk of the law EtherWhom: for any bytes and any addresses it returns true and turns nothing that was there. -/
import Derived.Test.YtmnakdmmkkombaaWhom1
import Derived.Deep.RegionHeld3
namespace Go.Proofs.Ytmnakdmmkkombaa
open Go.RowKit

set_option maxHeartbeats 1000000 in
theorem whom_far (A : Option Addr) (n c : Nat) (wh : List Int) (w : World) (hn : n < 12 ∨ 2000 < n) : Calls Try.prog 6 #[.slice A n c, .agg (cel wh).toArray] w fun e w' => e = .returned (.bool true) ∧ Below w.heap.size w w' := by
  have W0 : Hid (Below w.heap.size w (w.alloc (.cells (cel wh).toArray 38))) := (Below.refl _ w).alloc (Nat.le_refl _) _
  by_cases h : n < 12
  · have hd : decide ((n : Int) < 12) = true := by simp; omega
    have hd2 : decide (n < 12) = true := by simpa using h
    go_enter Try.func6, Try.ntmps6
    go_wp2_with fail
    refine (awake_any _).mono ?_
    rintro e w1 ⟨rfl, hb⟩
    have W1 : Hid (Below w.heap.size w w1) := W0.out.trans (hb.mono W0.out.size)
    clear hb
    go_wp2_with fail
    refine (awake_any _).mono ?_
    rintro e w2 ⟨rfl, hb⟩
    have W2 : Hid (Below w.heap.size w w2) := W1.out.trans (hb.mono W1.out.size)
    clear hb
    go_wp2
    go_ret
    exact ⟨rfl, W2.out⟩
  · have hd : decide ((n : Int) < 12) = false := by simp; omega
    have hd2 : decide (n < 12) = false := by simpa using h
    have hd3 : decide ((2000 : Int) < (n : Int)) = true := by simp; omega
    have hd4 : decide (2000 < n) = true := by simp; omega
    go_enter Try.func6, Try.ntmps6
    go_wp2_with fail
    refine (awake_any _).mono ?_
    rintro e w1 ⟨rfl, hb⟩
    have W1 : Hid (Below w.heap.size w w1) := W0.out.trans (hb.mono W0.out.size)
    clear hb
    go_wp2_with fail
    refine (awake_any _).mono ?_
    rintro e w2 ⟨rfl, hb⟩
    have W2 : Hid (Below w.heap.size w w2) := W1.out.trans (hb.mono W1.out.size)
    clear hb
    go_wp2
    go_ret
    exact ⟨rfl, W2.out⟩

set_option maxHeartbeats 2000000 in
theorem whom_near (A : Option Addr) (n c : Nat) (bs wh : List Int) (w : World) (h : Byts w A n bs) (ho : Octs bs) (hc : n ≤ c) (h12 : wh.length = 12) (hoh : Octs wh) (hn : 12 ≤ n) (hm : n ≤ 2000) :
    Calls Try.prog 6 #[.slice A n c, .agg (cel wh).toArray] w fun e w' => e = .returned (.bool true) ∧ Below w.heap.size w w' := by
  have hd : decide ((n : Int) < 12) = false := by simp; omega
  have hd2 : decide (n < 12) = false := by simp; omega
  have hd3 : decide ((2000 : Int) < (n : Int)) = false := by simp; omega
  have hd4 : decide (2000 < n) = false := by simp; omega
  have W0 : Hid (Below w.heap.size w (w.alloc (.cells (cel wh).toArray 38))) := (Below.refl _ w).alloc (Nat.le_refl _) _
  have K0 : Hid (Blk (w.alloc (.cells (cel wh).toArray 38)) w.heap.size 38 (cel wh)) := Blk.new w 38 _
  obtain ⟨b, a, r, hl⟩ : ∃ b a r, look bs 3 12 = (b, a, r) := ⟨_, _, _, rfl⟩
  have hbn := h.1
  have HL2 : Hid (look (wh ++ bs.drop 12) 3 12 = (b, a, r)) := (look_whom h12 (by omega)).trans hl
  have HOC : Hid (Octs (wh ++ bs.drop 12)) := hoh.app (ho.drop 12)
  have H := Lib.hid h
  have HO := Lib.hid ho
  have HL := Lib.hid hl
  clear h ho hl hoh
  go_enter Try.func6, Try.ntmps6
  go_wp2_with fail
  refine (awake_any _).mono ?_
  rintro e w1 ⟨rfl, hb⟩
  have W1 : Hid (Below w.heap.size w w1) := W0.out.trans (hb.mono W0.out.size)
  have K1 := Lib.hid (K0.out.far (Far.of_below hb nobody) (fun e => e))
  clear hb
  go_wp2_with fail
  refine (parse_any A n c bs b a r _ (H.out.below W1.out) HO.out hc HL.out).mono ?_
  rintro e w2 ⟨rfl, hb⟩
  have W2 : Hid (Below w.heap.size w w2) := W1.out.trans (hb.mono W1.out.size)
  have K2 := Lib.hid (K1.out.far (Far.of_below hb nobody) (fun e => e))
  clear hb
  have W3 : Hid (Below w.heap.size w (w2.alloc (.cells #[.bool b, .int .i64 (a : Nat)] 25))) := W2.out.alloc W2.out.size _
  have L3 : Hid (Blk (w2.alloc (.cells #[.bool b, .int .i64 (a : Nat)] 25)) w2.heap.size 25 [.bool b, .int .i64 (a : Nat)]) := Blk.new w2 25 _
  have KB := Lib.hid (K2.out.alloc (.cells #[.bool b, .int .i64 (a : Nat)] 25))
  have hcut : ∀ W, (Instr.slice 22 (.slice A n c) (some (.int .i64 12)) none none).run Try.prog W = .ok (.slice (if c = 12 then A else A.map (·.add 12)) (n - 12) (c - 12)) W := fun W => run_from (A := A) (n := n) (c := c) (k := 12) W hn
  have HZ0 : Hid (Byts (w2.alloc (.cells #[.bool b, .int .i64 (a : Nat)] 25)) (if c = 12 then A else A.map (·.add 12)) (n - 12) (bs.drop 12)) := (H.out.below W3.out).from_ hn hc
  go_upto_region 4 with (fail)
  generalize w2.alloc (.cells #[.bool b, .int .i64 (a : Nat)] 25) = wr at *
  generalize (if c = 12 then A else A.map (·.add 12)) = Z at *
  have HZ := HZ0
  have D0 : Hid (Below wr.heap.size wr wr.drew) := (Below.refl _ _).drew
  refine wp_region_noPanic ?_
  refine wp_region_held_drew (S := fun W => Below wr.heap.size wr W) (by kernel_rfl) ?_ (fun hHeld => ?_)
  · exact D0.out
  refine wpAnyH_take (i := 0) (oi := ⟨some 28, _, _, _, _, _⟩) (v := .slice (some ⟨w.heap.size, 0, none⟩) 12 12) rfl (by kernel_rfl) (by kernel_rfl) (by kernel_rfl) (fun _ _ _ h => h) (Or.inl ⟨by rfl, ?_⟩) (by assumption) ?_
  · (intro w hSw; (try dsimp only at hSw); go_simp)
  try simp only [Act.put, List.setIfInBounds_toArray, List.set_cons_zero, List.set_cons_succ]
  refine wpAnyH_take (i := 1) (oi := ⟨some 29, _, _, _, _, _⟩) (v := ?_) rfl (by kernel_rfl) (by kernel_rfl) (by kernel_rfl) (fun _ _ _ h => h) (Or.inl ⟨by rfl, ?_⟩) (by assumption) ?_
  rotate_left
  · (intro w hSw; (try dsimp only at hSw); go_simp)
    first | done | (with_reducible rfl)
  try simp only [Act.put, List.setIfInBounds_toArray, List.set_cons_zero, List.set_cons_succ]
  refine wpAnyH_take (i := 2) (oi := ⟨some 30, _, _, _, _, _⟩) (v := .slice Z (n - 12) (c - 12)) rfl (by kernel_rfl) (by kernel_rfl) (by kernel_rfl) (fun _ _ _ h => h) (Or.inl ⟨by rfl, ?_⟩) (by assumption) ?_
  · (intro w hSw; (try dsimp only at hSw); go_simp)
  try simp only [Act.put, List.setIfInBounds_toArray, List.set_cons_zero, List.set_cons_succ]
  refine wpAnyH_ready (rs := [3, 8]) (by kernel_rfl) (by simp) ?_
  refine AllReadyH.cons (o := ⟨some 31, _, _, _, _, _⟩) rfl (fun K hK => ?_) (AllReadyH.cons (o := ⟨some 7, _, _, _, _, _⟩) rfl (fun K hK => ?_) (AllReadyH.nil))
  · refine step_whom (by rfl) (.tmp 28) (.tmp 30) (by rfl) w.heap.size wh (by rfl) (KB.out.far (Far.of_below D0.out nobody) (fun e => e)) h12 Z (n - 12) (c - 12) (bs.drop 12) (by rfl) (HZ.out.below D0.out) (by omega) n (by omega) ?_
    intro A1 c1 y1 hc1 HB1 hy1
    have D1 : Hid (Below wr.heap.size wr y1) := D0.out.trans (hy1.out.mono D0.out.size)
    refine hK.out _ _ ?_ (fun hHeld => ?_)
    · exact D1.out
    clear hK K
    try simp only [Act.put, List.setIfInBounds_toArray, List.set_cons_zero, List.set_cons_succ]
    refine wpAnyH_ready (rs := [4, 8]) (by kernel_rfl) (by simp) ?_
    refine AllReadyH.cons (o := ⟨some 32, _, _, _, _, _⟩) rfl (fun K hK => ?_) (AllReadyH.cons (o := ⟨some 7, _, _, _, _, _⟩) rfl (fun K hK => ?_) (AllReadyH.nil))
    · go_simp
      refine (parse_any A1 n c1 (wh ++ bs.drop 12) b a r _ HB1.out HOC.out hc1 HL2.out).mono ?_
      rintro e z1 ⟨rfl, hz1⟩
      have E1 : Hid (Below wr.heap.size wr z1) := D1.out.trans (hz1.mono D1.out.size)
      refine hK.out _ _ ?_ (fun hHeld => ?_)
      · exact E1.out
      clear hK K
      try simp only [Act.put, List.setIfInBounds_toArray, List.set_cons_zero, List.set_cons_succ]
      refine wpAnyH_take (i := 5) (oi := ⟨some 27, _, _, _, _, _⟩) (v := ?_) rfl (by kernel_rfl) (by kernel_rfl) (by kernel_rfl) (fun _ _ _ h => h) (Or.inl ⟨by rfl, ?_⟩) (by assumption) ?_
      rotate_left
      · (intro w hSw; (try dsimp only at hSw); go_simp)
        first | done | (with_reducible rfl)
      try simp only [Act.put, List.setIfInBounds_toArray, List.set_cons_zero, List.set_cons_succ]
      refine wpAnyH_take (i := 6) (oi := ⟨some 33, _, _, _, _, _⟩) (v := ?_) rfl (by kernel_rfl) (by kernel_rfl) (by kernel_rfl) (fun _ _ _ h => h) (Or.inl ⟨by rfl, ?_⟩) (by assumption) ?_
      rotate_left
      · (intro w hSw; (try dsimp only at hSw); go_simp)
        first | done | (with_reducible rfl)
      try simp only [Act.put, List.setIfInBounds_toArray, List.set_cons_zero, List.set_cons_succ]
      refine wpAnyH_take (i := 7) (oi := ⟨some 34, _, _, _, _, _⟩) (v := ?_) rfl (by kernel_rfl) (by kernel_rfl) (by kernel_rfl) (fun _ _ _ h => h) (Or.inl ⟨by rfl, ?_⟩) (by assumption) ?_
      rotate_left
      · (intro w hSw; (try dsimp only at hSw); go_simp)
        first | done | (with_reducible rfl)
      try simp only [Act.put, List.setIfInBounds_toArray, List.set_cons_zero, List.set_cons_succ]
      refine wpAnyH_ready (rs := [8]) (by kernel_rfl) (by simp) ?_
      refine AllReadyH.cons (o := ⟨some 7, _, _, _, _, _⟩) rfl (fun K hK => ?_) (AllReadyH.nil)
      go_simp
      have EV1 : Hid (Below wr.heap.size wr (z1.alloc (.cells #[.bool false, .int .i64 0] 25))) := E1.out.alloc E1.out.size _
      have BV1 : Hid (Blk (z1.alloc (.cells #[.bool false, .int .i64 0] 25)) z1.heap.size 25 [.bool false, .int .i64 0]) := Blk.new z1 25 _
      have hG1 : wr.heap.size ≤ z1.heap.size := E1.out.size
      refine hK.out _ _ ?_ (fun hHeld => ?_)
      · exact EV1.out
      clear hK K
      try simp only [Act.put, List.setIfInBounds_toArray, List.set_cons_zero, List.set_cons_succ]
      generalize z1.alloc (.cells #[.bool false, .int .i64 0] 25) = V1 at *
      have v0 : V1.cell? ⟨z1.heap.size, 0, none⟩ = some (.bool false) := BV1.out.cell 0
      have v1 : V1.cell? ⟨z1.heap.size, 1, none⟩ = some (.int .i64 0) := BV1.out.cell 1
      have g0 := BV1.out.frozen 0
      have g1 := BV1.out.frozen 1
      refine wpAnyH_ready (rs := [9]) (by kernel_rfl) (by simp) ?_
      refine AllReadyH.cons (o := ⟨none, _, _, _, _, _⟩) rfl (fun K hK => ?_) (AllReadyH.nil)
      go_simp
      have X1 : Hid (Below wr.heap.size wr ((V1.setCell ⟨z1.heap.size, 0, none⟩ (.bool b)).setCell ⟨z1.heap.size, 1, none⟩ (.int .i64 (a : Nat)))) := (EV1.out.setCell hG1 _).setCell hG1 _
      have Y1 := (BV1.out.set_ 0 (.bool b)).set_ 1 (.int .i64 (a : Nat))
      have P1 := L3.out.far (Far.of_below X1.out nobody) (fun e => e)
      refine hK.out _ _ ?_ (fun hHeld => ?_)
      · exact X1.out
      clear hK K
      try simp only [Act.put, List.setIfInBounds_toArray, List.set_cons_zero, List.set_cons_succ]
      refine wpAnyH_take (i := 10) (oi := ⟨some 8, _, _, _, _, _⟩) (v := ?_) rfl (by kernel_rfl) (by kernel_rfl) (by kernel_rfl) (fun _ _ _ h => h) (Or.inl ⟨by rfl, ?_⟩) (by assumption) ?_
      rotate_left
      · (intro w hSw; (try dsimp only at hSw); go_simp)
        first | done | (with_reducible rfl)
      try simp only [Act.put, List.setIfInBounds_toArray, List.set_cons_zero, List.set_cons_succ]
      have y0 := Y1.cell 0
      have y1_ := Y1.cell 1
      have p0 := P1.cell 0
      have p1 := P1.cell 1
      simp only [List.set_cons_zero, List.set_cons_succ, List.getElem?_cons_zero, List.getElem?_cons_succ] at y0 y1_ p0 p1
      have FW1 : Hid (Below w.heap.size w ((V1.setCell ⟨z1.heap.size, 0, none⟩ (.bool b)).setCell ⟨z1.heap.size, 1, none⟩ (.int .i64 (a : Nat)))) := W3.out.trans (X1.out.mono W3.out.size)
      clear Y1 P1
      refine wpAnyH_done (by kernel_rfl) ?_ _
      refine NoPanic.normal ?_
      generalize ((V1.setCell ⟨z1.heap.size, 0, none⟩ (.bool b)).setCell ⟨z1.heap.size, 1, none⟩ (.int .i64 (a : Nat))) = wf at *
      go_wp2
      go_ret
      exact ⟨rfl, FW1.out⟩
    · go_simp
      have F2 : Hid (Below wr.heap.size wr (y1.alloc (.cells #[.bool false, .int .i64 0] 25))) := D1.out.alloc D1.out.size _
      have B2 : Hid (Blk (y1.alloc (.cells #[.bool false, .int .i64 0] 25)) y1.heap.size 25 [.bool false, .int .i64 0]) := Blk.new y1 25 _
      have hG2 : wr.heap.size ≤ y1.heap.size := D1.out.size
      have HB2 := Lib.hid (HB1.out.below ((Below.refl y1.heap.size y1).alloc (Nat.le_refl _) (.cells #[.bool false, .int .i64 0] 25)))
      refine hK.out _ _ ?_ (fun hHeld => ?_)
      · exact F2.out
      clear hK K
      try simp only [Act.put, List.setIfInBounds_toArray, List.set_cons_zero, List.set_cons_succ]
      generalize y1.alloc (.cells #[.bool false, .int .i64 0] 25) = x2 at *
      refine wpAnyH_ready (rs := [4]) (by kernel_rfl) (by simp) ?_
      refine AllReadyH.cons (o := ⟨some 32, _, _, _, _, _⟩) rfl (fun K hK => ?_) (AllReadyH.nil)
      go_simp
      refine (parse_any A1 n c1 (wh ++ bs.drop 12) b a r _ HB2.out HOC.out hc1 HL2.out).mono ?_
      rintro e z2 ⟨rfl, hz2⟩
      have E2 : Hid (Below wr.heap.size wr z2) := F2.out.trans (hz2.mono F2.out.size)
      have BV2 := Lib.hid (B2.out.far (Far.of_below hz2 nobody) (fun e => e))
      have EV2 : Hid (Below wr.heap.size wr z2) := F2.out.trans (hz2.mono F2.out.size)
      refine hK.out _ _ ?_ (fun hHeld => ?_)
      · exact E2.out
      clear hK K
      try simp only [Act.put, List.setIfInBounds_toArray, List.set_cons_zero, List.set_cons_succ]
      refine wpAnyH_take (i := 5) (oi := ⟨some 27, _, _, _, _, _⟩) (v := ?_) rfl (by kernel_rfl) (by kernel_rfl) (by kernel_rfl) (fun _ _ _ h => h) (Or.inl ⟨by rfl, ?_⟩) (by assumption) ?_
      rotate_left
      · (intro w hSw; (try dsimp only at hSw); go_simp)
        first | done | (with_reducible rfl)
      try simp only [Act.put, List.setIfInBounds_toArray, List.set_cons_zero, List.set_cons_succ]
      refine wpAnyH_take (i := 6) (oi := ⟨some 33, _, _, _, _, _⟩) (v := ?_) rfl (by kernel_rfl) (by kernel_rfl) (by kernel_rfl) (fun _ _ _ h => h) (Or.inl ⟨by rfl, ?_⟩) (by assumption) ?_
      rotate_left
      · (intro w hSw; (try dsimp only at hSw); go_simp)
        first | done | (with_reducible rfl)
      try simp only [Act.put, List.setIfInBounds_toArray, List.set_cons_zero, List.set_cons_succ]
      refine wpAnyH_take (i := 7) (oi := ⟨some 34, _, _, _, _, _⟩) (v := ?_) rfl (by kernel_rfl) (by kernel_rfl) (by kernel_rfl) (fun _ _ _ h => h) (Or.inl ⟨by rfl, ?_⟩) (by assumption) ?_
      rotate_left
      · (intro w hSw; (try dsimp only at hSw); go_simp)
        first | done | (with_reducible rfl)
      try simp only [Act.put, List.setIfInBounds_toArray, List.set_cons_zero, List.set_cons_succ]
      have v0 : z2.cell? ⟨y1.heap.size, 0, none⟩ = some (.bool false) := BV2.out.cell 0
      have v1 : z2.cell? ⟨y1.heap.size, 1, none⟩ = some (.int .i64 0) := BV2.out.cell 1
      have g0 := BV2.out.frozen 0
      have g1 := BV2.out.frozen 1
      refine wpAnyH_ready (rs := [9]) (by kernel_rfl) (by simp) ?_
      refine AllReadyH.cons (o := ⟨none, _, _, _, _, _⟩) rfl (fun K hK => ?_) (AllReadyH.nil)
      go_simp
      have X2 : Hid (Below wr.heap.size wr ((z2.setCell ⟨y1.heap.size, 0, none⟩ (.bool b)).setCell ⟨y1.heap.size, 1, none⟩ (.int .i64 (a : Nat)))) := (EV2.out.setCell hG2 _).setCell hG2 _
      have Y2 := (BV2.out.set_ 0 (.bool b)).set_ 1 (.int .i64 (a : Nat))
      have P2 := L3.out.far (Far.of_below X2.out nobody) (fun e => e)
      refine hK.out _ _ ?_ (fun hHeld => ?_)
      · exact X2.out
      clear hK K
      try simp only [Act.put, List.setIfInBounds_toArray, List.set_cons_zero, List.set_cons_succ]
      refine wpAnyH_take (i := 10) (oi := ⟨some 8, _, _, _, _, _⟩) (v := ?_) rfl (by kernel_rfl) (by kernel_rfl) (by kernel_rfl) (fun _ _ _ h => h) (Or.inl ⟨by rfl, ?_⟩) (by assumption) ?_
      rotate_left
      · (intro w hSw; (try dsimp only at hSw); go_simp)
        first | done | (with_reducible rfl)
      try simp only [Act.put, List.setIfInBounds_toArray, List.set_cons_zero, List.set_cons_succ]
      have y0 := Y2.cell 0
      have y1_ := Y2.cell 1
      have p0 := P2.cell 0
      have p1 := P2.cell 1
      simp only [List.set_cons_zero, List.set_cons_succ, List.getElem?_cons_zero, List.getElem?_cons_succ] at y0 y1_ p0 p1
      have FW2 : Hid (Below w.heap.size w ((z2.setCell ⟨y1.heap.size, 0, none⟩ (.bool b)).setCell ⟨y1.heap.size, 1, none⟩ (.int .i64 (a : Nat)))) := W3.out.trans (X2.out.mono W3.out.size)
      clear Y2 P2
      refine wpAnyH_done (by kernel_rfl) ?_ _
      refine NoPanic.normal ?_
      generalize ((z2.setCell ⟨y1.heap.size, 0, none⟩ (.bool b)).setCell ⟨y1.heap.size, 1, none⟩ (.int .i64 (a : Nat))) = wf at *
      go_wp2
      go_ret
      exact ⟨rfl, FW2.out⟩
  · go_simp
    have F3 : Hid (Below wr.heap.size wr ((wr.alloc (.cells #[.bool false, .int .i64 0] 25)).drew)) := D0.out.alloc D0.out.size _
    have B3 : Hid (Blk ((wr.alloc (.cells #[.bool false, .int .i64 0] 25)).drew) wr.heap.size 25 [.bool false, .int .i64 0]) := Blk.new wr.drew 25 _
    have hG3 : wr.heap.size ≤ wr.heap.size := Nat.le_refl _
    refine hK.out _ _ ?_ (fun hHeld => ?_)
    · exact F3.out
    clear hK K
    try simp only [Act.put, List.setIfInBounds_toArray, List.set_cons_zero, List.set_cons_succ]
    generalize (wr.alloc (.cells #[.bool false, .int .i64 0] 25)).drew = x3 at *
    refine wpAnyH_ready (rs := [3]) (by kernel_rfl) (by simp) ?_
    refine AllReadyH.cons (o := ⟨some 31, _, _, _, _, _⟩) rfl (fun K hK => ?_) (AllReadyH.nil)
    refine step_whom (by rfl) (.tmp 28) (.tmp 30) (by rfl) w.heap.size wh (by rfl) (KB.out.far (Far.of_below F3.out nobody) (fun e => e)) h12 Z (n - 12) (c - 12) (bs.drop 12) (by rfl) (HZ.out.below F3.out) (by omega) n (by omega) ?_
    intro A3 c3 y3 hc3 HB3 hy3
    have D3 : Hid (Below wr.heap.size wr y3) := F3.out.trans (hy3.out.mono F3.out.size)
    have B4 := Lib.hid (B3.out.far (Far.of_below hy3.out nobody) (fun e => e))
    refine hK.out _ _ ?_ (fun hHeld => ?_)
    · exact D3.out
    clear hK K
    try simp only [Act.put, List.setIfInBounds_toArray, List.set_cons_zero, List.set_cons_succ]
    refine wpAnyH_ready (rs := [4]) (by kernel_rfl) (by simp) ?_
    refine AllReadyH.cons (o := ⟨some 32, _, _, _, _, _⟩) rfl (fun K hK => ?_) (AllReadyH.nil)
    go_simp
    refine (parse_any A3 n c3 (wh ++ bs.drop 12) b a r _ HB3.out HOC.out hc3 HL2.out).mono ?_
    rintro e z3 ⟨rfl, hz3⟩
    have E3 : Hid (Below wr.heap.size wr z3) := D3.out.trans (hz3.mono D3.out.size)
    have BV3 := Lib.hid (B4.out.far (Far.of_below hz3 nobody) (fun e => e))
    have EV3 : Hid (Below wr.heap.size wr z3) := D3.out.trans (hz3.mono D3.out.size)
    refine hK.out _ _ ?_ (fun hHeld => ?_)
    · exact E3.out
    clear hK K
    try simp only [Act.put, List.setIfInBounds_toArray, List.set_cons_zero, List.set_cons_succ]
    refine wpAnyH_take (i := 5) (oi := ⟨some 27, _, _, _, _, _⟩) (v := ?_) rfl (by kernel_rfl) (by kernel_rfl) (by kernel_rfl) (fun _ _ _ h => h) (Or.inl ⟨by rfl, ?_⟩) (by assumption) ?_
    rotate_left
    · (intro w hSw; (try dsimp only at hSw); go_simp)
      first | done | (with_reducible rfl)
    try simp only [Act.put, List.setIfInBounds_toArray, List.set_cons_zero, List.set_cons_succ]
    refine wpAnyH_take (i := 6) (oi := ⟨some 33, _, _, _, _, _⟩) (v := ?_) rfl (by kernel_rfl) (by kernel_rfl) (by kernel_rfl) (fun _ _ _ h => h) (Or.inl ⟨by rfl, ?_⟩) (by assumption) ?_
    rotate_left
    · (intro w hSw; (try dsimp only at hSw); go_simp)
      first | done | (with_reducible rfl)
    try simp only [Act.put, List.setIfInBounds_toArray, List.set_cons_zero, List.set_cons_succ]
    refine wpAnyH_take (i := 7) (oi := ⟨some 34, _, _, _, _, _⟩) (v := ?_) rfl (by kernel_rfl) (by kernel_rfl) (by kernel_rfl) (fun _ _ _ h => h) (Or.inl ⟨by rfl, ?_⟩) (by assumption) ?_
    rotate_left
    · (intro w hSw; (try dsimp only at hSw); go_simp)
      first | done | (with_reducible rfl)
    try simp only [Act.put, List.setIfInBounds_toArray, List.set_cons_zero, List.set_cons_succ]
    have v0 : z3.cell? ⟨wr.heap.size, 0, none⟩ = some (.bool false) := BV3.out.cell 0
    have v1 : z3.cell? ⟨wr.heap.size, 1, none⟩ = some (.int .i64 0) := BV3.out.cell 1
    have g0 := BV3.out.frozen 0
    have g1 := BV3.out.frozen 1
    refine wpAnyH_ready (rs := [9]) (by kernel_rfl) (by simp) ?_
    refine AllReadyH.cons (o := ⟨none, _, _, _, _, _⟩) rfl (fun K hK => ?_) (AllReadyH.nil)
    go_simp
    have X3 : Hid (Below wr.heap.size wr ((z3.setCell ⟨wr.heap.size, 0, none⟩ (.bool b)).setCell ⟨wr.heap.size, 1, none⟩ (.int .i64 (a : Nat)))) := (EV3.out.setCell hG3 _).setCell hG3 _
    have Y3 := (BV3.out.set_ 0 (.bool b)).set_ 1 (.int .i64 (a : Nat))
    have P3 := L3.out.far (Far.of_below X3.out nobody) (fun e => e)
    refine hK.out _ _ ?_ (fun hHeld => ?_)
    · exact X3.out
    clear hK K
    try simp only [Act.put, List.setIfInBounds_toArray, List.set_cons_zero, List.set_cons_succ]
    refine wpAnyH_take (i := 10) (oi := ⟨some 8, _, _, _, _, _⟩) (v := ?_) rfl (by kernel_rfl) (by kernel_rfl) (by kernel_rfl) (fun _ _ _ h => h) (Or.inl ⟨by rfl, ?_⟩) (by assumption) ?_
    rotate_left
    · (intro w hSw; (try dsimp only at hSw); go_simp)
      first | done | (with_reducible rfl)
    try simp only [Act.put, List.setIfInBounds_toArray, List.set_cons_zero, List.set_cons_succ]
    have y0 := Y3.cell 0
    have y1_ := Y3.cell 1
    have p0 := P3.cell 0
    have p1 := P3.cell 1
    simp only [List.set_cons_zero, List.set_cons_succ, List.getElem?_cons_zero, List.getElem?_cons_succ] at y0 y1_ p0 p1
    have FW3 : Hid (Below w.heap.size w ((z3.setCell ⟨wr.heap.size, 0, none⟩ (.bool b)).setCell ⟨wr.heap.size, 1, none⟩ (.int .i64 (a : Nat)))) := W3.out.trans (X3.out.mono W3.out.size)
    clear Y3 P3
    refine wpAnyH_done (by kernel_rfl) ?_ _
    refine NoPanic.normal ?_
    generalize ((z3.setCell ⟨wr.heap.size, 0, none⟩ (.bool b)).setCell ⟨wr.heap.size, 1, none⟩ (.int .i64 (a : Nat))) = wf at *
    go_wp2
    go_ret
    exact ⟨rfl, FW3.out⟩
end Go.Proofs.Ytmnakdmmkkombaa
