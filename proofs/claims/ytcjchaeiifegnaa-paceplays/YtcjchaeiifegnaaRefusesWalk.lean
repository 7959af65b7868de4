/- The walk of the law PaceRefuses: for any numbers and sendings it returns true and turns nothing that was there. -/
import Derived.Test.YtcjchaeiifegnaaAwake
import Derived.Test.YtcjchaeiifegnaaIns
namespace Go.Proofs.Ytcjchaeiifegnaa
open Go.RowKit

theorem endOf_small {ns x n : Int} (h0 : 0 ≤ x) (h1 : x ≤ 1000000000000) (h2 : 1 ≤ n) (h3 : n ≤ 9216) (h4 : 1 ≤ ns) (h5 : ns ≤ 65536) : endOf ns x n = x + n * ns ∧ 1 ≤ n * ns ∧ n * ns ≤ 603979776 := by
  have e1 : cnt n = n := cnt_id (by omega) (by omega)
  have e2 : cnt ns = ns := cnt_id (by omega) (by omega)
  have p1 : 1 * 1 ≤ n * ns := Int.mul_le_mul h2 h4 (by omega) (by omega)
  have p2 : n * ns ≤ 9216 * 65536 := Int.mul_le_mul h3 h5 (by omega) (by omega)
  refine ⟨?_, by omega, by omega⟩
  have e3 : mulC n ns = n * ns := by unfold mulC; rw [e1, e2, if_neg (by omega)]
  unfold endOf addC
  rw [e3, cnt_id h0 (by omega), cnt_id (x := n * ns) (by omega) (by omega), if_neg (by omega)]
/-- Where the loop stands. -/
def WireRel (w : World) (g : Nat) (ns nx : Int) (w' : World) : Prop := PAt w' g ns nx ∧ Below w.heap.size w w'
theorem WireRel.be {w w' : World} {g : Nat} {ns nx : Int} (h : WireRel w g ns nx w') : Below w.heap.size w w' := h.2
theorem WireRel.at_ {w w' : World} {g : Nat} {ns nx : Int} (h : WireRel w g ns nx w') : PAt w' g ns nx := h.1
theorem WireRel.drew {w w' : World} {g : Nat} {ns nx : Int} (h : WireRel w g ns nx w') : WireRel w g ns nx w'.drew := ⟨h.1, below_drewN h.2 1⟩
theorem WireRel.drewN {w w' : World} {g : Nat} {ns nx : Int} (h : WireRel w g ns nx w') (N : Nat) : WireRel w g ns nx (w'.drewN N) := ⟨h.1, below_drewN h.2 N⟩
theorem why_some {nx x n : Int} (h : nx ≤ x → x ≤ 4611686018427387903 → 1 ≤ n → n ≤ 9216 → False) : whyNot nx x n ≠ 0 := by
  intro e
  obtain ⟨h1, h2, h3, h4, h5⟩ := why_ok e
  exact h h5 h4 h1 h2
theorem no_zero {c : Int} (h : c ≠ 0) : (c == 0) = false := by simpa using h

theorem send_q (g : Nat) (ns nx x n : Int) (w : World) (N : Nat) (h : PAt w g ns nx) (hn : whyNot nx x n ≠ 0) :
    Calls Try.prog 11 #[.pointer (some ⟨g, 0, none⟩), .int .i64 x, .int .i64 n] (w.drewN N) fun e w' => e = .returned (.tuple #[.int .i64 0, .int .i64 0, .int .i64 (whyNot nx x n)]) ∧ ∃ m, w' = w.drewN m :=
  (send_no g ns nx x n (w.drewN N) h hn).mono fun _ _ ⟨h1, h2⟩ => ⟨h1, N, h2.symm⟩

set_option maxRecDepth 100000 in
set_option maxHeartbeats 4000000 in
theorem refuses_near (ns nn : Int) (A : Option Addr) (n c : Nat) (X Y : Nat → Int) (w : World) (hn : n ≤ 40) (hr0 : 0 ≤ ns) (hr1 : ns ≤ 65535) (hs0 : 0 ≤ nn) (hs1 : nn ≤ 65535) (ha : ActsIn w A n X Y) :
    Calls Try.prog 5 #[.int .u16 ns, .int .u16 nn, .slice A n c] w fun e w' => e = .returned (.bool true) ∧ Below w.heap.size w w' := by
  have HA := Lib.hid ha
  clear ha
  have hd : decide ((40 : Int) < (n : Int)) = false := by simp; omega
  obtain ⟨L, hL⟩ : ∃ L : Int, 1 + nn % 9216 = L := ⟨_, rfl⟩
  have hL1 : 1 ≤ L := by omega
  have hL2 : L ≤ 9216 := by omega
  obtain ⟨hE, hE1, hE2⟩ := endOf_small (ns := 1 + ns) (x := 1000) (n := L) (by omega) (by omega) hL1 hL2 (by omega) (by omega)
  have hw0 : whyNot 0 1000 L = 0 := why_none hL1 hL2 (by omega) (by omega) (by omega)
  obtain ⟨E, hEE⟩ : ∃ E, endOf (1 + ns) 1000 L = E := ⟨_, rfl⟩
  have HS := Lib.hid hEE
  rw [hEE] at hE
  have hb1 : 1000 ≤ E := by omega
  have hb2 : E ≤ 603980776 := by omega
  clear hE hE1 hE2 hEE
  have HW0 := Lib.hid hw0
  clear hw0
  go_enter Try.func5, Try.ntmps5
  go_wp2_with (first | (go_at_call 7; (with_reducible refine (awake_any _).mono ?_); rintro e w1 ⟨rfl, hb1⟩; have W1 := Lib.hid hb1; clear hb1) | (go_at_call 8; (with_reducible refine (new_ _ _ (by omega) (by omega)).mono ?_); rintro e w2 ⟨g, rfl, hr, a1, hb2⟩; have R2 := Lib.hid hr; have W2 : Hid (Below w.heap.size w w2) := W1.out.trans (hb2.mono W1.out.size); have hsz1 := W1.out.size; have a1' : w.heap.size ≤ g := (by omega); clear hr hb2 W1 hsz1 a1) | (go_at_call 11; (with_reducible refine (send_ok g (1 + ns) 0 1000 L _ R2.out HW0.out).mono ?_); rintro e w3 ⟨rfl, hr3, hf3⟩; rw [HS.out] at hr3 ⊢; have R3 : Hid (WireRel w g (1 + ns) E w3) := ⟨hr3, below_only W2.out hf3 a1' W2.out.size⟩; clear hr3 hf3 R2 W2))
  go_loopw [12, 13, 14, 15, 43] (fun _ _ _ _ i w' => ∃ k : Nat, k ≤ n ∧ i = .int .i64 k ∧ WireRel w g (1 + ns) E w') (fun _ _ _ _ i _ => n - (intOf i).toNat)
  case atStart => exact ⟨0, by omega, rfl, R3.out⟩
  case round =>
    clear R3
    obtain ⟨k, hk, rfl, hr⟩ := hrel
    have R4 := Lib.hid hr
    clear hr
    by_cases hlt : k < n
    · obtain ⟨a, rfl, hca0, hcb0, hx0, hx1, hy0, hy1⟩ := HA.out k hlt
      have hca : ∀ N, (wr.drewN N).cell? (a.add (k * 2)) = some (.int .i64 (X k)) := fun N => ((R4.out.drewN N).be.cell (World.block_lt_of_cell? w _ hca0)).trans hca0
      have hcb : ∀ N, (wr.drewN N).cell? (a.add (k * 2 + 1)) = some (.int .i64 (Y k)) := fun N => ((R4.out.drewN N).be.cell (World.block_lt_of_cell? w _ hcb0)).trans hcb0
      have hca1 := hca 0
      have hcb1 := hcb 0
      change wr.cell? _ = _ at hca1 hcb1
      rw [addr_one] at hcb hcb1
      clear hca0 hcb0
      have HWY := Lib.hid (fun h => why_some (nx := E) (x := X k) (n := Y k) h)
      generalize X k = x at *
      generalize Y k = y at *
      generalize hcw : whyNot E x y = q at *
      by_cases t1 : E ≤ x
      · by_cases t2 : x ≤ 4611686018427387903
        · by_cases t3 : 1 ≤ y
          · by_cases t4 : y ≤ 9216
            · clear HWY
              go_wp2_with fail
              go_roundw
              case rel => exact ⟨k + 1, by omega, by go_num, R4.out⟩
              case measure => simp [intOf]; omega
            · have hq := HWY.out (fun h1 h2 h3 h4 => by omega)
              have SN := Lib.hid (fun N => send_q g (1 + ns) E x y wr N R4.out.at_ (by rw [hcw]; exact hq))
              rw [hcw] at SN
              have hz := no_zero hq
              clear HWY hcw hq
              go_wp2_with fail
              go_quiet ((go_at_call 11; with_reducible exact SN.out _))
              go_wp2_with (go_at_call 10; (with_reducible refine (next_ g (1 + ns) E _ (R4.out.drewN _).at_).mono ?_); rintro e w' ⟨rfl, rfl⟩)
              go_roundw
              case rel => exact ⟨k + 1, by omega, by go_num, R4.out.drewN _⟩
              case measure => simp [intOf]; omega
          · have hq := HWY.out (fun h1 h2 h3 h4 => by omega)
            have SN := Lib.hid (fun N => send_q g (1 + ns) E x y wr N R4.out.at_ (by rw [hcw]; exact hq))
            rw [hcw] at SN
            have hz := no_zero hq
            clear HWY hcw hq
            go_wp2_with fail
            go_quiet ((go_at_call 11; with_reducible exact SN.out _))
            go_wp2_with (go_at_call 10; (with_reducible refine (next_ g (1 + ns) E _ (R4.out.drewN _).at_).mono ?_); rintro e w' ⟨rfl, rfl⟩)
            go_roundw
            case rel => exact ⟨k + 1, by omega, by go_num, R4.out.drewN _⟩
            case measure => simp [intOf]; omega
        · have hq := HWY.out (fun h1 h2 h3 h4 => by omega)
          have SN := Lib.hid (fun N => send_q g (1 + ns) E x y wr N R4.out.at_ (by rw [hcw]; exact hq))
          rw [hcw] at SN
          have hz := no_zero hq
          clear HWY hcw hq
          go_wp2_with fail
          go_quiet ((go_at_call 11; with_reducible exact SN.out _))
          go_wp2_with (go_at_call 10; (with_reducible refine (next_ g (1 + ns) E _ (R4.out.drewN _).at_).mono ?_); rintro e w' ⟨rfl, rfl⟩)
          go_roundw
          case rel => exact ⟨k + 1, by omega, by go_num, R4.out.drewN _⟩
          case measure => simp [intOf]; omega
      · have hq := HWY.out (fun h1 h2 h3 h4 => by omega)
        have SN := Lib.hid (fun N => send_q g (1 + ns) E x y wr N R4.out.at_ (by rw [hcw]; exact hq))
        rw [hcw] at SN
        have hz := no_zero hq
        clear HWY hcw hq
        go_wp2_with fail
        go_quiet ((go_at_call 11; with_reducible exact SN.out _))
        go_wp2_with (go_at_call 10; (with_reducible refine (next_ g (1 + ns) E _ (R4.out.drewN _).at_).mono ?_); rintro e w' ⟨rfl, rfl⟩)
        go_roundw
        case rel => exact ⟨k + 1, by omega, by go_num, R4.out.drewN _⟩
        case measure => simp [intOf]; omega
    · obtain rfl : k = n := by omega
      have hfy := freeOf_yes (nx := E) (x := E) (by omega) (by omega) (by omega)
      have hfn := freeOf_no (nx := E) (x := E - 1) (by omega)
      go_wp2_with (go_at_call 9; (with_reducible refine (free_ g (1 + ns) E _ _ R4.out.at_).mono ?_); rintro e w' ⟨rfl, rfl⟩; simp only [hfy, hfn])
      go_ret
      exact ⟨rfl, R4.out.be⟩

set_option maxRecDepth 100000 in
set_option maxHeartbeats 2000000 in
theorem refuses_far (ns nn : Int) (A : Option Addr) (n c : Nat) (w : World) (hn : 40 < n) :
    Calls Try.prog 5 #[.int .u16 ns, .int .u16 nn, .slice A n c] w fun e w' => e = .returned (.bool true) ∧ Below w.heap.size w w' := by
  have hd : decide ((40 : Int) < (n : Int)) = true := by simp; omega
  go_enter Try.func5, Try.ntmps5
  go_wp2_with fail
  refine (awake_any _).mono ?_
  rintro e w1 ⟨rfl, hb1⟩
  have W1 := Lib.hid hb1
  clear hb1
  go_wp2_with fail
  refine (awake_any _).mono ?_
  rintro e w2 ⟨rfl, hb2⟩
  have W2 : Hid (Below w.heap.size w w2) := W1.out.trans (hb2.mono W1.out.size)
  clear hb2
  go_wp2_with fail
  go_ret
  exact ⟨rfl, W2.out⟩
end Go.Proofs.Ytcjchaeiifegnaa
