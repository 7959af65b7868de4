/- The walk of the law PacePlays: for any pace and any sendings it returns true and turns nothing that was there. -/
import Derived.Test.YtcjchaeiifegnaaApartWalk
namespace Go.Proofs.Ytcjchaeiifegnaa
open Go.RowKit

theorem free_open (nx x : Int) : freeOf nx x = (decide (0 ≤ x) && decide (x ≤ 4611686018427387903) && decide (nx ≤ x)) := rfl

set_option maxRecDepth 100000 in
set_option maxHeartbeats 8000000 in
theorem plays_near (ns : Int) (A : Option Addr) (n c : Nat) (X Y : Nat → Int) (w : World) (hn : n ≤ 60) (hr0 : 1 ≤ ns) (hr1 : ns ≤ 1000000) (ha : ActsIn w A n X Y) :
    Calls Try.prog 3 #[.int .i64 ns, .slice A n c] w fun e w' => e = .returned (.bool true) ∧ Below w.heap.size w w' := by
  have HA := Lib.hid ha
  clear ha
  have hd : decide ((60 : Int) < (n : Int)) = false := by simp; omega
  go_enter Try.func3, Try.ntmps3
  go_wp2_with (first | (go_at_call 7; (with_reducible refine (awake_any _).mono ?_); rintro e w1 ⟨rfl, hb1⟩; have W1 := Lib.hid hb1; clear hb1) | (go_at_call 8; (with_reducible refine (new_ _ _ hr0 hr1).mono ?_); rintro e w2 ⟨g, rfl, hr, a1, hb2⟩; have R2 := Lib.hid hr; have W2 : Hid (Below w.heap.size w w2) := W1.out.trans (hb2.mono W1.out.size); have hsz1 := W1.out.size; have a1' : w.heap.size ≤ g := (by omega); clear hr hb2 W1 hsz1 a1))
  go_loopw [7, 8, 9, 10, 11, 12, 13, 14, 15, 53] (fun nx _ _ _ _ _ _ _ _ i w' => ∃ (k : Nat) (E : Int), k ≤ n ∧ i = .int .i64 k ∧ nx = .int .i64 E ∧ 0 ≤ E ∧ E ≤ 4611686018427387904 ∧ WireRel w g ns E w') (fun _ _ _ _ _ _ _ _ _ i _ => n - (intOf i).toNat)
  case atStart => exact ⟨0, 0, by omega, rfl, rfl, by omega, by omega, R2.out, W2.out⟩
  case round =>
    clear R2 W2
    obtain ⟨k, E, hk, rfl, rfl, he0, he1, hr⟩ := hrel
    have R4 := Lib.hid hr
    clear hr
    by_cases hlt : k < n
    · obtain ⟨a, rfl, hca0, hcb0, hx0, hx1, hy0, hy1⟩ := HA.out k hlt
      have hca : wr.cell? (a.add (k * 2)) = some (.int .i64 (X k)) := (R4.out.be.cell (World.block_lt_of_cell? w _ hca0)).trans hca0
      have hcb : wr.cell? (a.add (k * 2 + 1)) = some (.int .i64 (Y k)) := (R4.out.be.cell (World.block_lt_of_cell? w _ hcb0)).trans hcb0
      rw [addr_one] at hcb
      clear hca0 hcb0 HA
      generalize X k = x at *
      generalize Y k = y at *
      have RD := Lib.hid R4.out.drew
      by_cases t1 : y < 1
      · have HQ := Lib.hid (show whyNot E x y = 1 from why_len (.inl t1))
        go_wp2_with fail
        go_region
        go_wp2_with (first | (go_at_call 9; (with_reducible refine (free_ g ns E _ _ RD.out.at_).mono ?_); rintro e w' ⟨rfl, rfl⟩; rw [free_open]) | (go_at_call 11; (with_reducible refine (send_no g ns E x y _ RD.out.at_ (by rw [HQ.out]; decide)).mono ?_); rw [HQ.out]; rintro e w' ⟨rfl, rfl⟩) | (go_at_call 10; (with_reducible refine (next_ g ns E _ RD.out.at_).mono ?_); rintro e w' ⟨rfl, rfl⟩))
        all_goals
          go_roundw
          case rel => exact ⟨k + 1, E, by omega, by go_num, rfl, he0, he1, RD.out⟩
          case measure => simp [intOf]; omega
      · by_cases t2 : 9216 < y
        · have HQ := Lib.hid (show whyNot E x y = 1 from why_len (.inr t2))
          go_wp2_with fail
          go_region
          go_wp2_with (first | (go_at_call 9; (with_reducible refine (free_ g ns E _ _ RD.out.at_).mono ?_); rintro e w' ⟨rfl, rfl⟩; rw [free_open]) | (go_at_call 11; (with_reducible refine (send_no g ns E x y _ RD.out.at_ (by rw [HQ.out]; decide)).mono ?_); rw [HQ.out]; rintro e w' ⟨rfl, rfl⟩) | (go_at_call 10; (with_reducible refine (next_ g ns E _ RD.out.at_).mono ?_); rintro e w' ⟨rfl, rfl⟩))
          all_goals
            go_roundw
            case rel => exact ⟨k + 1, E, by omega, by go_num, rfl, he0, he1, RD.out⟩
            case measure => simp [intOf]; omega
        · by_cases t3 : x < 0
          · have hfr : freeOf E x = false := by rw [freeOf, isT_no (.inl t3)]; rfl
            have HQ := Lib.hid (show whyNot E x y = 3 from why_time (by omega) (by omega) (.inl t3))
            go_wp2_with fail
            go_region
            go_wp2_with (first | (go_at_call 9; (with_reducible refine (free_ g ns E _ _ RD.out.at_).mono ?_); rintro e w' ⟨rfl, rfl⟩; rw [hfr]) | (go_at_call 11; (with_reducible refine (send_no g ns E x y _ RD.out.at_ (by rw [HQ.out]; decide)).mono ?_); rw [HQ.out]; rintro e w' ⟨rfl, rfl⟩) | (go_at_call 10; (with_reducible refine (next_ g ns E _ RD.out.at_).mono ?_); rintro e w' ⟨rfl, rfl⟩))
            all_goals
              go_roundw
              case rel => exact ⟨k + 1, E, by omega, by go_num, rfl, he0, he1, RD.out⟩
              case measure => simp [intOf]; omega
          · by_cases t4 : 4611686018427387903 < x
            · have hfr : freeOf E x = false := by rw [freeOf, isT_no (.inr t4)]; rfl
              have HQ := Lib.hid (show whyNot E x y = 3 from why_time (by omega) (by omega) (.inr t4))
              go_wp2_with fail
              go_region
              go_wp2_with (first | (go_at_call 9; (with_reducible refine (free_ g ns E _ _ RD.out.at_).mono ?_); rintro e w' ⟨rfl, rfl⟩; rw [hfr]) | (go_at_call 11; (with_reducible refine (send_no g ns E x y _ RD.out.at_ (by rw [HQ.out]; decide)).mono ?_); rw [HQ.out]; rintro e w' ⟨rfl, rfl⟩) | (go_at_call 10; (with_reducible refine (next_ g ns E _ RD.out.at_).mono ?_); rintro e w' ⟨rfl, rfl⟩))
              all_goals
                go_roundw
                case rel => exact ⟨k + 1, E, by omega, by go_num, rfl, he0, he1, RD.out⟩
                case measure => simp [intOf]; omega
            · by_cases t5 : x < E
              · have hfr := freeOf_no t5
                have HQ := Lib.hid (show whyNot E x y = 4 from why_busy (by omega) (by omega) (by omega) (by omega) t5)
                go_wp2_with fail
                go_region
                go_wp2_with (first | (go_at_call 9; (with_reducible refine (free_ g ns E _ _ RD.out.at_).mono ?_); rintro e w' ⟨rfl, rfl⟩; rw [hfr]) | (go_at_call 11; (with_reducible refine (send_no g ns E x y _ RD.out.at_ (by rw [HQ.out]; decide)).mono ?_); rw [HQ.out]; rintro e w' ⟨rfl, rfl⟩) | (go_at_call 10; (with_reducible refine (next_ g ns E _ RD.out.at_).mono ?_); rintro e w' ⟨rfl, rfl⟩))
                all_goals
                  go_roundw
                  case rel => exact ⟨k + 1, E, by omega, by go_num, rfl, he0, he1, RD.out⟩
                  case measure => simp [intOf]; omega
              · have hfr := freeOf_yes (nx := E) (x := x) (by omega) (by omega) (by omega)
                have HQ := Lib.hid (show whyNot E x y = 0 from why_none (by omega) (by omega) (by omega) (by omega) (by omega))
                have HE := Lib.hid (show addC (cnt x) (cnt (mulC y ns)) = endOf ns x y from rfl)
                have hend := endOf_bd ns x y
                generalize hge : endOf ns x y = G at *
                have HG := Lib.hid hge
                clear hge
                go_wp2_with fail
                go_region
                go_wp2_with (first | (go_at_call 9; (with_reducible refine (free_ g ns E _ _ RD.out.at_).mono ?_); rintro e w' ⟨rfl, rfl⟩; rw [hfr]) | (go_at_call 11; (with_reducible refine (send_ok g ns E x y _ RD.out.at_ HQ.out).mono ?_); rintro e w3 ⟨rfl, hr3, hf3⟩; rw [HG.out] at hr3 ⊢; have R3 : Hid (WireRel w g ns G w3) := ⟨hr3, below_only RD.out.be hf3 a1' RD.out.be.size⟩; clear hr3 hf3) | (go_at_call 13; (with_reducible refine (rmul_any _ _ _).mono ?_); rintro e w' ⟨rfl, rfl⟩) | (go_at_call 12; (with_reducible refine (radd_any _ _ _).mono ?_); rintro e w' ⟨rfl, rfl⟩; rw [HE.out]) | (go_at_call 10; (with_reducible refine (next_ g ns G _ R3.out.at_).mono ?_); rintro e w' ⟨rfl, rfl⟩))
                go_roundw
                case rel => exact ⟨k + 1, G, by omega, by go_num, rfl, hend.1, hend.2, R3.out⟩
                case measure => simp [intOf]; omega
    · obtain rfl : k = n := by omega
      go_wp2
      go_ret
      exact ⟨rfl, R4.out.be⟩

set_option maxRecDepth 100000 in
set_option maxHeartbeats 2000000 in
theorem plays_bad (ns : Int) (A : Option Addr) (n c : Nat) (w : World) (hn : n ≤ 60) (hr : ns < 1 ∨ 1000000 < ns) :
    Calls Try.prog 3 #[.int .i64 ns, .slice A n c] w fun e w' => e = .returned (.bool true) ∧ Below w.heap.size w w' := by
  have hd : decide ((60 : Int) < (n : Int)) = false := by simp; omega
  have HB := Lib.hid (fun W => new_bad ns W hr)
  rcases hr with t1 | t1
  all_goals
    go_enter Try.func3, Try.ntmps3
    go_wp2_with (first | (go_at_call 7; (with_reducible refine (awake_any _).mono ?_); rintro e w1 ⟨rfl, hb1⟩; have W1 := Lib.hid hb1; clear hb1) | (go_at_call 8; (with_reducible refine (HB.out _).mono ?_); rintro e w' ⟨rfl, rfl⟩) | (go_at_call 9; (with_reducible refine (free_nil _ _).mono ?_); rintro e w' ⟨rfl, rfl⟩) | (go_at_call 10; (with_reducible refine (next_nil _).mono ?_); rintro e w' ⟨rfl, rfl⟩))
    go_ret
    exact ⟨rfl, W1.out⟩

set_option maxRecDepth 100000 in
set_option maxHeartbeats 2000000 in
theorem plays_far (ns : Int) (A : Option Addr) (n c : Nat) (w : World) (hn : 60 < n) :
    Calls Try.prog 3 #[.int .i64 ns, .slice A n c] w fun e w' => e = .returned (.bool true) ∧ Below w.heap.size w w' := by
  have hd : decide ((60 : Int) < (n : Int)) = true := by simp; omega
  go_enter Try.func3, Try.ntmps3
  go_wp2_with fail
  refine (awake_any _).mono ?_
  rintro e w1 ⟨rfl, hb1⟩
  have W1 := Lib.hid hb1
  clear hb1
  go_wp2_with fail
  refine (awake_any _).mono ?_
  rintro e w2 ⟨rfl, hb2⟩
  have W2 : Hid (Below w.heap.size w w2) := W1.out.trans (hb2.mono W1.out.size)
  clear hb2
  go_wp2_with fail
  go_ret
  exact ⟨rfl, W2.out⟩
end Go.Proofs.Ytcjchaeiifegnaa
