/- The walk of the law MailPlays where there are too many acts, or no box. -/
import Derived.Test.YtninoghalmhngaaAwake
namespace Go.Proofs.Ytninoghalmhngaa
open Go.RowKit

set_option maxRecDepth 100000 in
set_option maxHeartbeats 1000000 in
theorem plays_far (x : Int) (A B : Option Addr) (n c m d : Nat) (w : World) (hn : n ≤ 9223372036854775807) (h : 200 < n ∨ m < n) :
    Calls Try.prog 3 #[.int .i64 x, .slice A n c, .slice B m d] w fun e w' => e = .returned (.bool true) ∧ Below w.heap.size w w' := by
  by_cases h1 : 200 < n
  · have hd : decide ((200 : Int) < (n : Int)) = true := by simp; omega
    clear h
    go_enter Try.func3, Try.ntmps3
    go_wp2_with fail
    refine (awake_any _).mono ?_
    rintro e w1 ⟨rfl, hb⟩
    have HB := Lib.hid hb
    clear hb
    go_wp2_with fail
    refine (awake_any _).mono ?_
    rintro e w2 ⟨rfl, hb⟩
    have HC := Lib.hid hb
    clear hb
    go_wp2
    go_ret
    exact ⟨rfl, HB.out.trans (HC.out.mono HB.out.size)⟩
  · have hd : decide ((200 : Int) < (n : Int)) = false := by simp; omega
    have hd2 : decide (m < n) = true := by simp; omega
    clear h
    go_enter Try.func3, Try.ntmps3
    go_wp2_with fail
    refine (awake_any _).mono ?_
    rintro e w1 ⟨rfl, hb⟩
    have HB := Lib.hid hb
    clear hb
    go_wp2_with fail
    refine (awake_any _).mono ?_
    rintro e w2 ⟨rfl, hb⟩
    have HC := Lib.hid hb
    clear hb
    go_wp2
    go_ret
    exact ⟨rfl, HB.out.trans (HC.out.mono HB.out.size)⟩

set_option maxRecDepth 100000 in
set_option maxHeartbeats 1000000 in
theorem plays_none (x : Int) (A B : Option Addr) (n c m d : Nat) (w : World) (hn : n ≤ 200) (hm : n ≤ m) (h : x < 1 ∨ 4096 < x) :
    Calls Try.prog 3 #[.int .i64 x, .slice A n c, .slice B m d] w fun e w' => e = .returned (.bool true) ∧ Below w.heap.size w w' := by
  have hd : decide ((200 : Int) < (n : Int)) = false := by simp; omega
  have hd2 : decide (m < n) = false := by simp; omega
  have HX := Lib.hid h
  by_cases h1 : x < 1
  · have hd3 : decide (x < 1) = true := by simpa using h1
    clear h
    go_enter Try.func3, Try.ntmps3
    go_wp2_with (first | (go_at_call 7; (with_reducible refine (awake_any _).mono ?_); rintro e w1 ⟨rfl, hb1⟩; have W1 := Lib.hid hb1; clear hb1) | (go_at_call 8; (with_reducible refine (new_bad x _ HX.out).mono ?_); rintro e w' ⟨rfl, rfl⟩) | (go_at_call 9; (with_reducible refine (len_nil _).mono ?_); rintro e w' ⟨rfl, rfl⟩) | (go_at_call 10; (with_reducible refine (put_nil _ _).mono ?_); rintro e w2 ⟨rfl, hb2⟩; have W2 := Lib.hid hb2; clear hb2) | (go_at_call 11; (with_reducible refine (drain_nil _ _).mono ?_); rintro e w' ⟨rfl, rfl⟩))
    go_ret
    exact ⟨rfl, W1.out.trans (W2.out.mono W1.out.size)⟩
  · have hd3 : decide (x < 1) = false := by simpa using h1
    have hd4 : decide ((4096 : Int) < x) = true := by simp; omega
    clear h
    go_enter Try.func3, Try.ntmps3
    go_wp2_with (first | (go_at_call 7; (with_reducible refine (awake_any _).mono ?_); rintro e w1 ⟨rfl, hb1⟩; have W1 := Lib.hid hb1; clear hb1) | (go_at_call 8; (with_reducible refine (new_bad x _ HX.out).mono ?_); rintro e w' ⟨rfl, rfl⟩) | (go_at_call 9; (with_reducible refine (len_nil _).mono ?_); rintro e w' ⟨rfl, rfl⟩) | (go_at_call 10; (with_reducible refine (put_nil _ _).mono ?_); rintro e w2 ⟨rfl, hb2⟩; have W2 := Lib.hid hb2; clear hb2) | (go_at_call 11; (with_reducible refine (drain_nil _ _).mono ?_); rintro e w' ⟨rfl, rfl⟩))
    go_ret
    exact ⟨rfl, W1.out.trans (W2.out.mono W1.out.size)⟩
end Go.Proofs.Ytninoghalmhngaa
