/- The check that the program is awake; a box that isn't. Conditions: those of each theorem. -/
import Derived.Test.YtninoghalmhngaaDrain
namespace Go.Proofs.Ytninoghalmhngaa
open Go.RowKit

theorem ret_bool {a b : Bool} (h : a = b) : Ending.returned (.bool a) = .returned (.bool b) := by rw [h]
set_option maxHeartbeats 400000 in
theorem drainnil_near (x : Int) (w : World) (hx : x ≤ 0) : Calls Try.prog 11 #[.pointer none, .int .i64 x] w fun e w' => e = .returned (.slice none 0 0) ∧ w = w' := by
  have hd : decide (x ≤ (0 : Int)) = true := by simp; omega
  go_enter Try.func11, Try.ntmps11
  go_wp2_with (first | (go_at_call 13; (with_reducible refine (room_nil _).mono ?_); rintro e w' ⟨rfl, rfl⟩))
  go_loopw [5, 6, 7, 12] (fun v _ _ y w' => y = .int .i64 0 ∧ v = .slice none 0 0 ∧ w = w') (fun _ _ _ _ _ => 0)
  case atStart => exact ⟨rfl, rfl, rfl⟩
  case round =>
    obtain ⟨rfl, rfl, rfl⟩ := hrel
    have hd2 : decide ((0 : Int) < x) = false := by simp; omega
    go_wp2
    go_ret
    exact ⟨rfl, rfl⟩
set_option maxHeartbeats 400000 in
theorem drainnil_far (x : Int) (w : World) (hx : 0 < x) : Calls Try.prog 11 #[.pointer none, .int .i64 x] w fun e w' => e = .returned (.slice none 0 0) ∧ w = w' := by
  have hd : decide (x ≤ (0 : Int)) = false := by simp; omega
  go_enter Try.func11, Try.ntmps11
  go_wp2_with (first | (go_at_call 13; (with_reducible refine (room_nil _).mono ?_); rintro e w' ⟨rfl, rfl⟩))
  go_loopw [5, 6, 7, 12] (fun v _ _ y w' => y = .int .i64 0 ∧ v = .slice none 0 0 ∧ w = w') (fun _ _ _ _ _ => 0)
  case atStart => exact ⟨rfl, rfl, rfl⟩
  case round =>
    obtain ⟨rfl, rfl, rfl⟩ := hrel
    skip
    go_wp2
    go_ret
    exact ⟨rfl, rfl⟩
theorem drain_nil (x : Int) (w : World) : Calls Try.prog 11 #[.pointer none, .int .i64 x] w fun e w' => e = .returned (.slice none 0 0) ∧ w = w' := by
  by_cases hx : x ≤ 0
  · exact drainnil_near x w hx
  · exact drainnil_far x w (by omega)

set_option maxHeartbeats 1000000 in
theorem awake_any (w : World) : Calls Try.prog 7 #[] w fun e w' => e = .returned (.bool true) ∧ Below w.heap.size w w' := by
  go_enter Try.func7, Try.ntmps7
  go_wp2_with fail
  refine (new_ok 1 1 _ rfl (by decide) (by decide)).mono ?_
  rintro e w1 ⟨g, c, rfl, hr, hg, hc, hb⟩
  have B1 := Lib.hid hr
  have W1 := Lib.hid hb
  have hs := hb.size
  clear hr hb
  go_wp2_with fail
  refine (put_any g c 1 _ [] 5 _ B1.out (by omega)).mono ?_
  rintro e w2 ⟨rfl, hr, hf⟩
  have B2 := Lib.hid hr
  have W2 : Hid (Below w.heap.size w w2) := W1.out.trans (hf.below hs (fun k hk e => by have : k = c := e; omega))
  have hs2 := W2.out.size
  clear hr hf
  go_wp2_with fail
  refine (put_any g c 1 _ _ 6 _ B2.out (by omega)).mono ?_
  rintro e w3 ⟨rfl, hr, hf⟩
  have B3 := Lib.hid hr
  have W3 : Hid (Below w.heap.size w w3) := W2.out.trans (hf.below hs2 (fun k hk e => by have : k = c := e; omega))
  clear hr hf
  go_wp2_with (first | (go_at_call 9; (with_reducible refine (len_is g c 1 1 _ _ _ B3.out rfl).mono ?_); rintro e w' ⟨rfl, rfl⟩))
  go_ret
  exact ⟨rfl, W3.out⟩

set_option maxHeartbeats 1000000 in
theorem nil_any (x m : Int) (w : World) : Calls Try.prog 6 #[.int .i64 x, .int .i64 m] w fun e w' => e = .returned (.bool true) ∧ Below w.heap.size w w' := by
  go_enter Try.func6, Try.ntmps6
  go_wp2_with (first | (go_at_call 12; (with_reducible refine (take_nil _).mono ?_); rintro e w' ⟨rfl, rfl⟩) | (go_at_call 7; (with_reducible refine (awake_any _).mono ?_); rintro e w1 ⟨rfl, hb⟩; have W1 := Lib.hid hb; clear hb) | (go_at_call 10; (with_reducible refine (put_nil x _).mono ?_); rintro e w2 ⟨rfl, hb⟩; have W2 := Lib.hid hb; clear hb) | (go_at_call 11; (with_reducible refine (drain_nil m _).mono ?_); rintro e w' ⟨rfl, rfl⟩) | (go_at_call 9; (with_reducible refine (len_nil _).mono ?_); rintro e w' ⟨rfl, rfl⟩))
  go_ret
  exact ⟨rfl, W1.out.trans (W2.out.mono W1.out.size)⟩
end Go.Proofs.Ytninoghalmhngaa
