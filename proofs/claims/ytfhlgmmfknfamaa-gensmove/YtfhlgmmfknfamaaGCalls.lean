/- The program's gens: what is asked of it without a flow. Conditions: those of each theorem. -/
import Derived.Test.YtfhlgmmfknfamaaGMem
namespace Go.Proofs.Ytfhlgmmfknfamaa
open Go.RowKit

set_option maxRecDepth 100000 in
set_option maxHeartbeats 2000000 in
theorem other_false (g n : Nat) (p q : Key) (v : Bool) (m e : Nat) (w : World) (h : Blk w g 56 (gcs n p q false v m e)) : Calls Try.prog 20 #[.pointer (some ⟨g, 0, none⟩)] w fun e w' => e = .returned (.int .i64 1) ∧ w = w' := by
  have c33 := gcell_f h
  clear h
  go_enter Try.func20, Try.ntmps20
  go_wp2
  go_ret
  exact ⟨rfl, rfl⟩
set_option maxRecDepth 100000 in
set_option maxHeartbeats 2000000 in
theorem other_true (g n : Nat) (p q : Key) (v : Bool) (m e : Nat) (w : World) (h : Blk w g 56 (gcs n p q true v m e)) : Calls Try.prog 20 #[.pointer (some ⟨g, 0, none⟩)] w fun e w' => e = .returned (.int .i64 0) ∧ w = w' := by
  have c33 := gcell_t h
  clear h
  go_enter Try.func20, Try.ntmps20
  go_wp2
  go_ret
  exact ⟨rfl, rfl⟩
set_option maxRecDepth 100000 in
set_option maxHeartbeats 2000000 in
theorem class_false (g n : Nat) (p q : Key) (o v : Bool) (m e c : Nat) (w : World) (h : Blk w g 56 (gcs n p q o v m e)) (_hn : n ≤ 64) (hc : c ≤ 1000) : Calls Try.prog 21 #[.pointer (some ⟨g, 0, none⟩), .int .i64 0, .int .i64 (c : Nat)] w fun e w' => e = .returned (.int .i64 ((nm false * n + c : Nat) : Int)) ∧ w = w' := by
  have c0 := gcell0 h
  have hr : ((nm false * n + c : Nat) : Int) = (c : Int) := by show (((0 : Nat) * n + c : Nat) : Int) = _; omega
  rw [hr]
  clear h hr
  go_enter Try.func21, Try.ntmps21
  go_wp2
  go_ret
  exact ⟨rfl, rfl⟩
set_option maxRecDepth 100000 in
set_option maxHeartbeats 2000000 in
theorem class_true (g n : Nat) (p q : Key) (o v : Bool) (m e c : Nat) (w : World) (h : Blk w g 56 (gcs n p q o v m e)) (hn : n ≤ 64) (hc : c ≤ 1000) : Calls Try.prog 21 #[.pointer (some ⟨g, 0, none⟩), .int .i64 1, .int .i64 (c : Nat)] w fun e w' => e = .returned (.int .i64 ((nm true * n + c : Nat) : Int)) ∧ w = w' := by
  have c0 := gcell0 h
  have hr : ((nm true * n + c : Nat) : Int) = (n : Int) + (c : Int) := by show (((1 : Nat) * n + c : Nat) : Int) = _; omega
  rw [hr]
  clear h hr
  go_enter Try.func21, Try.ntmps21
  go_wp2
  go_ret
  exact ⟨rfl, rfl⟩
set_option maxRecDepth 100000 in
set_option maxHeartbeats 2000000 in
theorem isMoved_ (g n : Nat) (p q : Key) (o v : Bool) (m e c : Nat) (w : World) (h : Blk w g 56 (gcs n p q o v m e)) : Calls Try.prog 27 #[.pointer (some ⟨g, 0, none⟩), .int .i64 (c : Nat)] w fun e w' => e = .returned (.bool (decide (c < m))) ∧ w = w' := by
  have c35 := gcell_m h
  clear h
  go_enter Try.func27, Try.ntmps27
  go_wp2
  go_ret
  exact ⟨rfl, rfl⟩
set_option maxRecDepth 100000 in
set_option maxHeartbeats 2000000 in
theorem moving_ (g n : Nat) (p q : Key) (o v : Bool) (m e : Nat) (w : World) (h : Blk w g 56 (gcs n p q o v m e)) : Calls Try.prog 10 #[.pointer (some ⟨g, 0, none⟩)] w fun e' w' => e' = .returned (.bool v) ∧ w = w' := by
  have c34 := gcell_v h
  clear h
  go_enter Try.func10, Try.ntmps10
  go_wp2
  all_goals (go_ret; exact ⟨rfl, rfl⟩)
theorem moving_nil (w : World) : Calls Try.prog 10 #[.pointer none] w fun e' w' => e' = .returned (.bool false) ∧ w = w' := by
  go_enter Try.func10, Try.ntmps10
  go_wp2
  all_goals (go_ret; exact ⟨rfl, rfl⟩)
set_option maxRecDepth 100000 in
set_option maxHeartbeats 2000000 in
theorem old_ (g n : Nat) (p q : Key) (o v : Bool) (m e : Nat) (w : World) (h : Blk w g 56 (gcs n p q o v m e)) : Calls Try.prog 18 #[.pointer (some ⟨g, 0, none⟩)] w fun e' w' => e' = .returned (.int .i64 (nm o : Nat)) ∧ w = w' := by
  have c33 := gcell_o h
  clear h
  go_enter Try.func18, Try.ntmps18
  go_wp2
  all_goals (go_ret; exact ⟨rfl, rfl⟩)
theorem old_nil (w : World) : Calls Try.prog 18 #[.pointer none] w fun e' w' => e' = .returned (.int .i64 0) ∧ w = w' := by
  go_enter Try.func18, Try.ntmps18
  go_wp2
  all_goals (go_ret; exact ⟨rfl, rfl⟩)
set_option maxRecDepth 100000 in
set_option maxHeartbeats 2000000 in
theorem epoch_ (g n : Nat) (p q : Key) (o v : Bool) (m e : Nat) (w : World) (h : Blk w g 56 (gcs n p q o v m e)) : Calls Try.prog 11 #[.pointer (some ⟨g, 0, none⟩)] w fun e' w' => e' = .returned (.int .i64 (e : Nat)) ∧ w = w' := by
  have c36 := gcell_e h
  clear h
  go_enter Try.func11, Try.ntmps11
  go_wp2
  all_goals (go_ret; exact ⟨rfl, rfl⟩)
theorem epoch_nil (w : World) : Calls Try.prog 11 #[.pointer none] w fun e' w' => e' = .returned (.int .i64 0) ∧ w = w' := by
  go_enter Try.func11, Try.ntmps11
  go_wp2
  all_goals (go_ret; exact ⟨rfl, rfl⟩)
set_option maxRecDepth 100000 in
set_option maxHeartbeats 2000000 in
theorem hasKey_own_false (g n : Nat) (p q : Key) (v : Bool) (m e : Nat) (w : World) (h : Blk w g 56 (gcs n p q false v m e)) : Calls Try.prog 28 #[.pointer (some ⟨g, 0, none⟩), .int .i64 0] w fun e w' => e = .returned (.bool true) ∧ w = w' := by
  have c33 := gcell_f h
  clear h
  go_enter Try.func28, Try.ntmps28
  go_wp2
  go_ret
  exact ⟨rfl, rfl⟩
set_option maxRecDepth 100000 in
set_option maxHeartbeats 2000000 in
theorem hasKey_still_false (g n : Nat) (p q : Key) (m e : Nat) (t : Int) (w : World) (h : Blk w g 56 (gcs n p q false false m e)) (ht : ¬ t = 0) : Calls Try.prog 28 #[.pointer (some ⟨g, 0, none⟩), .int .i64 t] w fun e w' => e = .returned (.bool false) ∧ w = w' := by
  have c33 := gcell_f h
  have c34 := gcell_v h
  have hd : (t == (0 : Int)) = false := by simp [ht]
  clear h ht
  go_enter Try.func28, Try.ntmps28
  go_wp2
  go_ret
  exact ⟨rfl, rfl⟩
set_option maxRecDepth 100000 in
set_option maxHeartbeats 2000000 in
theorem hasKey_move_false (g n : Nat) (p q : Key) (m e : Nat) (t : Int) (w : World) (h : Blk w g 56 (gcs n p q false true m e)) (ht : ¬ t = 0) : Calls Try.prog 28 #[.pointer (some ⟨g, 0, none⟩), .int .i64 t] w fun e w' => e = .returned (.bool (t == (1 : Int))) ∧ w = w' := by
  have c33 := gcell_f h
  have c34 := gcell_v h
  have hd : (t == (0 : Int)) = false := by simp [ht]
  have HO := Lib.hid (other_false g n p q true m e w h)
  clear h ht
  go_enter Try.func28, Try.ntmps28
  go_wp2_with (go_at_call 20; (with_reducible refine HO.out.mono ?_); rintro e w' ⟨rfl, rfl⟩)
  go_ret
  exact ⟨rfl, rfl⟩
set_option maxRecDepth 100000 in
set_option maxHeartbeats 2000000 in
theorem hasKey_own_true (g n : Nat) (p q : Key) (v : Bool) (m e : Nat) (w : World) (h : Blk w g 56 (gcs n p q true v m e)) : Calls Try.prog 28 #[.pointer (some ⟨g, 0, none⟩), .int .i64 1] w fun e w' => e = .returned (.bool true) ∧ w = w' := by
  have c33 := gcell_t h
  clear h
  go_enter Try.func28, Try.ntmps28
  go_wp2
  go_ret
  exact ⟨rfl, rfl⟩
set_option maxRecDepth 100000 in
set_option maxHeartbeats 2000000 in
theorem hasKey_still_true (g n : Nat) (p q : Key) (m e : Nat) (t : Int) (w : World) (h : Blk w g 56 (gcs n p q true false m e)) (ht : ¬ t = 1) : Calls Try.prog 28 #[.pointer (some ⟨g, 0, none⟩), .int .i64 t] w fun e w' => e = .returned (.bool false) ∧ w = w' := by
  have c33 := gcell_t h
  have c34 := gcell_v h
  have hd : (t == (1 : Int)) = false := by simp [ht]
  clear h ht
  go_enter Try.func28, Try.ntmps28
  go_wp2
  go_ret
  exact ⟨rfl, rfl⟩
set_option maxRecDepth 100000 in
set_option maxHeartbeats 2000000 in
theorem hasKey_move_true (g n : Nat) (p q : Key) (m e : Nat) (t : Int) (w : World) (h : Blk w g 56 (gcs n p q true true m e)) (ht : ¬ t = 1) : Calls Try.prog 28 #[.pointer (some ⟨g, 0, none⟩), .int .i64 t] w fun e w' => e = .returned (.bool (t == (0 : Int))) ∧ w = w' := by
  have c33 := gcell_t h
  have c34 := gcell_v h
  have hd : (t == (1 : Int)) = false := by simp [ht]
  have HO := Lib.hid (other_true g n p q true m e w h)
  clear h ht
  go_enter Try.func28, Try.ntmps28
  go_wp2_with (go_at_call 20; (with_reducible refine HO.out.mono ?_); rintro e w' ⟨rfl, rfl⟩)
  go_ret
  exact ⟨rfl, rfl⟩
end Go.Proofs.Ytfhlgmmfknfamaa
