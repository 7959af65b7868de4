/- The contract of the program's round. Conditions: those of each theorem. -/
import Derived.Test.YtfhlgmmfknfamaaKdSummRots
import Derived.StillTailTactics
namespace Go.Proofs.Ytfhlgmmfknfamaa.kd.summ
open Go.RowKit

/-- One block alone. -/
def only (c : Nat) : Nat → Prop := fun k => k = c
/-- The cells of a state. -/
def stCells (a b c d m n : Nat) : List Value := [.int .u64 (a : Nat), .int .u64 (b : Nat), .int .u64 (c : Nat), .int .u64 (d : Nat), .int .u64 (m : Nat), .int .u8 (n : Nat)]
/-- Block g is a state. -/
def StAt (w : World) (g : Nat) (v : V4) (m n : Nat) : Prop := Blk w g 81 (stCells v.a v.b v.c v.d m n)
theorem still {P : Program} {f : FuncId} {args : Array Value} {w : World} {v : Value} (h : Calls P f args w fun e w' => e = .returned v ∧ w = w') : Calls P f args w fun e w' => e = .returned v ∧ w' = w :=
  h.mono fun _ _ ⟨a, b⟩ => ⟨a, b.symm⟩

set_option maxRecDepth 100000 in
set_option maxHeartbeats 4000000 in
theorem round_is (g : Nat) (v : V4) (m n : Nat) (w : World) (h : StAt w g v m n) (hv : v.Ok) : Calls Try.prog 51 #[.pointer (some ⟨g, 0, none⟩)] w fun e w' => e = .returned (.tuple #[]) ∧ StAt w' g (rnd v) m n ∧ Far (only g) w w' := by
  obtain ⟨a, b, c, d⟩ := v
  obtain ⟨ua, ub, uc, ud⟩ := hv
  have B0 : Hid (Blk w g 81 (stCells a b c d m n)) := h
  have F0 : Hid (Far (only g) w w) := Far.refl _ _
  clear h
  have c0 : w.cell? ⟨g, 0, none⟩ = some (.int .u64 (a : Nat)) := B0.out.cell 0
  have f0 : w.frozen? ⟨g, 0, none⟩ = false := B0.out.frozen 0
  have c1 : w.cell? ⟨g, 1, none⟩ = some (.int .u64 (b : Nat)) := B0.out.cell 1
  have f1 : w.frozen? ⟨g, 1, none⟩ = false := B0.out.frozen 1
  have c2 : w.cell? ⟨g, 2, none⟩ = some (.int .u64 (c : Nat)) := B0.out.cell 2
  have f2 : w.frozen? ⟨g, 2, none⟩ = false := B0.out.frozen 2
  have c3 : w.cell? ⟨g, 3, none⟩ = some (.int .u64 (d : Nat)) := B0.out.cell 3
  have f3 : w.frozen? ⟨g, 3, none⟩ = false := B0.out.frozen 3
  go_enter Try.func51, Try.ntmps51
  go_wp2_with fail
  -- statement 0
  have e0 := add_out a b
  have uu := addN_u a b
  obtain ⟨a1, hz⟩ : ∃ z, z = addN a b := ⟨_, rfl⟩
  rw [← hz] at e0 uu
  have Z0 := Lib.hid hz
  have ua1 : U a1 := uu
  clear hz uu
  refine wp_region_still_tail 11 (by kernel_rfl) (by kernel_rfl) ?_
  change wpStill _ _ w.drew (fun a' => wpList _ _ _ _ a' w.drew) _ _
  have X0 : Hid (Blk w.drew g 81 (stCells a b c d m n)) := B0.out
  have Y0 : Hid (Far (only g) w w.drew) := F0.out.drew
  clear c0 c1 c2 c3 f0 f1 f2 f3
  generalize w.drew = x0 at *
  have c0 : x0.cell? ⟨g, 0, none⟩ = some (.int .u64 (a : Nat)) := X0.out.cell 0
  have f0 : x0.frozen? ⟨g, 0, none⟩ = false := X0.out.frozen 0
  have c1 : x0.cell? ⟨g, 1, none⟩ = some (.int .u64 (b : Nat)) := X0.out.cell 1
  have f1 : x0.frozen? ⟨g, 1, none⟩ = false := X0.out.frozen 1
  have c2 : x0.cell? ⟨g, 2, none⟩ = some (.int .u64 (c : Nat)) := X0.out.cell 2
  have f2 : x0.frozen? ⟨g, 2, none⟩ = false := X0.out.frozen 2
  have c3 : x0.cell? ⟨g, 3, none⟩ = some (.int .u64 (d : Nat)) := X0.out.cell 3
  have f3 : x0.frozen? ⟨g, 3, none⟩ = false := X0.out.frozen 3
  simp only [List.take_succ_cons, List.take_zero, List.drop_succ_cons, List.drop_zero]
  repeat (first | still_step)
  refine wpStill_nil ?_
  go_wp2_with fail
  clear c0 c1 c2 c3 f0 f1 f2 f3 e0
  have B1 : Hid (Blk (x0.setCell ⟨g, 0, none⟩ (.int .u64 (a1 : Nat))) g 81 (stCells a1 b c d m n)) := X0.out.set_ 0 _
  have F1 : Hid (Far (only g) w (x0.setCell ⟨g, 0, none⟩ (.int .u64 (a1 : Nat)))) := Y0.out.set_ (p := ⟨g, 0, none⟩) (fun _ => show g = g from rfl) _
  generalize x0.setCell ⟨g, 0, none⟩ (.int .u64 (a1 : Nat)) = w1 at *
  have c0 : w1.cell? ⟨g, 0, none⟩ = some (.int .u64 (a1 : Nat)) := B1.out.cell 0
  have f0 : w1.frozen? ⟨g, 0, none⟩ = false := B1.out.frozen 0
  have c1 : w1.cell? ⟨g, 1, none⟩ = some (.int .u64 (b : Nat)) := B1.out.cell 1
  have f1 : w1.frozen? ⟨g, 1, none⟩ = false := B1.out.frozen 1
  have c2 : w1.cell? ⟨g, 2, none⟩ = some (.int .u64 (c : Nat)) := B1.out.cell 2
  have f2 : w1.frozen? ⟨g, 2, none⟩ = false := B1.out.frozen 2
  have c3 : w1.cell? ⟨g, 3, none⟩ = some (.int .u64 (d : Nat)) := B1.out.cell 3
  have f3 : w1.frozen? ⟨g, 3, none⟩ = false := B1.out.frozen 3
  -- statement 1
  have ur := rotN_u 13 ub
  have hr := rot_13 b
  generalize hq : rotN b 13 = q1 at ur hr
  have Q1 := Lib.hid hq
  clear hq
  have HR1 := Lib.hid hr
  clear hr
  have e1 := xor_out ur ua1
  have uu := xor_u ur ua1
  obtain ⟨b2, hz⟩ : ∃ z, z = q1 ^^^ a1 := ⟨_, rfl⟩
  rw [← hz] at e1 uu
  have Z1 := Lib.hid hz
  have ub2 : U b2 := uu
  clear hz uu ur
  refine wp_region_still_tail 13 (by kernel_rfl) (by kernel_rfl) ?_
  change wpStill _ _ w1.drew (fun a' => wpList _ _ _ _ a' w1.drew) _ _
  have X1 : Hid (Blk w1.drew g 81 (stCells a1 b c d m n)) := B1.out
  have Y1 : Hid (Far (only g) w w1.drew) := F1.out.drew
  clear c0 c1 c2 c3 f0 f1 f2 f3
  generalize w1.drew = x1 at *
  have c0 : x1.cell? ⟨g, 0, none⟩ = some (.int .u64 (a1 : Nat)) := X1.out.cell 0
  have f0 : x1.frozen? ⟨g, 0, none⟩ = false := X1.out.frozen 0
  have c1 : x1.cell? ⟨g, 1, none⟩ = some (.int .u64 (b : Nat)) := X1.out.cell 1
  have f1 : x1.frozen? ⟨g, 1, none⟩ = false := X1.out.frozen 1
  have c2 : x1.cell? ⟨g, 2, none⟩ = some (.int .u64 (c : Nat)) := X1.out.cell 2
  have f2 : x1.frozen? ⟨g, 2, none⟩ = false := X1.out.frozen 2
  have c3 : x1.cell? ⟨g, 3, none⟩ = some (.int .u64 (d : Nat)) := X1.out.cell 3
  have f3 : x1.frozen? ⟨g, 3, none⟩ = false := X1.out.frozen 3
  simp only [List.take_succ_cons, List.take_zero, List.drop_succ_cons, List.drop_zero]
  repeat (first | still_step | still_call (still (HR1.out _ ub)))
  refine wpStill_nil ?_
  go_wp2_with fail
  clear c0 c1 c2 c3 f0 f1 f2 f3 e1
  have B2 : Hid (Blk (x1.setCell ⟨g, 1, none⟩ (.int .u64 (b2 : Nat))) g 81 (stCells a1 b2 c d m n)) := X1.out.set_ 1 _
  have F2 : Hid (Far (only g) w (x1.setCell ⟨g, 1, none⟩ (.int .u64 (b2 : Nat)))) := Y1.out.set_ (p := ⟨g, 1, none⟩) (fun _ => show g = g from rfl) _
  generalize x1.setCell ⟨g, 1, none⟩ (.int .u64 (b2 : Nat)) = w2 at *
  have c0 : w2.cell? ⟨g, 0, none⟩ = some (.int .u64 (a1 : Nat)) := B2.out.cell 0
  have f0 : w2.frozen? ⟨g, 0, none⟩ = false := B2.out.frozen 0
  have c1 : w2.cell? ⟨g, 1, none⟩ = some (.int .u64 (b2 : Nat)) := B2.out.cell 1
  have f1 : w2.frozen? ⟨g, 1, none⟩ = false := B2.out.frozen 1
  have c2 : w2.cell? ⟨g, 2, none⟩ = some (.int .u64 (c : Nat)) := B2.out.cell 2
  have f2 : w2.frozen? ⟨g, 2, none⟩ = false := B2.out.frozen 2
  have c3 : w2.cell? ⟨g, 3, none⟩ = some (.int .u64 (d : Nat)) := B2.out.cell 3
  have f3 : w2.frozen? ⟨g, 3, none⟩ = false := B2.out.frozen 3
  -- statement 2
  have uu := rotN_u 32 ua1
  have hr := rot_32 a1
  generalize hz : rotN a1 32 = a3 at uu hr
  have Z2 := Lib.hid hz
  have ua3 : U a3 := uu
  have HR2 := Lib.hid hr
  clear hz uu hr
  have X2 := B2
  have Y2 := F2
  go_wp2_with (go_at_call 53; (with_reducible refine (HR2.out _ ua1).mono ?_); rintro e w' ⟨rfl, rfl⟩)
  clear c0 c1 c2 c3 f0 f1 f2 f3
  have B3 : Hid (Blk (w2.setCell ⟨g, 0, none⟩ (.int .u64 (a3 : Nat))) g 81 (stCells a3 b2 c d m n)) := X2.out.set_ 0 _
  have F3 : Hid (Far (only g) w (w2.setCell ⟨g, 0, none⟩ (.int .u64 (a3 : Nat)))) := Y2.out.set_ (p := ⟨g, 0, none⟩) (fun _ => show g = g from rfl) _
  generalize w2.setCell ⟨g, 0, none⟩ (.int .u64 (a3 : Nat)) = w3 at *
  have c0 : w3.cell? ⟨g, 0, none⟩ = some (.int .u64 (a3 : Nat)) := B3.out.cell 0
  have f0 : w3.frozen? ⟨g, 0, none⟩ = false := B3.out.frozen 0
  have c1 : w3.cell? ⟨g, 1, none⟩ = some (.int .u64 (b2 : Nat)) := B3.out.cell 1
  have f1 : w3.frozen? ⟨g, 1, none⟩ = false := B3.out.frozen 1
  have c2 : w3.cell? ⟨g, 2, none⟩ = some (.int .u64 (c : Nat)) := B3.out.cell 2
  have f2 : w3.frozen? ⟨g, 2, none⟩ = false := B3.out.frozen 2
  have c3 : w3.cell? ⟨g, 3, none⟩ = some (.int .u64 (d : Nat)) := B3.out.cell 3
  have f3 : w3.frozen? ⟨g, 3, none⟩ = false := B3.out.frozen 3
  -- statement 3
  have e3 := add_out c d
  have uu := addN_u c d
  obtain ⟨c4, hz⟩ : ∃ z, z = addN c d := ⟨_, rfl⟩
  rw [← hz] at e3 uu
  have Z3 := Lib.hid hz
  have uc4 : U c4 := uu
  clear hz uu
  refine wp_region_still_tail 11 (by kernel_rfl) (by kernel_rfl) ?_
  change wpStill _ _ w3.drew (fun a' => wpList _ _ _ _ a' w3.drew) _ _
  have X3 : Hid (Blk w3.drew g 81 (stCells a3 b2 c d m n)) := B3.out
  have Y3 : Hid (Far (only g) w w3.drew) := F3.out.drew
  clear c0 c1 c2 c3 f0 f1 f2 f3
  generalize w3.drew = x3 at *
  have c0 : x3.cell? ⟨g, 0, none⟩ = some (.int .u64 (a3 : Nat)) := X3.out.cell 0
  have f0 : x3.frozen? ⟨g, 0, none⟩ = false := X3.out.frozen 0
  have c1 : x3.cell? ⟨g, 1, none⟩ = some (.int .u64 (b2 : Nat)) := X3.out.cell 1
  have f1 : x3.frozen? ⟨g, 1, none⟩ = false := X3.out.frozen 1
  have c2 : x3.cell? ⟨g, 2, none⟩ = some (.int .u64 (c : Nat)) := X3.out.cell 2
  have f2 : x3.frozen? ⟨g, 2, none⟩ = false := X3.out.frozen 2
  have c3 : x3.cell? ⟨g, 3, none⟩ = some (.int .u64 (d : Nat)) := X3.out.cell 3
  have f3 : x3.frozen? ⟨g, 3, none⟩ = false := X3.out.frozen 3
  simp only [List.take_succ_cons, List.take_zero, List.drop_succ_cons, List.drop_zero]
  repeat (first | still_step)
  refine wpStill_nil ?_
  go_wp2_with fail
  clear c0 c1 c2 c3 f0 f1 f2 f3 e3
  have B4 : Hid (Blk (x3.setCell ⟨g, 2, none⟩ (.int .u64 (c4 : Nat))) g 81 (stCells a3 b2 c4 d m n)) := X3.out.set_ 2 _
  have F4 : Hid (Far (only g) w (x3.setCell ⟨g, 2, none⟩ (.int .u64 (c4 : Nat)))) := Y3.out.set_ (p := ⟨g, 2, none⟩) (fun _ => show g = g from rfl) _
  generalize x3.setCell ⟨g, 2, none⟩ (.int .u64 (c4 : Nat)) = w4 at *
  have c0 : w4.cell? ⟨g, 0, none⟩ = some (.int .u64 (a3 : Nat)) := B4.out.cell 0
  have f0 : w4.frozen? ⟨g, 0, none⟩ = false := B4.out.frozen 0
  have c1 : w4.cell? ⟨g, 1, none⟩ = some (.int .u64 (b2 : Nat)) := B4.out.cell 1
  have f1 : w4.frozen? ⟨g, 1, none⟩ = false := B4.out.frozen 1
  have c2 : w4.cell? ⟨g, 2, none⟩ = some (.int .u64 (c4 : Nat)) := B4.out.cell 2
  have f2 : w4.frozen? ⟨g, 2, none⟩ = false := B4.out.frozen 2
  have c3 : w4.cell? ⟨g, 3, none⟩ = some (.int .u64 (d : Nat)) := B4.out.cell 3
  have f3 : w4.frozen? ⟨g, 3, none⟩ = false := B4.out.frozen 3
  -- statement 4
  have ur := rotN_u 16 ud
  have hr := rot_16 d
  generalize hq : rotN d 16 = q4 at ur hr
  have Q4 := Lib.hid hq
  clear hq
  have HR4 := Lib.hid hr
  clear hr
  have e4 := xor_out ur uc4
  have uu := xor_u ur uc4
  obtain ⟨d5, hz⟩ : ∃ z, z = q4 ^^^ c4 := ⟨_, rfl⟩
  rw [← hz] at e4 uu
  have Z4 := Lib.hid hz
  have ud5 : U d5 := uu
  clear hz uu ur
  refine wp_region_still_tail 13 (by kernel_rfl) (by kernel_rfl) ?_
  change wpStill _ _ w4.drew (fun a' => wpList _ _ _ _ a' w4.drew) _ _
  have X4 : Hid (Blk w4.drew g 81 (stCells a3 b2 c4 d m n)) := B4.out
  have Y4 : Hid (Far (only g) w w4.drew) := F4.out.drew
  clear c0 c1 c2 c3 f0 f1 f2 f3
  generalize w4.drew = x4 at *
  have c0 : x4.cell? ⟨g, 0, none⟩ = some (.int .u64 (a3 : Nat)) := X4.out.cell 0
  have f0 : x4.frozen? ⟨g, 0, none⟩ = false := X4.out.frozen 0
  have c1 : x4.cell? ⟨g, 1, none⟩ = some (.int .u64 (b2 : Nat)) := X4.out.cell 1
  have f1 : x4.frozen? ⟨g, 1, none⟩ = false := X4.out.frozen 1
  have c2 : x4.cell? ⟨g, 2, none⟩ = some (.int .u64 (c4 : Nat)) := X4.out.cell 2
  have f2 : x4.frozen? ⟨g, 2, none⟩ = false := X4.out.frozen 2
  have c3 : x4.cell? ⟨g, 3, none⟩ = some (.int .u64 (d : Nat)) := X4.out.cell 3
  have f3 : x4.frozen? ⟨g, 3, none⟩ = false := X4.out.frozen 3
  simp only [List.take_succ_cons, List.take_zero, List.drop_succ_cons, List.drop_zero]
  repeat (first | still_step | still_call (still (HR4.out _ ud)))
  refine wpStill_nil ?_
  go_wp2_with fail
  clear c0 c1 c2 c3 f0 f1 f2 f3 e4
  have B5 : Hid (Blk (x4.setCell ⟨g, 3, none⟩ (.int .u64 (d5 : Nat))) g 81 (stCells a3 b2 c4 d5 m n)) := X4.out.set_ 3 _
  have F5 : Hid (Far (only g) w (x4.setCell ⟨g, 3, none⟩ (.int .u64 (d5 : Nat)))) := Y4.out.set_ (p := ⟨g, 3, none⟩) (fun _ => show g = g from rfl) _
  generalize x4.setCell ⟨g, 3, none⟩ (.int .u64 (d5 : Nat)) = w5 at *
  have c0 : w5.cell? ⟨g, 0, none⟩ = some (.int .u64 (a3 : Nat)) := B5.out.cell 0
  have f0 : w5.frozen? ⟨g, 0, none⟩ = false := B5.out.frozen 0
  have c1 : w5.cell? ⟨g, 1, none⟩ = some (.int .u64 (b2 : Nat)) := B5.out.cell 1
  have f1 : w5.frozen? ⟨g, 1, none⟩ = false := B5.out.frozen 1
  have c2 : w5.cell? ⟨g, 2, none⟩ = some (.int .u64 (c4 : Nat)) := B5.out.cell 2
  have f2 : w5.frozen? ⟨g, 2, none⟩ = false := B5.out.frozen 2
  have c3 : w5.cell? ⟨g, 3, none⟩ = some (.int .u64 (d5 : Nat)) := B5.out.cell 3
  have f3 : w5.frozen? ⟨g, 3, none⟩ = false := B5.out.frozen 3
  -- statement 5
  have e5 := add_out a3 d5
  have uu := addN_u a3 d5
  obtain ⟨a6, hz⟩ : ∃ z, z = addN a3 d5 := ⟨_, rfl⟩
  rw [← hz] at e5 uu
  have Z5 := Lib.hid hz
  have ua6 : U a6 := uu
  clear hz uu
  refine wp_region_still_tail 11 (by kernel_rfl) (by kernel_rfl) ?_
  change wpStill _ _ w5.drew (fun a' => wpList _ _ _ _ a' w5.drew) _ _
  have X5 : Hid (Blk w5.drew g 81 (stCells a3 b2 c4 d5 m n)) := B5.out
  have Y5 : Hid (Far (only g) w w5.drew) := F5.out.drew
  clear c0 c1 c2 c3 f0 f1 f2 f3
  generalize w5.drew = x5 at *
  have c0 : x5.cell? ⟨g, 0, none⟩ = some (.int .u64 (a3 : Nat)) := X5.out.cell 0
  have f0 : x5.frozen? ⟨g, 0, none⟩ = false := X5.out.frozen 0
  have c1 : x5.cell? ⟨g, 1, none⟩ = some (.int .u64 (b2 : Nat)) := X5.out.cell 1
  have f1 : x5.frozen? ⟨g, 1, none⟩ = false := X5.out.frozen 1
  have c2 : x5.cell? ⟨g, 2, none⟩ = some (.int .u64 (c4 : Nat)) := X5.out.cell 2
  have f2 : x5.frozen? ⟨g, 2, none⟩ = false := X5.out.frozen 2
  have c3 : x5.cell? ⟨g, 3, none⟩ = some (.int .u64 (d5 : Nat)) := X5.out.cell 3
  have f3 : x5.frozen? ⟨g, 3, none⟩ = false := X5.out.frozen 3
  simp only [List.take_succ_cons, List.take_zero, List.drop_succ_cons, List.drop_zero]
  repeat (first | still_step)
  refine wpStill_nil ?_
  go_wp2_with fail
  clear c0 c1 c2 c3 f0 f1 f2 f3 e5
  have B6 : Hid (Blk (x5.setCell ⟨g, 0, none⟩ (.int .u64 (a6 : Nat))) g 81 (stCells a6 b2 c4 d5 m n)) := X5.out.set_ 0 _
  have F6 : Hid (Far (only g) w (x5.setCell ⟨g, 0, none⟩ (.int .u64 (a6 : Nat)))) := Y5.out.set_ (p := ⟨g, 0, none⟩) (fun _ => show g = g from rfl) _
  generalize x5.setCell ⟨g, 0, none⟩ (.int .u64 (a6 : Nat)) = w6 at *
  have c0 : w6.cell? ⟨g, 0, none⟩ = some (.int .u64 (a6 : Nat)) := B6.out.cell 0
  have f0 : w6.frozen? ⟨g, 0, none⟩ = false := B6.out.frozen 0
  have c1 : w6.cell? ⟨g, 1, none⟩ = some (.int .u64 (b2 : Nat)) := B6.out.cell 1
  have f1 : w6.frozen? ⟨g, 1, none⟩ = false := B6.out.frozen 1
  have c2 : w6.cell? ⟨g, 2, none⟩ = some (.int .u64 (c4 : Nat)) := B6.out.cell 2
  have f2 : w6.frozen? ⟨g, 2, none⟩ = false := B6.out.frozen 2
  have c3 : w6.cell? ⟨g, 3, none⟩ = some (.int .u64 (d5 : Nat)) := B6.out.cell 3
  have f3 : w6.frozen? ⟨g, 3, none⟩ = false := B6.out.frozen 3
  -- statement 6
  have ur := rotN_u 21 ud5
  have hr := rot_21 d5
  generalize hq : rotN d5 21 = q6 at ur hr
  have Q6 := Lib.hid hq
  clear hq
  have HR6 := Lib.hid hr
  clear hr
  have e6 := xor_out ur ua6
  have uu := xor_u ur ua6
  obtain ⟨d7, hz⟩ : ∃ z, z = q6 ^^^ a6 := ⟨_, rfl⟩
  rw [← hz] at e6 uu
  have Z6 := Lib.hid hz
  have ud7 : U d7 := uu
  clear hz uu ur
  refine wp_region_still_tail 13 (by kernel_rfl) (by kernel_rfl) ?_
  change wpStill _ _ w6.drew (fun a' => wpList _ _ _ _ a' w6.drew) _ _
  have X6 : Hid (Blk w6.drew g 81 (stCells a6 b2 c4 d5 m n)) := B6.out
  have Y6 : Hid (Far (only g) w w6.drew) := F6.out.drew
  clear c0 c1 c2 c3 f0 f1 f2 f3
  generalize w6.drew = x6 at *
  have c0 : x6.cell? ⟨g, 0, none⟩ = some (.int .u64 (a6 : Nat)) := X6.out.cell 0
  have f0 : x6.frozen? ⟨g, 0, none⟩ = false := X6.out.frozen 0
  have c1 : x6.cell? ⟨g, 1, none⟩ = some (.int .u64 (b2 : Nat)) := X6.out.cell 1
  have f1 : x6.frozen? ⟨g, 1, none⟩ = false := X6.out.frozen 1
  have c2 : x6.cell? ⟨g, 2, none⟩ = some (.int .u64 (c4 : Nat)) := X6.out.cell 2
  have f2 : x6.frozen? ⟨g, 2, none⟩ = false := X6.out.frozen 2
  have c3 : x6.cell? ⟨g, 3, none⟩ = some (.int .u64 (d5 : Nat)) := X6.out.cell 3
  have f3 : x6.frozen? ⟨g, 3, none⟩ = false := X6.out.frozen 3
  simp only [List.take_succ_cons, List.take_zero, List.drop_succ_cons, List.drop_zero]
  repeat (first | still_step | still_call (still (HR6.out _ ud5)))
  refine wpStill_nil ?_
  go_wp2_with fail
  clear c0 c1 c2 c3 f0 f1 f2 f3 e6
  have B7 : Hid (Blk (x6.setCell ⟨g, 3, none⟩ (.int .u64 (d7 : Nat))) g 81 (stCells a6 b2 c4 d7 m n)) := X6.out.set_ 3 _
  have F7 : Hid (Far (only g) w (x6.setCell ⟨g, 3, none⟩ (.int .u64 (d7 : Nat)))) := Y6.out.set_ (p := ⟨g, 3, none⟩) (fun _ => show g = g from rfl) _
  generalize x6.setCell ⟨g, 3, none⟩ (.int .u64 (d7 : Nat)) = w7 at *
  have c0 : w7.cell? ⟨g, 0, none⟩ = some (.int .u64 (a6 : Nat)) := B7.out.cell 0
  have f0 : w7.frozen? ⟨g, 0, none⟩ = false := B7.out.frozen 0
  have c1 : w7.cell? ⟨g, 1, none⟩ = some (.int .u64 (b2 : Nat)) := B7.out.cell 1
  have f1 : w7.frozen? ⟨g, 1, none⟩ = false := B7.out.frozen 1
  have c2 : w7.cell? ⟨g, 2, none⟩ = some (.int .u64 (c4 : Nat)) := B7.out.cell 2
  have f2 : w7.frozen? ⟨g, 2, none⟩ = false := B7.out.frozen 2
  have c3 : w7.cell? ⟨g, 3, none⟩ = some (.int .u64 (d7 : Nat)) := B7.out.cell 3
  have f3 : w7.frozen? ⟨g, 3, none⟩ = false := B7.out.frozen 3
  -- statement 7
  have e7 := add_out c4 b2
  have uu := addN_u c4 b2
  obtain ⟨c8, hz⟩ : ∃ z, z = addN c4 b2 := ⟨_, rfl⟩
  rw [← hz] at e7 uu
  have Z7 := Lib.hid hz
  have uc8 : U c8 := uu
  clear hz uu
  refine wp_region_still_tail 11 (by kernel_rfl) (by kernel_rfl) ?_
  change wpStill _ _ w7.drew (fun a' => wpList _ _ _ _ a' w7.drew) _ _
  have X7 : Hid (Blk w7.drew g 81 (stCells a6 b2 c4 d7 m n)) := B7.out
  have Y7 : Hid (Far (only g) w w7.drew) := F7.out.drew
  clear c0 c1 c2 c3 f0 f1 f2 f3
  generalize w7.drew = x7 at *
  have c0 : x7.cell? ⟨g, 0, none⟩ = some (.int .u64 (a6 : Nat)) := X7.out.cell 0
  have f0 : x7.frozen? ⟨g, 0, none⟩ = false := X7.out.frozen 0
  have c1 : x7.cell? ⟨g, 1, none⟩ = some (.int .u64 (b2 : Nat)) := X7.out.cell 1
  have f1 : x7.frozen? ⟨g, 1, none⟩ = false := X7.out.frozen 1
  have c2 : x7.cell? ⟨g, 2, none⟩ = some (.int .u64 (c4 : Nat)) := X7.out.cell 2
  have f2 : x7.frozen? ⟨g, 2, none⟩ = false := X7.out.frozen 2
  have c3 : x7.cell? ⟨g, 3, none⟩ = some (.int .u64 (d7 : Nat)) := X7.out.cell 3
  have f3 : x7.frozen? ⟨g, 3, none⟩ = false := X7.out.frozen 3
  simp only [List.take_succ_cons, List.take_zero, List.drop_succ_cons, List.drop_zero]
  repeat (first | still_step)
  refine wpStill_nil ?_
  go_wp2_with fail
  clear c0 c1 c2 c3 f0 f1 f2 f3 e7
  have B8 : Hid (Blk (x7.setCell ⟨g, 2, none⟩ (.int .u64 (c8 : Nat))) g 81 (stCells a6 b2 c8 d7 m n)) := X7.out.set_ 2 _
  have F8 : Hid (Far (only g) w (x7.setCell ⟨g, 2, none⟩ (.int .u64 (c8 : Nat)))) := Y7.out.set_ (p := ⟨g, 2, none⟩) (fun _ => show g = g from rfl) _
  generalize x7.setCell ⟨g, 2, none⟩ (.int .u64 (c8 : Nat)) = w8 at *
  have c0 : w8.cell? ⟨g, 0, none⟩ = some (.int .u64 (a6 : Nat)) := B8.out.cell 0
  have f0 : w8.frozen? ⟨g, 0, none⟩ = false := B8.out.frozen 0
  have c1 : w8.cell? ⟨g, 1, none⟩ = some (.int .u64 (b2 : Nat)) := B8.out.cell 1
  have f1 : w8.frozen? ⟨g, 1, none⟩ = false := B8.out.frozen 1
  have c2 : w8.cell? ⟨g, 2, none⟩ = some (.int .u64 (c8 : Nat)) := B8.out.cell 2
  have f2 : w8.frozen? ⟨g, 2, none⟩ = false := B8.out.frozen 2
  have c3 : w8.cell? ⟨g, 3, none⟩ = some (.int .u64 (d7 : Nat)) := B8.out.cell 3
  have f3 : w8.frozen? ⟨g, 3, none⟩ = false := B8.out.frozen 3
  -- statement 8
  have ur := rotN_u 17 ub2
  have hr := rot_17 b2
  generalize hq : rotN b2 17 = q8 at ur hr
  have Q8 := Lib.hid hq
  clear hq
  have HR8 := Lib.hid hr
  clear hr
  have e8 := xor_out ur uc8
  have uu := xor_u ur uc8
  obtain ⟨b9, hz⟩ : ∃ z, z = q8 ^^^ c8 := ⟨_, rfl⟩
  rw [← hz] at e8 uu
  have Z8 := Lib.hid hz
  have ub9 : U b9 := uu
  clear hz uu ur
  refine wp_region_still_tail 13 (by kernel_rfl) (by kernel_rfl) ?_
  change wpStill _ _ w8.drew (fun a' => wpList _ _ _ _ a' w8.drew) _ _
  have X8 : Hid (Blk w8.drew g 81 (stCells a6 b2 c8 d7 m n)) := B8.out
  have Y8 : Hid (Far (only g) w w8.drew) := F8.out.drew
  clear c0 c1 c2 c3 f0 f1 f2 f3
  generalize w8.drew = x8 at *
  have c0 : x8.cell? ⟨g, 0, none⟩ = some (.int .u64 (a6 : Nat)) := X8.out.cell 0
  have f0 : x8.frozen? ⟨g, 0, none⟩ = false := X8.out.frozen 0
  have c1 : x8.cell? ⟨g, 1, none⟩ = some (.int .u64 (b2 : Nat)) := X8.out.cell 1
  have f1 : x8.frozen? ⟨g, 1, none⟩ = false := X8.out.frozen 1
  have c2 : x8.cell? ⟨g, 2, none⟩ = some (.int .u64 (c8 : Nat)) := X8.out.cell 2
  have f2 : x8.frozen? ⟨g, 2, none⟩ = false := X8.out.frozen 2
  have c3 : x8.cell? ⟨g, 3, none⟩ = some (.int .u64 (d7 : Nat)) := X8.out.cell 3
  have f3 : x8.frozen? ⟨g, 3, none⟩ = false := X8.out.frozen 3
  simp only [List.take_succ_cons, List.take_zero, List.drop_succ_cons, List.drop_zero]
  repeat (first | still_step | still_call (still (HR8.out _ ub2)))
  refine wpStill_nil ?_
  go_wp2_with fail
  clear c0 c1 c2 c3 f0 f1 f2 f3 e8
  have B9 : Hid (Blk (x8.setCell ⟨g, 1, none⟩ (.int .u64 (b9 : Nat))) g 81 (stCells a6 b9 c8 d7 m n)) := X8.out.set_ 1 _
  have F9 : Hid (Far (only g) w (x8.setCell ⟨g, 1, none⟩ (.int .u64 (b9 : Nat)))) := Y8.out.set_ (p := ⟨g, 1, none⟩) (fun _ => show g = g from rfl) _
  generalize x8.setCell ⟨g, 1, none⟩ (.int .u64 (b9 : Nat)) = w9 at *
  have c0 : w9.cell? ⟨g, 0, none⟩ = some (.int .u64 (a6 : Nat)) := B9.out.cell 0
  have f0 : w9.frozen? ⟨g, 0, none⟩ = false := B9.out.frozen 0
  have c1 : w9.cell? ⟨g, 1, none⟩ = some (.int .u64 (b9 : Nat)) := B9.out.cell 1
  have f1 : w9.frozen? ⟨g, 1, none⟩ = false := B9.out.frozen 1
  have c2 : w9.cell? ⟨g, 2, none⟩ = some (.int .u64 (c8 : Nat)) := B9.out.cell 2
  have f2 : w9.frozen? ⟨g, 2, none⟩ = false := B9.out.frozen 2
  have c3 : w9.cell? ⟨g, 3, none⟩ = some (.int .u64 (d7 : Nat)) := B9.out.cell 3
  have f3 : w9.frozen? ⟨g, 3, none⟩ = false := B9.out.frozen 3
  -- statement 9
  have uu := rotN_u 32 uc8
  have hr := rot_32 c8
  generalize hz : rotN c8 32 = c10 at uu hr
  have Z9 := Lib.hid hz
  have uc10 : U c10 := uu
  have HR9 := Lib.hid hr
  clear hz uu hr
  have X9 := B9
  have Y9 := F9
  go_wp2_with (go_at_call 53; (with_reducible refine (HR9.out _ uc8).mono ?_); rintro e w' ⟨rfl, rfl⟩)
  clear c0 c1 c2 c3 f0 f1 f2 f3
  have B10 : Hid (Blk (w9.setCell ⟨g, 2, none⟩ (.int .u64 (c10 : Nat))) g 81 (stCells a6 b9 c10 d7 m n)) := X9.out.set_ 2 _
  have F10 : Hid (Far (only g) w (w9.setCell ⟨g, 2, none⟩ (.int .u64 (c10 : Nat)))) := Y9.out.set_ (p := ⟨g, 2, none⟩) (fun _ => show g = g from rfl) _
  generalize w9.setCell ⟨g, 2, none⟩ (.int .u64 (c10 : Nat)) = w10 at *
  have c0 : w10.cell? ⟨g, 0, none⟩ = some (.int .u64 (a6 : Nat)) := B10.out.cell 0
  have f0 : w10.frozen? ⟨g, 0, none⟩ = false := B10.out.frozen 0
  have c1 : w10.cell? ⟨g, 1, none⟩ = some (.int .u64 (b9 : Nat)) := B10.out.cell 1
  have f1 : w10.frozen? ⟨g, 1, none⟩ = false := B10.out.frozen 1
  have c2 : w10.cell? ⟨g, 2, none⟩ = some (.int .u64 (c10 : Nat)) := B10.out.cell 2
  have f2 : w10.frozen? ⟨g, 2, none⟩ = false := B10.out.frozen 2
  have c3 : w10.cell? ⟨g, 3, none⟩ = some (.int .u64 (d7 : Nat)) := B10.out.cell 3
  have f3 : w10.frozen? ⟨g, 3, none⟩ = false := B10.out.frozen 3
  go_end0
  refine ⟨rfl, ?_, F10.out⟩
  have HB := B10.out
  rw [← Z9.out, Z8.out, ← Q8.out, Z7.out, Z6.out, ← Q6.out, Z5.out, Z4.out, ← Q4.out, Z3.out, ← Z2.out, Z1.out, ← Q1.out, Z0.out] at HB
  exact HB
end Go.Proofs.Ytfhlgmmfknfamaa.kd.summ
