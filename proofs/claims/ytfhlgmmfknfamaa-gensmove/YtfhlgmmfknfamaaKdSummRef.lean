/- The contract of the document's round. Conditions: those of each theorem. -/
import Derived.Test.YtfhlgmmfknfamaaKdSummSum
namespace Go.Proofs.Ytfhlgmmfknfamaa.kd.summ
open Go.RowKit

/-- Four numbers as cells. -/
def vCells (a b c d : Nat) : List Value := [.int .u64 (a : Nat), .int .u64 (b : Nat), .int .u64 (c : Nat), .int .u64 (d : Nat)]
/-- What the round's memory is: its variable, its result, and what was there. -/
structure RefRel (w : World) (a b c d : Nat) (w' : World) : Prop where
  own : Blk w' w.heap.size 85 (vCells a b c d)
  res : Blk w' (w.heap.size + 1) 85 [.int .u64 0, .int .u64 0, .int .u64 0, .int .u64 0]
  be : Below w.heap.size w w'
theorem RefRel.new (a b c d : Nat) (w : World) : RefRel w a b c d ((w.alloc (.cells #[.int .u64 (a : Nat), .int .u64 (b : Nat), .int .u64 (c : Nat), .int .u64 (d : Nat)] 85)).alloc (.cells #[.int .u64 0, .int .u64 0, .int .u64 0, .int .u64 0] 85)) := by
  refine ⟨(Blk.new w 85 (vCells a b c d)).alloc _, ?_, ((Below.refl _ w).alloc (Nat.le_refl _) _).alloc (by simp) _⟩
  have := Blk.new (w.alloc (.cells #[.int .u64 (a : Nat), .int .u64 (b : Nat), .int .u64 (c : Nat), .int .u64 (d : Nat)] 85)) 85 [.int .u64 0, .int .u64 0, .int .u64 0, .int .u64 0]
  rw [show (w.alloc (.cells #[.int .u64 (a : Nat), .int .u64 (b : Nat), .int .u64 (c : Nat), .int .u64 (d : Nat)] 85)).heap.size = w.heap.size + 1 by simp] at this
  exact this
theorem RefRel.drew {w w' : World} {a b c d : Nat} (h : RefRel w a b c d w') : RefRel w a b c d w'.drew := ⟨h.own, h.res, h.be.drew⟩
theorem RefRel.set0 {w w' : World} {a b c d : Nat} (h : RefRel w a b c d w') (z : Nat) : RefRel w z b c d (w'.setCell ⟨w.heap.size, 0, none⟩ (.int .u64 (z : Nat))) :=
  ⟨h.own.set_ 0 _, h.res.other (by simp) _, h.be.setCell (by simp) _⟩
theorem RefRel.set1 {w w' : World} {a b c d : Nat} (h : RefRel w a b c d w') (z : Nat) : RefRel w a z c d (w'.setCell ⟨w.heap.size, 1, none⟩ (.int .u64 (z : Nat))) :=
  ⟨h.own.set_ 1 _, h.res.other (by simp) _, h.be.setCell (by simp) _⟩
theorem RefRel.set2 {w w' : World} {a b c d : Nat} (h : RefRel w a b c d w') (z : Nat) : RefRel w a b z d (w'.setCell ⟨w.heap.size, 2, none⟩ (.int .u64 (z : Nat))) :=
  ⟨h.own.set_ 2 _, h.res.other (by simp) _, h.be.setCell (by simp) _⟩
theorem RefRel.set3 {w w' : World} {a b c d : Nat} (h : RefRel w a b c d w') (z : Nat) : RefRel w a b c z (w'.setCell ⟨w.heap.size, 3, none⟩ (.int .u64 (z : Nat))) :=
  ⟨h.own.set_ 3 _, h.res.other (by simp) _, h.be.setCell (by simp) _⟩

set_option maxRecDepth 100000 in
set_option maxHeartbeats 4000000 in
theorem ref_round (v : V4) (w : World) (hv : v.Ok) : Calls Try.prog 48 #[.agg #[.int .u64 (v.a : Nat), .int .u64 (v.b : Nat), .int .u64 (v.c : Nat), .int .u64 (v.d : Nat)]] w fun e w' => e = .returned (.agg #[.int .u64 ((rnd v).a : Nat), .int .u64 ((rnd v).b : Nat), .int .u64 ((rnd v).c : Nat), .int .u64 ((rnd v).d : Nat)]) ∧ Below w.heap.size w w' := by
  obtain ⟨a, b, c, d⟩ := v
  obtain ⟨ua, ub, uc, ud⟩ := hv
  obtain ⟨r, hr⟩ : ∃ r, rnd ⟨a, b, c, d⟩ = r := ⟨_, rfl⟩
  have HRR := Lib.hid hr
  rw [hr]
  clear hr
  obtain ⟨ra, rb, rc, rd⟩ := r
  have R0 := Lib.hid (RefRel.new a b c d w)
  simp only [] at ua ub uc ud
  go_enter Try.func48, Try.ntmps48
  go_upto_region 1 with (fail)
  generalize (w.alloc (.cells #[.int .u64 (a : Nat), .int .u64 (b : Nat), .int .u64 (c : Nat), .int .u64 (d : Nat)] 85)).alloc (.cells #[.int .u64 0, .int .u64 0, .int .u64 0, .int .u64 0] 85) = w0 at *
  have c0 : w0.cell? ⟨w.heap.size, 0, none⟩ = some (.int .u64 (a : Nat)) := R0.out.own.cell 0
  have f0 : w0.frozen? ⟨w.heap.size, 0, none⟩ = false := R0.out.own.frozen 0
  have c1 : w0.cell? ⟨w.heap.size, 1, none⟩ = some (.int .u64 (b : Nat)) := R0.out.own.cell 1
  have f1 : w0.frozen? ⟨w.heap.size, 1, none⟩ = false := R0.out.own.frozen 1
  have c2 : w0.cell? ⟨w.heap.size, 2, none⟩ = some (.int .u64 (c : Nat)) := R0.out.own.cell 2
  have f2 : w0.frozen? ⟨w.heap.size, 2, none⟩ = false := R0.out.own.frozen 2
  have c3 : w0.cell? ⟨w.heap.size, 3, none⟩ = some (.int .u64 (d : Nat)) := R0.out.own.cell 3
  have f3 : w0.frozen? ⟨w.heap.size, 3, none⟩ = false := R0.out.own.frozen 3
  -- statement 0
  have e0 := add_out a b
  have uu := addN_u a b
  obtain ⟨a1, hz⟩ : ∃ z, z = addN a b := ⟨_, rfl⟩
  rw [← hz] at e0 uu
  have Z0 := Lib.hid hz
  have ua1 : U a1 := uu
  clear hz uu
  have X0 := R0
  go_upto_region 2 with (fail)
  clear c0 c1 c2 c3 f0 f1 f2 f3 e0
  have R1 : Hid (RefRel w a1 b c d (w0.setCell ⟨w.heap.size, 0, none⟩ (.int .u64 (a1 : Nat)))) := X0.out.set0 _
  generalize w0.setCell ⟨w.heap.size, 0, none⟩ (.int .u64 (a1 : Nat)) = w1 at *
  have c0 : w1.cell? ⟨w.heap.size, 0, none⟩ = some (.int .u64 (a1 : Nat)) := R1.out.own.cell 0
  have f0 : w1.frozen? ⟨w.heap.size, 0, none⟩ = false := R1.out.own.frozen 0
  have c1 : w1.cell? ⟨w.heap.size, 1, none⟩ = some (.int .u64 (b : Nat)) := R1.out.own.cell 1
  have f1 : w1.frozen? ⟨w.heap.size, 1, none⟩ = false := R1.out.own.frozen 1
  have c2 : w1.cell? ⟨w.heap.size, 2, none⟩ = some (.int .u64 (c : Nat)) := R1.out.own.cell 2
  have f2 : w1.frozen? ⟨w.heap.size, 2, none⟩ = false := R1.out.own.frozen 2
  have c3 : w1.cell? ⟨w.heap.size, 3, none⟩ = some (.int .u64 (d : Nat)) := R1.out.own.cell 3
  have f3 : w1.frozen? ⟨w.heap.size, 3, none⟩ = false := R1.out.own.frozen 3
  -- statement 1
  have ur := rotN_u 13 ub
  have hr := turn_13 b
  generalize hq : rotN b 13 = q1 at ur hr
  have Q1 := Lib.hid hq
  clear hq
  have HR1 := Lib.hid hr
  clear hr
  have e1 := xor_out ur ua1
  have uu := xor_u ur ua1
  obtain ⟨b2, hz⟩ : ∃ z, z = q1 ^^^ a1 := ⟨_, rfl⟩
  rw [← hz] at e1 uu
  have Z1 := Lib.hid hz
  have ub2 : U b2 := uu
  clear hz uu ur
  refine wp_region_still_tail 7 (by kernel_rfl) (by kernel_rfl) ?_
  change wpStill _ _ w1.drew (fun a' => wpList _ _ _ _ a' w1.drew) _ _
  have X1 := Lib.hid R1.out.drew
  clear c0 c1 c2 c3 f0 f1 f2 f3
  generalize w1.drew = x1 at *
  have c0 : x1.cell? ⟨w.heap.size, 0, none⟩ = some (.int .u64 (a1 : Nat)) := X1.out.own.cell 0
  have f0 : x1.frozen? ⟨w.heap.size, 0, none⟩ = false := X1.out.own.frozen 0
  have c1 : x1.cell? ⟨w.heap.size, 1, none⟩ = some (.int .u64 (b : Nat)) := X1.out.own.cell 1
  have f1 : x1.frozen? ⟨w.heap.size, 1, none⟩ = false := X1.out.own.frozen 1
  have c2 : x1.cell? ⟨w.heap.size, 2, none⟩ = some (.int .u64 (c : Nat)) := X1.out.own.cell 2
  have f2 : x1.frozen? ⟨w.heap.size, 2, none⟩ = false := X1.out.own.frozen 2
  have c3 : x1.cell? ⟨w.heap.size, 3, none⟩ = some (.int .u64 (d : Nat)) := X1.out.own.cell 3
  have f3 : x1.frozen? ⟨w.heap.size, 3, none⟩ = false := X1.out.own.frozen 3
  simp only [List.take_succ_cons, List.take_zero, List.drop_succ_cons, List.drop_zero]
  repeat (first | still_step | still_call (still (HR1.out _ ub)))
  refine wpStill_nil ?_
  go_upto_region 3 with (fail)
  clear c0 c1 c2 c3 f0 f1 f2 f3 e1
  have R2 : Hid (RefRel w a1 b2 c d (x1.setCell ⟨w.heap.size, 1, none⟩ (.int .u64 (b2 : Nat)))) := X1.out.set1 _
  generalize x1.setCell ⟨w.heap.size, 1, none⟩ (.int .u64 (b2 : Nat)) = w2 at *
  have c0 : w2.cell? ⟨w.heap.size, 0, none⟩ = some (.int .u64 (a1 : Nat)) := R2.out.own.cell 0
  have f0 : w2.frozen? ⟨w.heap.size, 0, none⟩ = false := R2.out.own.frozen 0
  have c1 : w2.cell? ⟨w.heap.size, 1, none⟩ = some (.int .u64 (b2 : Nat)) := R2.out.own.cell 1
  have f1 : w2.frozen? ⟨w.heap.size, 1, none⟩ = false := R2.out.own.frozen 1
  have c2 : w2.cell? ⟨w.heap.size, 2, none⟩ = some (.int .u64 (c : Nat)) := R2.out.own.cell 2
  have f2 : w2.frozen? ⟨w.heap.size, 2, none⟩ = false := R2.out.own.frozen 2
  have c3 : w2.cell? ⟨w.heap.size, 3, none⟩ = some (.int .u64 (d : Nat)) := R2.out.own.cell 3
  have f3 : w2.frozen? ⟨w.heap.size, 3, none⟩ = false := R2.out.own.frozen 3
  -- statement 2
  have uu := rotN_u 32 ua1
  have hr := turn_32 a1
  generalize hz : rotN a1 32 = a3 at uu hr
  have Z2 := Lib.hid hz
  have ua3 : U a3 := uu
  have HR2 := Lib.hid hr
  clear hz uu hr
  have X2 := R2
  go_upto_region 4 with (go_at_call 52; (with_reducible refine (HR2.out _ ua1).mono ?_); rintro e w' ⟨rfl, rfl⟩)
  clear c0 c1 c2 c3 f0 f1 f2 f3
  have R3 : Hid (RefRel w a3 b2 c d (w2.setCell ⟨w.heap.size, 0, none⟩ (.int .u64 (a3 : Nat)))) := X2.out.set0 _
  generalize w2.setCell ⟨w.heap.size, 0, none⟩ (.int .u64 (a3 : Nat)) = w3 at *
  have c0 : w3.cell? ⟨w.heap.size, 0, none⟩ = some (.int .u64 (a3 : Nat)) := R3.out.own.cell 0
  have f0 : w3.frozen? ⟨w.heap.size, 0, none⟩ = false := R3.out.own.frozen 0
  have c1 : w3.cell? ⟨w.heap.size, 1, none⟩ = some (.int .u64 (b2 : Nat)) := R3.out.own.cell 1
  have f1 : w3.frozen? ⟨w.heap.size, 1, none⟩ = false := R3.out.own.frozen 1
  have c2 : w3.cell? ⟨w.heap.size, 2, none⟩ = some (.int .u64 (c : Nat)) := R3.out.own.cell 2
  have f2 : w3.frozen? ⟨w.heap.size, 2, none⟩ = false := R3.out.own.frozen 2
  have c3 : w3.cell? ⟨w.heap.size, 3, none⟩ = some (.int .u64 (d : Nat)) := R3.out.own.cell 3
  have f3 : w3.frozen? ⟨w.heap.size, 3, none⟩ = false := R3.out.own.frozen 3
  -- statement 3
  have e3 := add_out c d
  have uu := addN_u c d
  obtain ⟨c4, hz⟩ : ∃ z, z = addN c d := ⟨_, rfl⟩
  rw [← hz] at e3 uu
  have Z3 := Lib.hid hz
  have uc4 : U c4 := uu
  clear hz uu
  have X3 := R3
  go_upto_region 5 with (fail)
  clear c0 c1 c2 c3 f0 f1 f2 f3 e3
  have R4 : Hid (RefRel w a3 b2 c4 d (w3.setCell ⟨w.heap.size, 2, none⟩ (.int .u64 (c4 : Nat)))) := X3.out.set2 _
  generalize w3.setCell ⟨w.heap.size, 2, none⟩ (.int .u64 (c4 : Nat)) = w4 at *
  have c0 : w4.cell? ⟨w.heap.size, 0, none⟩ = some (.int .u64 (a3 : Nat)) := R4.out.own.cell 0
  have f0 : w4.frozen? ⟨w.heap.size, 0, none⟩ = false := R4.out.own.frozen 0
  have c1 : w4.cell? ⟨w.heap.size, 1, none⟩ = some (.int .u64 (b2 : Nat)) := R4.out.own.cell 1
  have f1 : w4.frozen? ⟨w.heap.size, 1, none⟩ = false := R4.out.own.frozen 1
  have c2 : w4.cell? ⟨w.heap.size, 2, none⟩ = some (.int .u64 (c4 : Nat)) := R4.out.own.cell 2
  have f2 : w4.frozen? ⟨w.heap.size, 2, none⟩ = false := R4.out.own.frozen 2
  have c3 : w4.cell? ⟨w.heap.size, 3, none⟩ = some (.int .u64 (d : Nat)) := R4.out.own.cell 3
  have f3 : w4.frozen? ⟨w.heap.size, 3, none⟩ = false := R4.out.own.frozen 3
  -- statement 4
  have ur := rotN_u 16 ud
  have hr := turn_16 d
  generalize hq : rotN d 16 = q4 at ur hr
  have Q4 := Lib.hid hq
  clear hq
  have HR4 := Lib.hid hr
  clear hr
  have e4 := xor_out ur uc4
  have uu := xor_u ur uc4
  obtain ⟨d5, hz⟩ : ∃ z, z = q4 ^^^ c4 := ⟨_, rfl⟩
  rw [← hz] at e4 uu
  have Z4 := Lib.hid hz
  have ud5 : U d5 := uu
  clear hz uu ur
  refine wp_region_still_tail 7 (by kernel_rfl) (by kernel_rfl) ?_
  change wpStill _ _ w4.drew (fun a' => wpList _ _ _ _ a' w4.drew) _ _
  have X4 := Lib.hid R4.out.drew
  clear c0 c1 c2 c3 f0 f1 f2 f3
  generalize w4.drew = x4 at *
  have c0 : x4.cell? ⟨w.heap.size, 0, none⟩ = some (.int .u64 (a3 : Nat)) := X4.out.own.cell 0
  have f0 : x4.frozen? ⟨w.heap.size, 0, none⟩ = false := X4.out.own.frozen 0
  have c1 : x4.cell? ⟨w.heap.size, 1, none⟩ = some (.int .u64 (b2 : Nat)) := X4.out.own.cell 1
  have f1 : x4.frozen? ⟨w.heap.size, 1, none⟩ = false := X4.out.own.frozen 1
  have c2 : x4.cell? ⟨w.heap.size, 2, none⟩ = some (.int .u64 (c4 : Nat)) := X4.out.own.cell 2
  have f2 : x4.frozen? ⟨w.heap.size, 2, none⟩ = false := X4.out.own.frozen 2
  have c3 : x4.cell? ⟨w.heap.size, 3, none⟩ = some (.int .u64 (d : Nat)) := X4.out.own.cell 3
  have f3 : x4.frozen? ⟨w.heap.size, 3, none⟩ = false := X4.out.own.frozen 3
  simp only [List.take_succ_cons, List.take_zero, List.drop_succ_cons, List.drop_zero]
  repeat (first | still_step | still_call (still (HR4.out _ ud)))
  refine wpStill_nil ?_
  go_upto_region 6 with (fail)
  clear c0 c1 c2 c3 f0 f1 f2 f3 e4
  have R5 : Hid (RefRel w a3 b2 c4 d5 (x4.setCell ⟨w.heap.size, 3, none⟩ (.int .u64 (d5 : Nat)))) := X4.out.set3 _
  generalize x4.setCell ⟨w.heap.size, 3, none⟩ (.int .u64 (d5 : Nat)) = w5 at *
  have c0 : w5.cell? ⟨w.heap.size, 0, none⟩ = some (.int .u64 (a3 : Nat)) := R5.out.own.cell 0
  have f0 : w5.frozen? ⟨w.heap.size, 0, none⟩ = false := R5.out.own.frozen 0
  have c1 : w5.cell? ⟨w.heap.size, 1, none⟩ = some (.int .u64 (b2 : Nat)) := R5.out.own.cell 1
  have f1 : w5.frozen? ⟨w.heap.size, 1, none⟩ = false := R5.out.own.frozen 1
  have c2 : w5.cell? ⟨w.heap.size, 2, none⟩ = some (.int .u64 (c4 : Nat)) := R5.out.own.cell 2
  have f2 : w5.frozen? ⟨w.heap.size, 2, none⟩ = false := R5.out.own.frozen 2
  have c3 : w5.cell? ⟨w.heap.size, 3, none⟩ = some (.int .u64 (d5 : Nat)) := R5.out.own.cell 3
  have f3 : w5.frozen? ⟨w.heap.size, 3, none⟩ = false := R5.out.own.frozen 3
  -- statement 5
  have e5 := add_out a3 d5
  have uu := addN_u a3 d5
  obtain ⟨a6, hz⟩ : ∃ z, z = addN a3 d5 := ⟨_, rfl⟩
  rw [← hz] at e5 uu
  have Z5 := Lib.hid hz
  have ua6 : U a6 := uu
  clear hz uu
  have X5 := R5
  go_upto_region 7 with (fail)
  clear c0 c1 c2 c3 f0 f1 f2 f3 e5
  have R6 : Hid (RefRel w a6 b2 c4 d5 (w5.setCell ⟨w.heap.size, 0, none⟩ (.int .u64 (a6 : Nat)))) := X5.out.set0 _
  generalize w5.setCell ⟨w.heap.size, 0, none⟩ (.int .u64 (a6 : Nat)) = w6 at *
  have c0 : w6.cell? ⟨w.heap.size, 0, none⟩ = some (.int .u64 (a6 : Nat)) := R6.out.own.cell 0
  have f0 : w6.frozen? ⟨w.heap.size, 0, none⟩ = false := R6.out.own.frozen 0
  have c1 : w6.cell? ⟨w.heap.size, 1, none⟩ = some (.int .u64 (b2 : Nat)) := R6.out.own.cell 1
  have f1 : w6.frozen? ⟨w.heap.size, 1, none⟩ = false := R6.out.own.frozen 1
  have c2 : w6.cell? ⟨w.heap.size, 2, none⟩ = some (.int .u64 (c4 : Nat)) := R6.out.own.cell 2
  have f2 : w6.frozen? ⟨w.heap.size, 2, none⟩ = false := R6.out.own.frozen 2
  have c3 : w6.cell? ⟨w.heap.size, 3, none⟩ = some (.int .u64 (d5 : Nat)) := R6.out.own.cell 3
  have f3 : w6.frozen? ⟨w.heap.size, 3, none⟩ = false := R6.out.own.frozen 3
  -- statement 6
  have ur := rotN_u 21 ud5
  have hr := turn_21 d5
  generalize hq : rotN d5 21 = q6 at ur hr
  have Q6 := Lib.hid hq
  clear hq
  have HR6 := Lib.hid hr
  clear hr
  have e6 := xor_out ur ua6
  have uu := xor_u ur ua6
  obtain ⟨d7, hz⟩ : ∃ z, z = q6 ^^^ a6 := ⟨_, rfl⟩
  rw [← hz] at e6 uu
  have Z6 := Lib.hid hz
  have ud7 : U d7 := uu
  clear hz uu ur
  refine wp_region_still_tail 7 (by kernel_rfl) (by kernel_rfl) ?_
  change wpStill _ _ w6.drew (fun a' => wpList _ _ _ _ a' w6.drew) _ _
  have X6 := Lib.hid R6.out.drew
  clear c0 c1 c2 c3 f0 f1 f2 f3
  generalize w6.drew = x6 at *
  have c0 : x6.cell? ⟨w.heap.size, 0, none⟩ = some (.int .u64 (a6 : Nat)) := X6.out.own.cell 0
  have f0 : x6.frozen? ⟨w.heap.size, 0, none⟩ = false := X6.out.own.frozen 0
  have c1 : x6.cell? ⟨w.heap.size, 1, none⟩ = some (.int .u64 (b2 : Nat)) := X6.out.own.cell 1
  have f1 : x6.frozen? ⟨w.heap.size, 1, none⟩ = false := X6.out.own.frozen 1
  have c2 : x6.cell? ⟨w.heap.size, 2, none⟩ = some (.int .u64 (c4 : Nat)) := X6.out.own.cell 2
  have f2 : x6.frozen? ⟨w.heap.size, 2, none⟩ = false := X6.out.own.frozen 2
  have c3 : x6.cell? ⟨w.heap.size, 3, none⟩ = some (.int .u64 (d5 : Nat)) := X6.out.own.cell 3
  have f3 : x6.frozen? ⟨w.heap.size, 3, none⟩ = false := X6.out.own.frozen 3
  simp only [List.take_succ_cons, List.take_zero, List.drop_succ_cons, List.drop_zero]
  repeat (first | still_step | still_call (still (HR6.out _ ud5)))
  refine wpStill_nil ?_
  go_upto_region 8 with (fail)
  clear c0 c1 c2 c3 f0 f1 f2 f3 e6
  have R7 : Hid (RefRel w a6 b2 c4 d7 (x6.setCell ⟨w.heap.size, 3, none⟩ (.int .u64 (d7 : Nat)))) := X6.out.set3 _
  generalize x6.setCell ⟨w.heap.size, 3, none⟩ (.int .u64 (d7 : Nat)) = w7 at *
  have c0 : w7.cell? ⟨w.heap.size, 0, none⟩ = some (.int .u64 (a6 : Nat)) := R7.out.own.cell 0
  have f0 : w7.frozen? ⟨w.heap.size, 0, none⟩ = false := R7.out.own.frozen 0
  have c1 : w7.cell? ⟨w.heap.size, 1, none⟩ = some (.int .u64 (b2 : Nat)) := R7.out.own.cell 1
  have f1 : w7.frozen? ⟨w.heap.size, 1, none⟩ = false := R7.out.own.frozen 1
  have c2 : w7.cell? ⟨w.heap.size, 2, none⟩ = some (.int .u64 (c4 : Nat)) := R7.out.own.cell 2
  have f2 : w7.frozen? ⟨w.heap.size, 2, none⟩ = false := R7.out.own.frozen 2
  have c3 : w7.cell? ⟨w.heap.size, 3, none⟩ = some (.int .u64 (d7 : Nat)) := R7.out.own.cell 3
  have f3 : w7.frozen? ⟨w.heap.size, 3, none⟩ = false := R7.out.own.frozen 3
  -- statement 7
  have e7 := add_out c4 b2
  have uu := addN_u c4 b2
  obtain ⟨c8, hz⟩ : ∃ z, z = addN c4 b2 := ⟨_, rfl⟩
  rw [← hz] at e7 uu
  have Z7 := Lib.hid hz
  have uc8 : U c8 := uu
  clear hz uu
  have X7 := R7
  go_upto_region 9 with (fail)
  clear c0 c1 c2 c3 f0 f1 f2 f3 e7
  have R8 : Hid (RefRel w a6 b2 c8 d7 (w7.setCell ⟨w.heap.size, 2, none⟩ (.int .u64 (c8 : Nat)))) := X7.out.set2 _
  generalize w7.setCell ⟨w.heap.size, 2, none⟩ (.int .u64 (c8 : Nat)) = w8 at *
  have c0 : w8.cell? ⟨w.heap.size, 0, none⟩ = some (.int .u64 (a6 : Nat)) := R8.out.own.cell 0
  have f0 : w8.frozen? ⟨w.heap.size, 0, none⟩ = false := R8.out.own.frozen 0
  have c1 : w8.cell? ⟨w.heap.size, 1, none⟩ = some (.int .u64 (b2 : Nat)) := R8.out.own.cell 1
  have f1 : w8.frozen? ⟨w.heap.size, 1, none⟩ = false := R8.out.own.frozen 1
  have c2 : w8.cell? ⟨w.heap.size, 2, none⟩ = some (.int .u64 (c8 : Nat)) := R8.out.own.cell 2
  have f2 : w8.frozen? ⟨w.heap.size, 2, none⟩ = false := R8.out.own.frozen 2
  have c3 : w8.cell? ⟨w.heap.size, 3, none⟩ = some (.int .u64 (d7 : Nat)) := R8.out.own.cell 3
  have f3 : w8.frozen? ⟨w.heap.size, 3, none⟩ = false := R8.out.own.frozen 3
  -- statement 8
  have ur := rotN_u 17 ub2
  have hr := turn_17 b2
  generalize hq : rotN b2 17 = q8 at ur hr
  have Q8 := Lib.hid hq
  clear hq
  have HR8 := Lib.hid hr
  clear hr
  have e8 := xor_out ur uc8
  have uu := xor_u ur uc8
  obtain ⟨b9, hz⟩ : ∃ z, z = q8 ^^^ c8 := ⟨_, rfl⟩
  rw [← hz] at e8 uu
  have Z8 := Lib.hid hz
  have ub9 : U b9 := uu
  clear hz uu ur
  refine wp_region_still_tail 7 (by kernel_rfl) (by kernel_rfl) ?_
  change wpStill _ _ w8.drew (fun a' => wpList _ _ _ _ a' w8.drew) _ _
  have X8 := Lib.hid R8.out.drew
  clear c0 c1 c2 c3 f0 f1 f2 f3
  generalize w8.drew = x8 at *
  have c0 : x8.cell? ⟨w.heap.size, 0, none⟩ = some (.int .u64 (a6 : Nat)) := X8.out.own.cell 0
  have f0 : x8.frozen? ⟨w.heap.size, 0, none⟩ = false := X8.out.own.frozen 0
  have c1 : x8.cell? ⟨w.heap.size, 1, none⟩ = some (.int .u64 (b2 : Nat)) := X8.out.own.cell 1
  have f1 : x8.frozen? ⟨w.heap.size, 1, none⟩ = false := X8.out.own.frozen 1
  have c2 : x8.cell? ⟨w.heap.size, 2, none⟩ = some (.int .u64 (c8 : Nat)) := X8.out.own.cell 2
  have f2 : x8.frozen? ⟨w.heap.size, 2, none⟩ = false := X8.out.own.frozen 2
  have c3 : x8.cell? ⟨w.heap.size, 3, none⟩ = some (.int .u64 (d7 : Nat)) := X8.out.own.cell 3
  have f3 : x8.frozen? ⟨w.heap.size, 3, none⟩ = false := X8.out.own.frozen 3
  simp only [List.take_succ_cons, List.take_zero, List.drop_succ_cons, List.drop_zero]
  repeat (first | still_step | still_call (still (HR8.out _ ub2)))
  refine wpStill_nil ?_
  go_upto_region 10 with (fail)
  clear c0 c1 c2 c3 f0 f1 f2 f3 e8
  have R9 : Hid (RefRel w a6 b9 c8 d7 (x8.setCell ⟨w.heap.size, 1, none⟩ (.int .u64 (b9 : Nat)))) := X8.out.set1 _
  generalize x8.setCell ⟨w.heap.size, 1, none⟩ (.int .u64 (b9 : Nat)) = w9 at *
  have c0 : w9.cell? ⟨w.heap.size, 0, none⟩ = some (.int .u64 (a6 : Nat)) := R9.out.own.cell 0
  have f0 : w9.frozen? ⟨w.heap.size, 0, none⟩ = false := R9.out.own.frozen 0
  have c1 : w9.cell? ⟨w.heap.size, 1, none⟩ = some (.int .u64 (b9 : Nat)) := R9.out.own.cell 1
  have f1 : w9.frozen? ⟨w.heap.size, 1, none⟩ = false := R9.out.own.frozen 1
  have c2 : w9.cell? ⟨w.heap.size, 2, none⟩ = some (.int .u64 (c8 : Nat)) := R9.out.own.cell 2
  have f2 : w9.frozen? ⟨w.heap.size, 2, none⟩ = false := R9.out.own.frozen 2
  have c3 : w9.cell? ⟨w.heap.size, 3, none⟩ = some (.int .u64 (d7 : Nat)) := R9.out.own.cell 3
  have f3 : w9.frozen? ⟨w.heap.size, 3, none⟩ = false := R9.out.own.frozen 3
  -- statement 9
  have uu := rotN_u 32 uc8
  have hr := turn_32 c8
  generalize hz : rotN c8 32 = c10 at uu hr
  have Z9 := Lib.hid hz
  have uc10 : U c10 := uu
  have HR9 := Lib.hid hr
  clear hz uu hr
  have X9 := R9
  go_upto_region 11 with (go_at_call 52; (with_reducible refine (HR9.out _ uc8).mono ?_); rintro e w' ⟨rfl, rfl⟩)
  clear c0 c1 c2 c3 f0 f1 f2 f3
  have R10 : Hid (RefRel w a6 b9 c10 d7 (w9.setCell ⟨w.heap.size, 2, none⟩ (.int .u64 (c10 : Nat)))) := X9.out.set2 _
  generalize w9.setCell ⟨w.heap.size, 2, none⟩ (.int .u64 (c10 : Nat)) = w10 at *
  have c0 : w10.cell? ⟨w.heap.size, 0, none⟩ = some (.int .u64 (a6 : Nat)) := R10.out.own.cell 0
  have f0 : w10.frozen? ⟨w.heap.size, 0, none⟩ = false := R10.out.own.frozen 0
  have c1 : w10.cell? ⟨w.heap.size, 1, none⟩ = some (.int .u64 (b9 : Nat)) := R10.out.own.cell 1
  have f1 : w10.frozen? ⟨w.heap.size, 1, none⟩ = false := R10.out.own.frozen 1
  have c2 : w10.cell? ⟨w.heap.size, 2, none⟩ = some (.int .u64 (c10 : Nat)) := R10.out.own.cell 2
  have f2 : w10.frozen? ⟨w.heap.size, 2, none⟩ = false := R10.out.own.frozen 2
  have c3 : w10.cell? ⟨w.heap.size, 3, none⟩ = some (.int .u64 (d7 : Nat)) := R10.out.own.cell 3
  have f3 : w10.frozen? ⟨w.heap.size, 3, none⟩ = false := R10.out.own.frozen 3
  have HE : ra = a6 ∧ rb = b9 ∧ rc = c10 ∧ rd = d7 := by
    have h1 := HRR.out
    rw [← Z9.out, Z8.out, ← Q8.out, Z7.out, Z6.out, ← Q6.out, Z5.out, Z4.out, ← Q4.out, Z3.out, ← Z2.out, Z1.out, ← Q1.out, Z0.out]
    injection h1 with i1 i2 i3 i4
    exact ⟨i1.symm, i2.symm, i3.symm, i4.symm⟩
  obtain ⟨rfl, rfl, rfl, rfl⟩ := HE
  have k0 : w10.cell? ⟨w.heap.size + 1, 0, none⟩ = some (.int .u64 0) := R10.out.res.cell 0
  have g0 := R10.out.res.frozen 0
  have k1 : w10.cell? ⟨w.heap.size + 1, 1, none⟩ = some (.int .u64 0) := R10.out.res.cell 1
  have g1 := R10.out.res.frozen 1
  have k2 : w10.cell? ⟨w.heap.size + 1, 2, none⟩ = some (.int .u64 0) := R10.out.res.cell 2
  have g2 := R10.out.res.frozen 2
  have k3 : w10.cell? ⟨w.heap.size + 1, 3, none⟩ = some (.int .u64 0) := R10.out.res.cell 3
  have g3 := R10.out.res.frozen 3
  go_wp2
  refine bodyPost_ret (v := .agg #[.int .u64 (ra : Nat), .int .u64 (rb : Nat), .int .u64 (rc : Nat), .int .u64 (rd : Nat)]) (by simp [results, Try.results48, go_sem, k0, k1, k2, k3]) rfl ⟨rfl, ?_⟩
  exact (((R10.out.be.setCell (by simp) _).setCell (by simp) _).setCell (by simp) _).setCell (by simp) _
end Go.Proofs.Ytfhlgmmfknfamaa.kd.summ
