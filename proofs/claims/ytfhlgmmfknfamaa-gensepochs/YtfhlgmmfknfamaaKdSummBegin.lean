/- The contract of where a sum begins. Conditions: those of each theorem. -/
import Derived.Test.YtfhlgmmfknfamaaKdSummEnds
namespace Go.Proofs.Ytfhlgmmfknfamaa.kd.summ
open Go.RowKit

theorem Vals.of_mid {w : World} {g : Nat} {t : TypeId} {vs : List Value} (h : Blk w g t vs) (o n : Nat) (hn : o + n ≤ vs.length) : Vals w (some ⟨g, o, none⟩) n ((vs.drop o).take n) := by
  refine ⟨by simp; omega, fun _ => ⟨_, rfl, fun k v hk => ?_⟩⟩
  rw [Addr.add_at, h.cell]
  rw [List.getElem?_take] at hk
  split at hk
  · rw [List.getElem?_drop] at hk
    exact hk
  · cases hk
theorem cel_drop (bs : List Nat) (n : Nat) : (cel bs).drop n = cel (bs.drop n) := by simp [cel, List.map_drop]
theorem cel_take (bs : List Nat) (n : Nat) : (cel bs).take n = cel (bs.take n) := by simp [cel, List.map_take]
/-- A key's halves. -/
theorem halves {w : World} {g : Nat} {k : List Nat} (h : Blk w g 22 (cel k)) (hk : k.length = 16) : Vals w (some ⟨g, 0, none⟩) 8 (cel (k.take 8)) ∧ Vals w (some ⟨g, 8, none⟩) 8 (cel (k.drop 8)) := by
  have h1 := Vals.of_mid h 0 8 (by rw [cel_length]; omega)
  have h2 := Vals.of_mid h 8 8 (by rw [cel_length]; omega)
  rw [List.drop_zero, cel_take] at h1
  rw [cel_drop, cel_take, List.take_of_length_le (by simp; omega)] at h2
  exact ⟨h1, h2⟩

set_option maxRecDepth 100000 in
set_option maxHeartbeats 2000000 in
theorem begin_is (k : List Nat) (w : World) (hk : Octs k) (h16 : k.length = 16) :
    Calls Try.prog 44 #[.agg (cel k).toArray] w fun e w' => e = .returned (.agg (stCells (begV k).a (begV k).b (begV k).c (begV k).d 0 0).toArray) ∧ Below w.heap.size w w' := by
  have B1 : Hid (Blk ((w.alloc (.cells (cel k).toArray 22)).alloc (.cells #[.int .u64 0, .int .u64 0, .int .u64 0, .int .u64 0, .int .u64 0, .int .u8 0] 81)) w.heap.size 22 (cel k)) := (Blk.new w 22 (cel k)).alloc _
  have Z1 : Hid (Blk ((w.alloc (.cells (cel k).toArray 22)).alloc (.cells #[.int .u64 0, .int .u64 0, .int .u64 0, .int .u64 0, .int .u64 0, .int .u8 0] 81)) (w.heap.size + 1) 81 [.int .u64 0, .int .u64 0, .int .u64 0, .int .u64 0, .int .u64 0, .int .u8 0]) := by
    have := Blk.new (w.alloc (.cells (cel k).toArray 22)) 81 [.int .u64 0, .int .u64 0, .int .u64 0, .int .u64 0, .int .u64 0, .int .u8 0]
    rw [show (w.alloc (.cells (cel k).toArray 22)).heap.size = w.heap.size + 1 by simp] at this
    exact this
  have W1 : Hid (Below w.heap.size w ((w.alloc (.cells (cel k).toArray 22)).alloc (.cells #[.int .u64 0, .int .u64 0, .int .u64 0, .int .u64 0, .int .u64 0, .int .u8 0] 81))) := ((Below.refl _ w).alloc (Nat.le_refl _) _).alloc (by simp) _
  have HB : Hid (∀ x y, le (k.take 8) = x → le (k.drop 8) = y → begV k = ⟨x ^^^ 8317987319222330741, y ^^^ 7237128888997146477, x ^^^ 7816392313619706465, y ^^^ 8387220255154660723⟩) := fun x y h1 h2 => by subst h1 h2; rfl
  generalize hbv : begV k = bv at HB
  have HBV := Lib.hid hbv
  clear hbv
  obtain ⟨p1, p2, p3, p4⟩ := bv
  have u1 : U (le (k.take 8)) := le_u (hk.take _) (by simp; omega)
  have u2 : U (le (k.drop 8)) := le_u (hk.drop _) (by simp; omega)
  have O1 := Lib.hid (hk.take 8)
  have O2 := Lib.hid (hk.drop 8)
  have H16 := Lib.hid h16
  clear h16 hk
  go_enter Try.func44, Try.ntmps44
  go_wp2_with fail
  generalize (w.alloc (.cells (cel k).toArray 22)).alloc (.cells #[.int .u64 0, .int .u64 0, .int .u64 0, .int .u64 0, .int .u64 0, .int .u8 0] 81) = w1 at *
  refine wp_region_still_lit (by kernel_rfl) (by kernel_rfl) ?_
  change wpStill _ _ w1.drew (fun a' => Exit.then _ _ Exit.normal a' w1.drew) _ _
  have B2 : Hid (Blk w1.drew w.heap.size 22 (cel k)) := B1.out
  have Z2 : Hid (Blk w1.drew (w.heap.size + 1) 81 [.int .u64 0, .int .u64 0, .int .u64 0, .int .u64 0, .int .u64 0, .int .u8 0]) := Z1.out
  have W2 : Hid (Below w.heap.size w w1.drew) := W1.out.drew
  generalize w1.drew = x at *
  have V2 := Lib.hid (halves B2.out H16.out)
  repeat (first | still_step | still_call (still (number_is _ _ (k.take 8) _ V2.out.1 O1.out)) | still_call (still (number_is _ _ (k.drop 8) _ V2.out.2 O2.out)))
  refine wpStill_nil ?_
  have c1 : U 8317987319222330741 := by unfold U; decide
  have c2 : U 7237128888997146477 := by unfold U; decide
  have c3 : U 7816392313619706465 := by unfold U; decide
  have c4 : U 8387220255154660723 := by unfold U; decide
  have e1 : bits .xor .u64 ((le (k.take 8) : Nat) : Int) 8317987319222330741 = _ := xor_out u1 c1
  have e2 : bits .xor .u64 ((le (k.drop 8) : Nat) : Int) 7237128888997146477 = _ := xor_out u2 c2
  have e3 : bits .xor .u64 ((le (k.take 8) : Nat) : Int) 7816392313619706465 = _ := xor_out u1 c3
  have e4 : bits .xor .u64 ((le (k.drop 8) : Nat) : Int) 8387220255154660723 = _ := xor_out u2 c4
  have HV := Lib.hid (HB.out _ _ rfl rfl)
  clear c1 c2 c3 c4 u1 u2 O1 O2 V2 HB
  generalize le (k.take 8) = y1 at *
  generalize le (k.drop 8) = y2 at *
  generalize y1 ^^^ 8317987319222330741 = v1 at *
  generalize y2 ^^^ 7237128888997146477 = v2 at *
  generalize y1 ^^^ 7816392313619706465 = v3 at *
  generalize y2 ^^^ 8387220255154660723 = v4 at *
  have z0 : x.cell? ⟨w.heap.size + 1, 0, none⟩ = some (.int .u64 0) := Z2.out.cell 0
  have z1 : x.cell? ⟨w.heap.size + 1, 1, none⟩ = some (.int .u64 0) := Z2.out.cell 1
  have z2 : x.cell? ⟨w.heap.size + 1, 2, none⟩ = some (.int .u64 0) := Z2.out.cell 2
  have z3 : x.cell? ⟨w.heap.size + 1, 3, none⟩ = some (.int .u64 0) := Z2.out.cell 3
  have z4 : x.cell? ⟨w.heap.size + 1, 4, none⟩ = some (.int .u64 0) := Z2.out.cell 4
  have z5 : x.cell? ⟨w.heap.size + 1, 5, none⟩ = some (.int .u8 0) := Z2.out.cell 5
  have f0 := Z2.out.frozen 0
  have f1 := Z2.out.frozen 1
  have f2 := Z2.out.frozen 2
  have f3 := Z2.out.frozen 3
  have f4 := Z2.out.frozen 4
  have f5 := Z2.out.frozen 5
  have i0 := HV.out
  injection i0 with i1 i2 i3 i4
  subst i1 i2 i3 i4
  clear HV HBV
  go_wp2
  refine bodyPost_ret (v := .agg #[.int .u64 (p1 : Nat), .int .u64 (p2 : Nat), .int .u64 (p3 : Nat), .int .u64 (p4 : Nat), .int .u64 0, .int .u8 0]) (by simp [results, Try.results44, go_sem, z0, z1, z2, z3, z4, z5]) rfl ⟨rfl, ?_⟩
  exact (((((W2.out.setCell (by simp) _).setCell (by simp) _).setCell (by simp) _).setCell (by simp) _).setCell (by simp) _).setCell (by simp) _
end Go.Proofs.Ytfhlgmmfknfamaa.kd.summ
