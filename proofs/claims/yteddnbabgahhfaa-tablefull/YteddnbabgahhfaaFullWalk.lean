/- The walk of TableFull. Conditions: the program's contracts. -/
import Derived.Test.YteddnbabgahhfaaAts
namespace Go.Proofs.Yteddnbabgahhfaa
open Go.RowKit

set_option maxHeartbeats 4000000 in
theorem full_ (hA : ∀ W, Calls Try.prog 7 #[] W (Ans (.bool true) W)) (T : (Nat → Prop) → World → Nat → Int → List Ent → Prop) (P : ProgT T) (a0 a1 : Int) (w : World) (b0 : 0 ≤ a0 ∧ a0 ≤ 255) (b1 : 0 ≤ a1 ∧ a1 ≤ 255) :
    Calls Try.prog 5 #[.int .u8 a0, .int .u8 a1] w (Ans (.bool true) w) := by
  have HA := Lib.hid hA
  have HP := Lib.hid P
  clear hA P
  go_enter Try.func5, Try.ntmps5
  go_upto_region 4 with (go_at_call 7; (with_reducible refine (HA.out _).mono ?_); rintro e w1 ⟨rfl, hb⟩; have B1 := Lib.hid hb; clear hb)
  obtain ⟨M, hM⟩ : ∃ M : Nat, 1 + a0 % 64 = (M : Int) := ⟨(1 + a0 % 64).toNat, by omega⟩
  have hM1 : 1 ≤ M ∧ M ≤ 64 := by omega
  obtain ⟨G, hG⟩ : ∃ G : Nat, a1 % (M : Int) = (G : Int) := ⟨(a1 % (M : Int)).toNat, by have := Int.emod_nonneg a1 (show (M : Int) ≠ 0 by omega); omega⟩
  have hGM : G < M := by have := Int.emod_lt_of_pos a1 (show (0 : Int) < (M : Int) by omega); omega
  have hMz : ¬ (M : Int) = 0 := by omega
  have hrem : a1.tmod (M : Int) = (G : Int) := by rw [Int.tmod_eq_emod_of_nonneg b1.1]; exact hG
  have hwG : IntKind.i64.wrap (G : Int) = (G : Int) := by rw [IntKind.wrap_i64] <;> omega
  have hwg : IntKind.u8.wrap (G : Int) = (G : Int) := by simp [IntKind.wrap, IntKind.bits]; omega
  clear hG
  rw [hM] at *
  clear hM HA
  go_upto_region 5 with (go_at_call 8; (with_reducible refine (At.new HP.out B1.out (by omega) (by omega)).mono ?_); rintro e w2 ⟨g, rfl, ha⟩; have A2 := Lib.hid ha; clear ha)
  clear B1
  go_wp2_with fail
  go_loopw [8, 28] (fun _ i w' => ∃ (k : Nat) (L : List Ent), k ≤ M ∧ i = .int .i64 k ∧ Fill k L ∧ At T w g M L nobody w') (fun _ i _ => M - (intOf i).toNat)
  case atStart => exact ⟨0, [], by omega, rfl, Fill.zero, A2.out⟩
  case round =>
    obtain ⟨k, L, hk, rfl, hfi, hat⟩ := hrel
    have FI := Lib.hid hfi
    have A3 := Lib.hid hat
    clear hfi hat A2
    by_cases hlt : k < M
    · have hwk : IntKind.u8.wrap (k : Int) = (k : Int) := by simp [IntKind.wrap, IntKind.bits]; omega
      have HM := Lib.hid (FI.out.more hlt hM1.2)
      go_wp2_with (first | (refine wpList_buildG (by rfl) 29 _ rfl [(0, .int .u8 k), (1, .int .u8 1)] (by rfl) (cel [k, 1, 0, 0, 0, 0, 0]) (run_b29 _ _) ?_) | (refine wpList_buildG (by rfl) 31 _ rfl [(1, .agg (cel [k, 1, 0, 0, 0, 0, 0]).toArray)] (by rfl) (nth k).cs (run_nth _ _) ?_) | (go_at_call 9; (with_reducible refine (A3.out.put HP.out FI.out.ok (nth_ok (by omega)) (by unfold i64; omega)).mono ?_); rintro e w4 ⟨rfl, ha, hf⟩; rw [HM.out.1]; have A4 := Lib.hid ha; clear ha hf))
      go_roundw
      case rel => exact ⟨k + 1, _, by omega, by go_num, HM.out.2, A4.out⟩
      case measure => simp [intOf]; omega
    · obtain rfl : k = M := by omega
      have HF := Lib.hid (FI.out.full 1)
      have HC := Lib.hid (FI.out.change hGM hM1.2)
      have HGn := Lib.hid (HC.out.2.gone)
      have HO := Lib.hid (HGn.out.2.other)
      have O1 := Lib.hid FI.out.ok
      obtain ⟨L4, h4⟩ : ∃ L4, put (del (put L k (nth G) 500) (nth G)) k pre6 2 = L4 := ⟨_, rfl⟩
      have H4 := Lib.hid h4
      rw [h4] at HO
      obtain ⟨L3, h3⟩ : ∃ L3, del (put L k (nth G) 500) (nth G) = L3 := ⟨_, rfl⟩
      have H3 := Lib.hid h3
      rw [h3] at HO HGn H4
      obtain ⟨L2, h2⟩ : ∃ L2, put L k (nth G) 500 = L2 := ⟨_, rfl⟩
      have H2 := Lib.hid h2
      rw [h2] at HC HGn H3
      clear h2 h3 h4 FI hlt
      go_upto_region 13 with (first | (refine wpList_buildG (by rfl) 31 _ rfl [(0, .bool true)] (by rfl) pre6.cs (run_pre6 _) ?_) | (refine wpList_newp rfl (.tmp 10) (.tmp 44) rfl wr pre6 rfl rfl ?_; intro w4 X4 hb4; have A4 : Hid (At T w g k L (only wr.heap.size) w4) := ((A3.out.grow HP.out hb4.out).less (fun j e => .inr ⟨(by unfold only at e; omega), (by have := X4.out.lt; unfold only at e; omega)⟩)); clear hb4))
      clear A3
      generalize wr.heap.size = ob at *
      go_upto_region 17 with (first
        | (refine wpList_pre (by rfl) (.tmp 10) rfl _ _ rfl pre6 (whole_at X4.out) ?_)
        | (go_at_call 9; (with_reducible refine (A4.out.put HP.out O1.out pre6_ok (v := 1) (by unfold i64; omega)).mono ?_); rintro e w5 ⟨rfl, ha, hf⟩; rw [HF.out.2] at ha; rw [HF.out.1]; have A5 := Lib.hid ha; have X5 := Lib.hid (X4.out.far hf (fun e => e.2 rfl)); clear ha hf)
        | (refine wpList_buildG (by rfl) 29 _ rfl [(0, .int .u8 G), (1, .int .u8 1)] (by rfl) (cel [G, 1, 0, 0, 0, 0, 0]) (run_b29 _ _) ?_) | (refine wpList_buildG (by rfl) 31 _ rfl [(1, .agg (cel [G, 1, 0, 0, 0, 0, 0]).toArray)] (by rfl) (nth G).cs (run_nth _ _) ?_)
        | (go_at_call 9; (with_reducible refine (A5.out.put HP.out O1.out (nth_ok (by omega)) (v := 500) (by unfold i64; omega)).mono ?_); rintro e w6 ⟨rfl, ha, hf⟩; rw [H2.out] at ha; rw [HC.out.1]; have A6 := Lib.hid ha; have X6 := Lib.hid (X5.out.far hf (fun e => e.2 rfl)); clear ha hf)
        | (go_at_call 10; (with_reducible refine (A6.out.len HP.out).mono ?_); rintro e w7 ⟨rfl, ha, hf⟩; rw [HC.out.2.len]; have A7 := Lib.hid ha; have X7 := Lib.hid (X6.out.far hf (fun e => e.2 rfl)); clear ha hf)
        | (go_at_call 12; (with_reducible refine (A7.out.del HP.out HC.out.2.ok (nth_ok (by omega))).mono ?_); rintro e w8 ⟨rfl, ha, hf⟩; rw [H3.out] at ha; rw [HGn.out.1]; have A8 := Lib.hid ha; have X8 := Lib.hid (X7.out.far hf (fun e => e.2 rfl)); clear ha hf)
        | (refine wpList_pre (by rfl) (.tmp 10) rfl _ _ rfl pre6 (whole_at X8.out) ?_)
        | (go_at_call 9; (with_reducible refine (A8.out.put HP.out HGn.out.2.ok pre6_ok (v := 2) (by unfold i64; omega)).mono ?_); rintro e w9 ⟨rfl, ha, hf⟩; rw [H4.out] at ha; rw [HO.out.1]; have A9 := Lib.hid ha; have X9 := Lib.hid (X8.out.far hf (fun e => e.2 rfl)); clear ha hf)
        | (go_at_call 10; (with_reducible refine (A9.out.len HP.out).mono ?_); rintro e w10 ⟨rfl, ha, hf⟩; rw [HO.out.2.len]; have A10 := Lib.hid ha; have X10 := Lib.hid (X9.out.far hf (fun e => e.2 rfl)); clear ha hf))
      go_wp2_with fail
      go_loopw [11, 12, 13, 83] (fun _ _ _ i w' => ∃ j : Nat, j ≤ k ∧ i = .int .i64 j ∧ At T w g k L4 (only ob) w' ∧ Blk w' ob 31 pre6.cs) (fun _ _ _ i _ => k - (intOf i).toNat)
      case atStart => exact ⟨0, by omega, rfl, A10.out, X10.out⟩
      case round =>
        obtain ⟨j, hj, rfl, hat, hx⟩ := hrel
        have A3 := Lib.hid hat
        have X3 := Lib.hid hx
        clear hat hx A4 X4 A5 X5 A6 X6 A7 X7 A8 X8 A9 X9 A10 X10
        by_cases hlt : j < k
        · have hwj : IntKind.u8.wrap (j : Int) = (j : Int) := by simp [IntKind.wrap, IntKind.bits]; omega
          by_cases hjG : j = G
          · subst hjG
            go_wp2_with (first | (refine wpList_buildG (by rfl) 29 _ rfl [(0, .int .u8 j), (1, .int .u8 1)] (by rfl) (cel [j, 1, 0, 0, 0, 0, 0]) (run_b29 _ _) ?_) | (refine wpList_buildG (by rfl) 31 _ rfl [(1, .agg (cel [j, 1, 0, 0, 0, 0, 0]).toArray)] (by rfl) (nth j).cs (run_nth _ _) ?_) | (go_at_call 14; (with_reducible refine (A3.out.get HP.out HO.out.2.ok (nth_ok (by omega))).mono ?_); rintro e w4 ⟨rfl, ha, hf⟩; rw [HO.out.2.not_.1, HO.out.2.not_.2]; have A4 := Lib.hid ha; have X4 := Lib.hid (X3.out.far hf (fun e => e.2 rfl)); clear ha hf))
            go_roundw
            case rel => exact ⟨j + 1, by omega, by go_num, A4.out, X4.out⟩
            case measure => simp [intOf]; omega
          · have HI := Lib.hid (HO.out.2.is hlt hjG)
            have hjg : ((j : Int) == (G : Int)) = false := by simp; omega
            have hjn : ((j : Int) != (G : Int)) = true := by simp; omega
            clear hjG
            go_wp2_with (first | (refine wpList_buildG (by rfl) 29 _ rfl [(0, .int .u8 j), (1, .int .u8 1)] (by rfl) (cel [j, 1, 0, 0, 0, 0, 0]) (run_b29 _ _) ?_) | (refine wpList_buildG (by rfl) 31 _ rfl [(1, .agg (cel [j, 1, 0, 0, 0, 0, 0]).toArray)] (by rfl) (nth j).cs (run_nth _ _) ?_) | (go_at_call 14; (with_reducible refine (A3.out.get HP.out HO.out.2.ok (nth_ok (by omega))).mono ?_); rintro e w4 ⟨rfl, ha, hf⟩; rw [HI.out.1, HI.out.2]; have A4 := Lib.hid ha; have X4 := Lib.hid (X3.out.far hf (fun e => e.2 rfl)); clear ha hf))
            go_roundw
            case rel => exact ⟨j + 1, by omega, by go_num, A4.out, X4.out⟩
            case measure => simp [intOf]; omega
        · go_wp2_with (first | (refine wpList_pre (by rfl) (.tmp 10) rfl _ _ rfl pre6 (whole_at X3.out) ?_) | (go_at_call 14; (with_reducible refine (A3.out.get HP.out HO.out.2.ok pre6_ok).mono ?_); rintro e w4 ⟨rfl, ha, hf⟩; rw [HO.out.2.other.1, HO.out.2.other.2]; have A4 := Lib.hid ha; have X4 := Lib.hid (X3.out.far hf (fun e => e.2 rfl)); clear ha hf))
          go_ret
          exact ⟨rfl, A4.out.be⟩
end Go.Proofs.Yteddnbabgahhfaa
