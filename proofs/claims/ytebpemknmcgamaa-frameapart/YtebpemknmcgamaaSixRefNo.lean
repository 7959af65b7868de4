/- The contract of the document's Parse, of a packet without a right head. Conditions: those of each theorem. -/
import Derived.Test.YtebpemknmcgamaaSixParse
namespace Go.Proofs.Ytebpemknmcgamaa.six
open Go.RowKit

set_option maxRecDepth 100000 in
set_option maxHeartbeats 4000000 in
theorem ref_no (A : Option Addr) (n c r : Nat) (bs : List Int) (w : World) (h : Byts w A n bs) (ho : Octs bs) (hm : n ≤ 9223372036854775807) (hr : why bs = r) (h0 : r ≠ 0) :
    Calls Try.prog 19 #[.slice A n c] w fun e w' => e = .returned (.tuple #[.agg (net 0 zz zz (.slice none 0 0) false).toArray, .int .i64 ((r : Nat) : Int)]) ∧ Below w.heap.size w w' := by
  have hbn := h.1
  have b0 := ho.at_ 0
  have W0 : Hid (Below w.heap.size w (w.alloc (.cells #[.int .u8 0, .int .u8 0, .int .u8 0, .int .u8 0, .int .u8 0, .int .u8 0, .int .u8 0, .int .u8 0, .int .u8 0, .int .u8 0, .int .u8 0, .int .u8 0, .int .u8 0, .int .u8 0, .int .u8 0, .int .u8 0, .int .u8 0, .int .u8 0, .int .u8 0, .int .u8 0, .int .u8 0, .int .u8 0, .int .u8 0, .int .u8 0, .int .u8 0, .int .u8 0, .int .u8 0, .int .u8 0, .int .u8 0, .int .u8 0, .int .u8 0, .int .u8 0, .int .u8 0, .slice none 0 0, .bool false] 54))) := (Below.refl _ w).alloc (Nat.le_refl _) _
  have L0 : Hid (Blk (w.alloc (.cells #[.int .u8 0, .int .u8 0, .int .u8 0, .int .u8 0, .int .u8 0, .int .u8 0, .int .u8 0, .int .u8 0, .int .u8 0, .int .u8 0, .int .u8 0, .int .u8 0, .int .u8 0, .int .u8 0, .int .u8 0, .int .u8 0, .int .u8 0, .int .u8 0, .int .u8 0, .int .u8 0, .int .u8 0, .int .u8 0, .int .u8 0, .int .u8 0, .int .u8 0, .int .u8 0, .int .u8 0, .int .u8 0, .int .u8 0, .int .u8 0, .int .u8 0, .int .u8 0, .int .u8 0, .slice none 0 0, .bool false] 54)) w.heap.size 54 (net 0 zz zz (.slice none 0 0) false)) := Blk.new w 54 (net 0 zz zz (.slice none 0 0) false)
  have H : Hid (Byts (w.alloc (.cells #[.int .u8 0, .int .u8 0, .int .u8 0, .int .u8 0, .int .u8 0, .int .u8 0, .int .u8 0, .int .u8 0, .int .u8 0, .int .u8 0, .int .u8 0, .int .u8 0, .int .u8 0, .int .u8 0, .int .u8 0, .int .u8 0, .int .u8 0, .int .u8 0, .int .u8 0, .int .u8 0, .int .u8 0, .int .u8 0, .int .u8 0, .int .u8 0, .int .u8 0, .int .u8 0, .int .u8 0, .int .u8 0, .int .u8 0, .int .u8 0, .int .u8 0, .int .u8 0, .int .u8 0, .slice none 0 0, .bool false] 54)) A n bs) := h.below W0.out
  have b4 := ho.at_ 4
  have b5 := ho.at_ 5
  have HWI : Hid (bs.getD 4 0 * 256 + bs.getD 5 0 = ((wd bs 4 : Nat) : Int)) := wd_int ho 4
  unfold why at hr
  rw [hbn] at hr
  clear h ho
  by_cases h40 : n < 40
  · rw [if_pos h40] at hr
    subst hr
    go_enter Try.func19, Try.ntmps19
    go_upto_region 1 with (fail)
    generalize w.alloc (.cells #[.int .u8 0, .int .u8 0, .int .u8 0, .int .u8 0, .int .u8 0, .int .u8 0, .int .u8 0, .int .u8 0, .int .u8 0, .int .u8 0, .int .u8 0, .int .u8 0, .int .u8 0, .int .u8 0, .int .u8 0, .int .u8 0, .int .u8 0, .int .u8 0, .int .u8 0, .int .u8 0, .int .u8 0, .int .u8 0, .int .u8 0, .int .u8 0, .int .u8 0, .int .u8 0, .int .u8 0, .int .u8 0, .int .u8 0, .int .u8 0, .int .u8 0, .int .u8 0, .int .u8 0, .slice none 0 0, .bool false] 54) = w0 at *
    go_wp2_with (first | (refine wpList_var30 rfl (.tmp 4) (.tmp 11) rfl w0 (net 0 zz zz (.slice none 0 0) false) rfl rfl (net_length zz_sixteen zz_sixteen) (net_one rfl) ?_; intro x1 M1 hb1; have L1 := Lib.hid (L0.out.far (Far.of_below hb1.out nobody) (fun e => e)); have H1 := Lib.hid (H.out.below hb1.out); have W1 : Hid (Below w.heap.size w x1) := W0.out.trans (hb1.out.mono W0.out.size); clear hb1) | (refine wpList_whole30 (by rfl) (.tmp 4) rfl w0.heap.size rfl (net 0 zz zz (.slice none 0 0) false) M1.out (net_length zz_sixteen zz_sixteen) ?_) | (refine wpList_put rfl 54 size30 (.tmp 2) (.tmp 15) rfl w.heap.size (net 0 zz zz (.slice none 0 0) false) rfl rfl 54 (net 0 zz zz (.slice none 0 0) false) L1.out (net_length zz_sixteen zz_sixteen) (net_length zz_sixteen zz_sixteen) (net_one rfl) ?_; intro wf BF FF))
    refine bodyPost_ret (v := .tuple #[.agg (net 0 zz zz (.slice none 0 0) false).toArray, .int .i64 1]) (by simp [results, Try.results19, asAddr, load30 BF.out (net_length zz_sixteen zz_sixteen)]) rfl ⟨rfl, below_only W1.out FF.out (Nat.le_refl _) W1.out.size⟩
  · rw [if_neg h40] at hr
    by_cases h6 : (bs.getD 0 0).toNat / 16 ≠ 6
    · rw [if_pos h6] at hr
      subst hr
      have hh : bs.getD 0 0 / 16 = ((bs.getD 0 0).toNat / 16 : Nat) := by omega
      generalize (bs.getD 0 0).toNat / 16 = v at *
      have hne : ((v : Int) != 6) = true := by simp; omega
      obtain ⟨ad, rfl, hcell⟩ := H.out.2 (by omega)
      go_enter Try.func19, Try.ntmps19
      go_upto_region 1 with (fail)
      generalize w.alloc (.cells #[.int .u8 0, .int .u8 0, .int .u8 0, .int .u8 0, .int .u8 0, .int .u8 0, .int .u8 0, .int .u8 0, .int .u8 0, .int .u8 0, .int .u8 0, .int .u8 0, .int .u8 0, .int .u8 0, .int .u8 0, .int .u8 0, .int .u8 0, .int .u8 0, .int .u8 0, .int .u8 0, .int .u8 0, .int .u8 0, .int .u8 0, .int .u8 0, .int .u8 0, .int .u8 0, .int .u8 0, .int .u8 0, .int .u8 0, .int .u8 0, .int .u8 0, .int .u8 0, .int .u8 0, .slice none 0 0, .bool false] 54) = w0 at *
      go_upto_region 2 with (first | (refine wpList_var30 rfl (.tmp 4) (.tmp 11) rfl w0 (net 0 zz zz (.slice none 0 0) false) rfl rfl (net_length zz_sixteen zz_sixteen) (net_one rfl) ?_; intro x1 M1 hb1; have L1 := Lib.hid (L0.out.far (Far.of_below hb1.out nobody) (fun e => e)); have H1 := Lib.hid (H.out.below hb1.out); have W1 : Hid (Below w.heap.size w x1) := W0.out.trans (hb1.out.mono W0.out.size); clear hb1))
      obtain ⟨ad', e, hcell1⟩ := H1.out.2 (by omega)
      cases e
      have hc0 : x1.cell? ad = some (.int .u8 (bs.getD 0 0)) := by simpa [Addr.add] using hcell1 0 (by omega)
      clear hcell hcell1
      generalize bs.getD 0 0 = u at *
      go_wp2_with (first | (refine wpList_whole30 (by rfl) (.tmp 4) rfl w0.heap.size rfl (net 0 zz zz (.slice none 0 0) false) M1.out (net_length zz_sixteen zz_sixteen) ?_) | (refine wpList_put rfl 54 size30 (.tmp 2) (.tmp 21) rfl w.heap.size (net 0 zz zz (.slice none 0 0) false) rfl rfl 54 (net 0 zz zz (.slice none 0 0) false) L1.out (net_length zz_sixteen zz_sixteen) (net_length zz_sixteen zz_sixteen) (net_one rfl) ?_; intro wf BF FF))
      refine bodyPost_ret (v := .tuple #[.agg (net 0 zz zz (.slice none 0 0) false).toArray, .int .i64 3]) (by simp [results, Try.results19, asAddr, load30 BF.out (net_length zz_sixteen zz_sixteen)]) rfl ⟨rfl, below_only W1.out FF.out (Nat.le_refl _) W1.out.size⟩
    · rw [if_neg h6] at hr
      have hh : bs.getD 0 0 / 16 = 6 := by omega
      by_cases hl : n < 40 + wd bs 4
      · rw [if_pos hl] at hr
        subst hr
        obtain ⟨ad, rfl, hcell⟩ := H.out.2 (by omega)
        go_enter Try.func19, Try.ntmps19
        go_upto_region 1 with (fail)
        generalize w.alloc (.cells #[.int .u8 0, .int .u8 0, .int .u8 0, .int .u8 0, .int .u8 0, .int .u8 0, .int .u8 0, .int .u8 0, .int .u8 0, .int .u8 0, .int .u8 0, .int .u8 0, .int .u8 0, .int .u8 0, .int .u8 0, .int .u8 0, .int .u8 0, .int .u8 0, .int .u8 0, .int .u8 0, .int .u8 0, .int .u8 0, .int .u8 0, .int .u8 0, .int .u8 0, .int .u8 0, .int .u8 0, .int .u8 0, .int .u8 0, .int .u8 0, .int .u8 0, .int .u8 0, .int .u8 0, .slice none 0 0, .bool false] 54) = w0 at *
        go_upto_region 2 with (first | (refine wpList_var30 rfl (.tmp 4) (.tmp 11) rfl w0 (net 0 zz zz (.slice none 0 0) false) rfl rfl (net_length zz_sixteen zz_sixteen) (net_one rfl) ?_; intro x1 M1 hb1; have L1 := Lib.hid (L0.out.far (Far.of_below hb1.out nobody) (fun e => e)); have H1 := Lib.hid (H.out.below hb1.out); have W1 : Hid (Below w.heap.size w x1) := W0.out.trans (hb1.out.mono W0.out.size); clear hb1))
        obtain ⟨ad', e, hcell1⟩ := H1.out.2 (by omega)
        cases e
        have hc0 : x1.cell? ad = some (.int .u8 (bs.getD 0 0)) := by simpa [Addr.add] using hcell1 0 (by omega)
        have hc4 : x1.cell? ⟨ad.block, ad.off + 4, none⟩ = some (.int .u8 (bs.getD 4 0)) := by simpa [Addr.add] using hcell1 4 (by omega)
        have hc5 : x1.cell? ⟨ad.block, ad.off + 5, none⟩ = some (.int .u8 (bs.getD 5 0)) := by simpa [Addr.add] using hcell1 5 (by omega)
        have hn4 : 4 < n := by omega
        have hn5 : 5 < n := by omega
        clear hcell hcell1 h6
        generalize bs.getD 0 0 = u at *
        generalize bs.getD 4 0 = u4 at *
        generalize bs.getD 5 0 = u5 at *
        generalize wd bs 4 = t at *
        go_upto_region 6 with (fail)
        go_cut [5] from 22 to 32 (fun s wx => s = .int .i64 ((40 + t : Nat) : Int) ∧ Below x1.heap.size x1 wx)
        case first =>
          go_region
          go_wp2_with fail
          go_meet
          case rel => exact ⟨congrArg (Value.int .i64) (by have := HWI.out; omega), (Below.refl _ _).drew⟩
        case rest =>
          obtain ⟨rfl, hbl⟩ := hcut
          have W2 : Hid (Below w.heap.size w wc) := W1.out.trans (hbl.mono W1.out.size)
          have L2 := Lib.hid (L1.out.far (Far.of_below hbl nobody) (fun e => e))
          have M2 := Lib.hid (M1.out.far (Far.of_below hbl nobody) (fun e => e))
          clear hbl hc0 hc4 hc5
          go_wp2_with (first | (refine wpList_whole30 (by rfl) (.tmp 4) rfl w0.heap.size rfl (net 0 zz zz (.slice none 0 0) false) M2.out (net_length zz_sixteen zz_sixteen) ?_) | (refine wpList_put rfl 54 size30 (.tmp 2) (.tmp 37) rfl w.heap.size (net 0 zz zz (.slice none 0 0) false) rfl rfl 54 (net 0 zz zz (.slice none 0 0) false) L2.out (net_length zz_sixteen zz_sixteen) (net_length zz_sixteen zz_sixteen) (net_one rfl) ?_; intro wf BF FF))
          refine bodyPost_ret (v := .tuple #[.agg (net 0 zz zz (.slice none 0 0) false).toArray, .int .i64 5]) (by simp [results, Try.results19, asAddr, load30 BF.out (net_length zz_sixteen zz_sixteen)]) rfl ⟨rfl, below_only W2.out FF.out (Nat.le_refl _) W2.out.size⟩
      · rw [if_neg hl] at hr
        exact absurd hr.symm h0
end Go.Proofs.Ytebpemknmcgamaa.six
