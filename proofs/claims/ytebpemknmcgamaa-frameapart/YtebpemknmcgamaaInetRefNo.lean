/- The contract of the document's Parse. Conditions: those of each theorem. -/
import Derived.Test.YtebpemknmcgamaaInetTold
import Derived.Deep.RegionHeld3
namespace Go.Proofs.Ytebpemknmcgamaa.inet
open Go.RowKit

set_option maxHeartbeats 4000000 in
theorem ref_no (A : Option Addr) (n c r : Nat) (bs : List Int) (w : World) (h : Byts w A n bs) (ho : Octs bs) (hm : n ≤ 9223372036854775807) (hc : n ≤ c) (hr : why bs = r) (h0 : r ≠ 0) :
    Calls Try.prog 20 #[.slice A n c] w fun e w' => e = .returned (.tuple #[.agg (net 0 zz zz (.slice none 0 0) false).toArray, .int .i64 ((r : Nat) : Int)]) ∧ Below w.heap.size w w' := by
  have hbn := h.1
  have b0 := ho.at_ 0
  have W0 : Hid (Below w.heap.size w (w.alloc (.cells #[.int .u8 0, .int .u8 0, .int .u8 0, .int .u8 0, .int .u8 0, .int .u8 0, .int .u8 0, .int .u8 0, .int .u8 0, .int .u8 0, .int .u8 0, .int .u8 0, .int .u8 0, .int .u8 0, .int .u8 0, .int .u8 0, .int .u8 0, .int .u8 0, .int .u8 0, .int .u8 0, .int .u8 0, .int .u8 0, .int .u8 0, .int .u8 0, .int .u8 0, .int .u8 0, .int .u8 0, .int .u8 0, .int .u8 0, .int .u8 0, .int .u8 0, .int .u8 0, .int .u8 0, .slice none 0 0, .bool false] 54))) := (Below.refl _ w).alloc (Nat.le_refl _) _
  have L0 : Hid (Blk (w.alloc (.cells #[.int .u8 0, .int .u8 0, .int .u8 0, .int .u8 0, .int .u8 0, .int .u8 0, .int .u8 0, .int .u8 0, .int .u8 0, .int .u8 0, .int .u8 0, .int .u8 0, .int .u8 0, .int .u8 0, .int .u8 0, .int .u8 0, .int .u8 0, .int .u8 0, .int .u8 0, .int .u8 0, .int .u8 0, .int .u8 0, .int .u8 0, .int .u8 0, .int .u8 0, .int .u8 0, .int .u8 0, .int .u8 0, .int .u8 0, .int .u8 0, .int .u8 0, .int .u8 0, .int .u8 0, .slice none 0 0, .bool false] 54)) w.heap.size 54 (net 0 zz zz (.slice none 0 0) false)) := Blk.new w 54 (net 0 zz zz (.slice none 0 0) false)
  have H : Hid (Byts (w.alloc (.cells #[.int .u8 0, .int .u8 0, .int .u8 0, .int .u8 0, .int .u8 0, .int .u8 0, .int .u8 0, .int .u8 0, .int .u8 0, .int .u8 0, .int .u8 0, .int .u8 0, .int .u8 0, .int .u8 0, .int .u8 0, .int .u8 0, .int .u8 0, .int .u8 0, .int .u8 0, .int .u8 0, .int .u8 0, .int .u8 0, .int .u8 0, .int .u8 0, .int .u8 0, .int .u8 0, .int .u8 0, .int .u8 0, .int .u8 0, .int .u8 0, .int .u8 0, .int .u8 0, .int .u8 0, .slice none 0 0, .bool false] 54)) A n bs) := h.below W0.out
  have HO := Lib.hid ho
  unfold why at hr
  rw [hbn] at hr
  clear h ho
  obtain ⟨k, hk, hk15⟩ : ∃ k, hd bs = 4 * k ∧ k = (bs.getD 0 0).toNat % 16 := ⟨(bs.getD 0 0).toNat % 16, by unfold hd; omega, rfl⟩
  have hmod : bs.getD 0 0 % 16 = (k : Int) := by omega
  have hdiv : bs.getD 0 0 / 16 = (((bs.getD 0 0).toNat / 16 : Nat) : Int) := by omega
  rw [hk] at hr
  by_cases h20 : n < 20
  · rw [if_pos h20] at hr
    subst hr
    clear hk15
    generalize bs.getD 0 0 = u at *
    go_enter Try.func20, Try.ntmps20
    go_upto_region 1 with (fail)
    generalize w.alloc (.cells #[.int .u8 0, .int .u8 0, .int .u8 0, .int .u8 0, .int .u8 0, .int .u8 0, .int .u8 0, .int .u8 0, .int .u8 0, .int .u8 0, .int .u8 0, .int .u8 0, .int .u8 0, .int .u8 0, .int .u8 0, .int .u8 0, .int .u8 0, .int .u8 0, .int .u8 0, .int .u8 0, .int .u8 0, .int .u8 0, .int .u8 0, .int .u8 0, .int .u8 0, .int .u8 0, .int .u8 0, .int .u8 0, .int .u8 0, .int .u8 0, .int .u8 0, .int .u8 0, .int .u8 0, .slice none 0 0, .bool false] 54) = w0 at *
    go_wp2_with (first | (refine wpList_put rfl 54 size30 (.tmp 2) (.tmp 11) rfl w.heap.size (net 0 zz zz (.slice none 0 0) false) rfl rfl 54 (net 0 zz zz (.slice none 0 0) false) L0.out (net_length zz_sixteen zz_sixteen) (net_length zz_sixteen zz_sixteen) (net_one rfl) ?_; intro wf BF FF))
    refine bodyPost_ret (v := .tuple #[.agg (net 0 zz zz (.slice none 0 0) false).toArray, .int .i64 1]) (by simp [results, Try.results20, asAddr, load30 BF.out (net_length zz_sixteen zz_sixteen)]) rfl ⟨rfl, below_only W0.out FF.out (Nat.le_refl _) W0.out.size⟩
  · rw [if_neg h20] at hr
    obtain ⟨ad, rfl, hcell⟩ := H.out.2 (by omega)
    have hc0 : (w.alloc (.cells #[.int .u8 0, .int .u8 0, .int .u8 0, .int .u8 0, .int .u8 0, .int .u8 0, .int .u8 0, .int .u8 0, .int .u8 0, .int .u8 0, .int .u8 0, .int .u8 0, .int .u8 0, .int .u8 0, .int .u8 0, .int .u8 0, .int .u8 0, .int .u8 0, .int .u8 0, .int .u8 0, .int .u8 0, .int .u8 0, .int .u8 0, .int .u8 0, .int .u8 0, .int .u8 0, .int .u8 0, .int .u8 0, .int .u8 0, .int .u8 0, .int .u8 0, .int .u8 0, .int .u8 0, .slice none 0 0, .bool false] 54)).cell? ad = some (.int .u8 (bs.getD 0 0)) := by simpa [Addr.add] using hcell 0 (by omega)
    clear hcell
    by_cases h4 : (bs.getD 0 0).toNat / 16 ≠ 4 ∨ 4 * k < 20
    · rw [if_pos h4] at hr
      subst hr
      generalize (bs.getD 0 0).toNat / 16 = v at *
      by_cases hv : v = 4
      · have hk5 : k < 5 := by omega
        have hv4 : bs.getD 0 0 / 16 = 4 := by omega
        clear hk15
        generalize bs.getD 0 0 = u at *
        go_enter Try.func20, Try.ntmps20
        go_upto_region 1 with (fail)
        generalize w.alloc (.cells #[.int .u8 0, .int .u8 0, .int .u8 0, .int .u8 0, .int .u8 0, .int .u8 0, .int .u8 0, .int .u8 0, .int .u8 0, .int .u8 0, .int .u8 0, .int .u8 0, .int .u8 0, .int .u8 0, .int .u8 0, .int .u8 0, .int .u8 0, .int .u8 0, .int .u8 0, .int .u8 0, .int .u8 0, .int .u8 0, .int .u8 0, .int .u8 0, .int .u8 0, .int .u8 0, .int .u8 0, .int .u8 0, .int .u8 0, .int .u8 0, .int .u8 0, .int .u8 0, .int .u8 0, .slice none 0 0, .bool false] 54) = w0 at *
        go_wp2_with (first | (refine wpList_put rfl 54 size30 (.tmp 2) (.tmp 26) rfl w.heap.size (net 0 zz zz (.slice none 0 0) false) rfl rfl 54 (net 0 zz zz (.slice none 0 0) false) L0.out (net_length zz_sixteen zz_sixteen) (net_length zz_sixteen zz_sixteen) (net_one rfl) ?_; intro wf BF FF))
        refine bodyPost_ret (v := .tuple #[.agg (net 0 zz zz (.slice none 0 0) false).toArray, .int .i64 3]) (by simp [results, Try.results20, asAddr, load30 BF.out (net_length zz_sixteen zz_sixteen)]) rfl ⟨rfl, below_only W0.out FF.out (Nat.le_refl _) W0.out.size⟩
      · have hne : ((v : Int) != 4) = true := by simp; omega
        clear hk15
        generalize bs.getD 0 0 = u at *
        go_enter Try.func20, Try.ntmps20
        go_upto_region 1 with (fail)
        generalize w.alloc (.cells #[.int .u8 0, .int .u8 0, .int .u8 0, .int .u8 0, .int .u8 0, .int .u8 0, .int .u8 0, .int .u8 0, .int .u8 0, .int .u8 0, .int .u8 0, .int .u8 0, .int .u8 0, .int .u8 0, .int .u8 0, .int .u8 0, .int .u8 0, .int .u8 0, .int .u8 0, .int .u8 0, .int .u8 0, .int .u8 0, .int .u8 0, .int .u8 0, .int .u8 0, .int .u8 0, .int .u8 0, .int .u8 0, .int .u8 0, .int .u8 0, .int .u8 0, .int .u8 0, .int .u8 0, .slice none 0 0, .bool false] 54) = w0 at *
        go_wp2_with (first | (refine wpList_put rfl 54 size30 (.tmp 2) (.tmp 26) rfl w.heap.size (net 0 zz zz (.slice none 0 0) false) rfl rfl 54 (net 0 zz zz (.slice none 0 0) false) L0.out (net_length zz_sixteen zz_sixteen) (net_length zz_sixteen zz_sixteen) (net_one rfl) ?_; intro wf BF FF))
        refine bodyPost_ret (v := .tuple #[.agg (net 0 zz zz (.slice none 0 0) false).toArray, .int .i64 3]) (by simp [results, Try.results20, asAddr, load30 BF.out (net_length zz_sixteen zz_sixteen)]) rfl ⟨rfl, below_only W0.out FF.out (Nat.le_refl _) W0.out.size⟩
    · rw [if_neg h4] at hr
      have hv4 : bs.getD 0 0 / 16 = 4 := by omega
      have hk5 : 5 ≤ k := by omega
      have hk16 : k ≤ 15 := by omega
      clear hdiv h4
      by_cases hl : n < 4 * k
      · rw [if_pos hl] at hr
        subst hr
        clear hk15
        generalize bs.getD 0 0 = u at *
        go_enter Try.func20, Try.ntmps20
        go_upto_region 1 with (fail)
        generalize w.alloc (.cells #[.int .u8 0, .int .u8 0, .int .u8 0, .int .u8 0, .int .u8 0, .int .u8 0, .int .u8 0, .int .u8 0, .int .u8 0, .int .u8 0, .int .u8 0, .int .u8 0, .int .u8 0, .int .u8 0, .int .u8 0, .int .u8 0, .int .u8 0, .int .u8 0, .int .u8 0, .int .u8 0, .int .u8 0, .int .u8 0, .int .u8 0, .int .u8 0, .int .u8 0, .int .u8 0, .int .u8 0, .int .u8 0, .int .u8 0, .int .u8 0, .int .u8 0, .int .u8 0, .int .u8 0, .slice none 0 0, .bool false] 54) = w0 at *
        go_wp2_with (first | (refine wpList_put rfl 54 size30 (.tmp 2) (.tmp 32) rfl w.heap.size (net 0 zz zz (.slice none 0 0) false) rfl rfl 54 (net 0 zz zz (.slice none 0 0) false) L0.out (net_length zz_sixteen zz_sixteen) (net_length zz_sixteen zz_sixteen) (net_one rfl) ?_; intro wf BF FF))
        refine bodyPost_ret (v := .tuple #[.agg (net 0 zz zz (.slice none 0 0) false).toArray, .int .i64 1]) (by simp [results, Try.results20, asAddr, load30 BF.out (net_length zz_sixteen zz_sixteen)]) rfl ⟨rfl, below_only W0.out FF.out (Nat.le_refl _) W0.out.size⟩
      · rw [if_neg hl] at hr
        have HT := Lib.hid (two_b (some ad) n c bs 2 2 _ rfl H.out HO.out (by omega) hm)
        have hwb := wd_bd HO.out 2
        by_cases h5 : wd bs 2 < 4 * k ∨ n < wd bs 2
        · rw [if_pos h5] at hr
          subst hr
          generalize wd bs 2 = t at *
          by_cases h6 : t < 4 * k
          · clear hk15
            generalize bs.getD 0 0 = u at *
            go_enter Try.func20, Try.ntmps20
            go_upto_region 1 with (fail)
            generalize w.alloc (.cells #[.int .u8 0, .int .u8 0, .int .u8 0, .int .u8 0, .int .u8 0, .int .u8 0, .int .u8 0, .int .u8 0, .int .u8 0, .int .u8 0, .int .u8 0, .int .u8 0, .int .u8 0, .int .u8 0, .int .u8 0, .int .u8 0, .int .u8 0, .int .u8 0, .int .u8 0, .int .u8 0, .int .u8 0, .int .u8 0, .int .u8 0, .int .u8 0, .int .u8 0, .int .u8 0, .int .u8 0, .int .u8 0, .int .u8 0, .int .u8 0, .int .u8 0, .int .u8 0, .int .u8 0, .slice none 0 0, .bool false] 54) = w0 at *
            go_wp2_with (first | (refine wpList_put rfl 54 size30 (.tmp 2) (.tmp 45) rfl w.heap.size (net 0 zz zz (.slice none 0 0) false) rfl rfl 54 (net 0 zz zz (.slice none 0 0) false) L1.out (net_length zz_sixteen zz_sixteen) (net_length zz_sixteen zz_sixteen) (net_one rfl) ?_; intro wf BF FF) | (go_at_call 36; (with_reducible refine HT.out.mono ?_); rintro e x1 ⟨rfl, hb⟩; have W1 : Hid (Below w.heap.size w x1) := W0.out.trans (hb.mono W0.out.size); have L1 := Lib.hid (L0.out.far (Far.of_below hb nobody) (fun e => e)); have H1 := Lib.hid (H.out.below hb); clear hb))
            refine bodyPost_ret (v := .tuple #[.agg (net 0 zz zz (.slice none 0 0) false).toArray, .int .i64 5]) (by simp [results, Try.results20, asAddr, load30 BF.out (net_length zz_sixteen zz_sixteen)]) rfl ⟨rfl, below_only W1.out FF.out (Nat.le_refl _) W1.out.size⟩
          · have h7 : n < t := by omega
            clear hk15
            generalize bs.getD 0 0 = u at *
            go_enter Try.func20, Try.ntmps20
            go_upto_region 1 with (fail)
            generalize w.alloc (.cells #[.int .u8 0, .int .u8 0, .int .u8 0, .int .u8 0, .int .u8 0, .int .u8 0, .int .u8 0, .int .u8 0, .int .u8 0, .int .u8 0, .int .u8 0, .int .u8 0, .int .u8 0, .int .u8 0, .int .u8 0, .int .u8 0, .int .u8 0, .int .u8 0, .int .u8 0, .int .u8 0, .int .u8 0, .int .u8 0, .int .u8 0, .int .u8 0, .int .u8 0, .int .u8 0, .int .u8 0, .int .u8 0, .int .u8 0, .int .u8 0, .int .u8 0, .int .u8 0, .int .u8 0, .slice none 0 0, .bool false] 54) = w0 at *
            go_wp2_with (first | (refine wpList_put rfl 54 size30 (.tmp 2) (.tmp 45) rfl w.heap.size (net 0 zz zz (.slice none 0 0) false) rfl rfl 54 (net 0 zz zz (.slice none 0 0) false) L1.out (net_length zz_sixteen zz_sixteen) (net_length zz_sixteen zz_sixteen) (net_one rfl) ?_; intro wf BF FF) | (go_at_call 36; (with_reducible refine HT.out.mono ?_); rintro e x1 ⟨rfl, hb⟩; have W1 : Hid (Below w.heap.size w x1) := W0.out.trans (hb.mono W0.out.size); have L1 := Lib.hid (L0.out.far (Far.of_below hb nobody) (fun e => e)); have H1 := Lib.hid (H.out.below hb); clear hb))
            refine bodyPost_ret (v := .tuple #[.agg (net 0 zz zz (.slice none 0 0) false).toArray, .int .i64 5]) (by simp [results, Try.results20, asAddr, load30 BF.out (net_length zz_sixteen zz_sixteen)]) rfl ⟨rfl, below_only W1.out FF.out (Nat.le_refl _) W1.out.size⟩
        · rw [if_neg h5] at hr
          rw [show 4 * k / 2 = 2 * k by omega] at hr
          have hcut := fun W => run_upto (A := some ad) (n := n) (c := c) (k := 4 * k) W (by omega)
          have hcut4 : ∀ W, (Instr.slice 22 (.slice (some ad) n c) none (some (.int .i64 (4 * (k : Int)))) none).run Try.prog W = .ok (.slice (some ad) (4 * k) c) W := hcut
          have e := sm_take (bs := bs) (x := 4 * k) (k := 2 * k) (by omega)
          have hsb := sm_bd HO.out (2 * k)
          rw [← e] at hr hsb
          generalize wd bs 2 = t at *
          by_cases h6 : sm (bs.take (4 * k)) (2 * k) ≠ 65535
          · rw [if_pos h6] at hr
            subst hr
            have hne : ((sm (bs.take (4 * k)) (2 * k) : Int) != 65535) = true := by simp; omega
            clear e
            clear hk15
            generalize bs.getD 0 0 = u at *
            go_enter Try.func20, Try.ntmps20
            go_upto_region 1 with (fail)
            generalize w.alloc (.cells #[.int .u8 0, .int .u8 0, .int .u8 0, .int .u8 0, .int .u8 0, .int .u8 0, .int .u8 0, .int .u8 0, .int .u8 0, .int .u8 0, .int .u8 0, .int .u8 0, .int .u8 0, .int .u8 0, .int .u8 0, .int .u8 0, .int .u8 0, .int .u8 0, .int .u8 0, .int .u8 0, .int .u8 0, .int .u8 0, .int .u8 0, .int .u8 0, .int .u8 0, .int .u8 0, .int .u8 0, .int .u8 0, .int .u8 0, .int .u8 0, .int .u8 0, .int .u8 0, .int .u8 0, .slice none 0 0, .bool false] 54) = w0 at *
            go_wp2_with (first | (refine wpList_put rfl 54 size30 (.tmp 2) (.tmp 52) rfl w.heap.size (net 0 zz zz (.slice none 0 0) false) rfl rfl 54 (net 0 zz zz (.slice none 0 0) false) L2.out (net_length zz_sixteen zz_sixteen) (net_length zz_sixteen zz_sixteen) (net_one rfl) ?_; intro wf BF FF) | (go_at_call 36; (with_reducible refine HT.out.mono ?_); rintro e x1 ⟨rfl, hb⟩; have W1 : Hid (Below w.heap.size w x1) := W0.out.trans (hb.mono W0.out.size); have L1 := Lib.hid (L0.out.far (Far.of_below hb nobody) (fun e => e)); have H1 := Lib.hid (H.out.below hb); clear hb) | (go_at_call 37; (with_reducible refine (refSum_b (some ad) (4 * k) c (2 * k) (bs.take (4 * k)) _ (H1.out.upto (by omega)) (HO.out.take _) (by omega) (by omega)).mono ?_); rintro e x2 ⟨rfl, hb⟩; have W2 : Hid (Below w.heap.size w x2) := W1.out.trans (hb.mono W1.out.size); have L2 := Lib.hid (L1.out.far (Far.of_below hb nobody) (fun e => e)); have H2 := Lib.hid (H1.out.below hb); clear hb))
            refine bodyPost_ret (v := .tuple #[.agg (net 0 zz zz (.slice none 0 0) false).toArray, .int .i64 4]) (by simp [results, Try.results20, asAddr, load30 BF.out (net_length zz_sixteen zz_sixteen)]) rfl ⟨rfl, below_only W2.out FF.out (Nat.le_refl _) W2.out.size⟩
          · rw [if_neg h6] at hr
            exact absurd hr.symm h0
end Go.Proofs.Ytebpemknmcgamaa.inet
