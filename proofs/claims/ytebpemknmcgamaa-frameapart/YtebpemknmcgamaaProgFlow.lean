/- The contracts of the program's network and flow. Conditions: those of each theorem. -/
import Derived.Test.YtebpemknmcgamaaRefParse
namespace Go.Proofs.Ytebpemknmcgamaa
open Go.RowKit

set_option maxRecDepth 100000 in
set_option maxHeartbeats 2000000 in
theorem network_any (v : Bool) (A : Option Addr) (n c : Nat) (bs : List Int) (w : World) (h : Byts w A n bs) (ho : Octs bs) (hm : n ≤ 9223372036854775807) (hc : n ≤ c) :
    Calls Try.prog 33 #[.bool v, .slice A n c] w (NetOut w (nt v bs)) := by
  obtain ⟨R, hR⟩ : ∃ R, nt v bs = R := ⟨_, rfl⟩
  have S1 : Hid (Sixteen R.s) := by rw [← hR]; exact nt_src _ _
  have S2 : Hid (Sixteen R.d) := by rw [← hR]; exact nt_dst _ _
  have L1 : Hid (Blk (w.alloc (.cells #[.int .u8 0, .int .u8 0, .int .u8 0, .int .u8 0, .int .u8 0, .int .u8 0, .int .u8 0, .int .u8 0, .int .u8 0, .int .u8 0, .int .u8 0, .int .u8 0, .int .u8 0, .int .u8 0, .int .u8 0, .int .u8 0, .int .u8 0, .int .u8 0, .int .u8 0, .int .u8 0, .int .u8 0, .int .u8 0, .int .u8 0, .int .u8 0, .int .u8 0, .int .u8 0, .int .u8 0, .int .u8 0, .int .u8 0, .int .u8 0, .int .u8 0, .int .u8 0, .int .u8 0, .slice none 0 0, .bool false] 72)) w.heap.size 72 (net 0 zz zz (.slice none 0 0) false)) := Blk.new w 72 (net 0 zz zz (.slice none 0 0) false)
  have W1 : Hid (Below w.heap.size w (w.alloc (.cells #[.int .u8 0, .int .u8 0, .int .u8 0, .int .u8 0, .int .u8 0, .int .u8 0, .int .u8 0, .int .u8 0, .int .u8 0, .int .u8 0, .int .u8 0, .int .u8 0, .int .u8 0, .int .u8 0, .int .u8 0, .int .u8 0, .int .u8 0, .int .u8 0, .int .u8 0, .int .u8 0, .int .u8 0, .int .u8 0, .int .u8 0, .int .u8 0, .int .u8 0, .int .u8 0, .int .u8 0, .int .u8 0, .int .u8 0, .int .u8 0, .int .u8 0, .int .u8 0, .int .u8 0, .slice none 0 0, .bool false] 72))) := (Below.refl _ w).alloc (Nat.le_refl _) _
  have C4 : Hid (v = false → Calls Try.prog 42 #[.slice A n c] (w.alloc (.cells #[.int .u8 0, .int .u8 0, .int .u8 0, .int .u8 0, .int .u8 0, .int .u8 0, .int .u8 0, .int .u8 0, .int .u8 0, .int .u8 0, .int .u8 0, .int .u8 0, .int .u8 0, .int .u8 0, .int .u8 0, .int .u8 0, .int .u8 0, .int .u8 0, .int .u8 0, .int .u8 0, .int .u8 0, .int .u8 0, .int .u8 0, .int .u8 0, .int .u8 0, .int .u8 0, .int .u8 0, .int .u8 0, .int .u8 0, .int .u8 0, .int .u8 0, .int .u8 0, .int .u8 0, .slice none 0 0, .bool false] 72)) (NetOut (w.alloc (.cells #[.int .u8 0, .int .u8 0, .int .u8 0, .int .u8 0, .int .u8 0, .int .u8 0, .int .u8 0, .int .u8 0, .int .u8 0, .int .u8 0, .int .u8 0, .int .u8 0, .int .u8 0, .int .u8 0, .int .u8 0, .int .u8 0, .int .u8 0, .int .u8 0, .int .u8 0, .int .u8 0, .int .u8 0, .int .u8 0, .int .u8 0, .int .u8 0, .int .u8 0, .int .u8 0, .int .u8 0, .int .u8 0, .int .u8 0, .int .u8 0, .int .u8 0, .int .u8 0, .int .u8 0, .slice none 0 0, .bool false] 72)) R)) := fun e => by
    rw [← hR, e]
    exact four_any A n c bs _ (h.below W1.out) ho hm hc
  have C6 : Hid (v = true → Calls Try.prog 41 #[.slice A n c] (w.alloc (.cells #[.int .u8 0, .int .u8 0, .int .u8 0, .int .u8 0, .int .u8 0, .int .u8 0, .int .u8 0, .int .u8 0, .int .u8 0, .int .u8 0, .int .u8 0, .int .u8 0, .int .u8 0, .int .u8 0, .int .u8 0, .int .u8 0, .int .u8 0, .int .u8 0, .int .u8 0, .int .u8 0, .int .u8 0, .int .u8 0, .int .u8 0, .int .u8 0, .int .u8 0, .int .u8 0, .int .u8 0, .int .u8 0, .int .u8 0, .int .u8 0, .int .u8 0, .int .u8 0, .int .u8 0, .slice none 0 0, .bool false] 72)) (NetOut (w.alloc (.cells #[.int .u8 0, .int .u8 0, .int .u8 0, .int .u8 0, .int .u8 0, .int .u8 0, .int .u8 0, .int .u8 0, .int .u8 0, .int .u8 0, .int .u8 0, .int .u8 0, .int .u8 0, .int .u8 0, .int .u8 0, .int .u8 0, .int .u8 0, .int .u8 0, .int .u8 0, .int .u8 0, .int .u8 0, .int .u8 0, .int .u8 0, .int .u8 0, .int .u8 0, .int .u8 0, .int .u8 0, .int .u8 0, .int .u8 0, .int .u8 0, .int .u8 0, .int .u8 0, .int .u8 0, .slice none 0 0, .bool false] 72)) R)) := fun e => by
    rw [← hR, e]
    exact six_any A n c bs _ (h.below W1.out) ho hm hc
  rw [hR]
  clear h ho hm hc hR
  go_enter Try.func33, Try.ntmps33
  go_upto_region 1 with (fail)
  generalize (w.alloc (.cells #[.int .u8 0, .int .u8 0, .int .u8 0, .int .u8 0, .int .u8 0, .int .u8 0, .int .u8 0, .int .u8 0, .int .u8 0, .int .u8 0, .int .u8 0, .int .u8 0, .int .u8 0, .int .u8 0, .int .u8 0, .int .u8 0, .int .u8 0, .int .u8 0, .int .u8 0, .int .u8 0, .int .u8 0, .int .u8 0, .int .u8 0, .int .u8 0, .int .u8 0, .int .u8 0, .int .u8 0, .int .u8 0, .int .u8 0, .int .u8 0, .int .u8 0, .int .u8 0, .int .u8 0, .slice none 0 0, .bool false] 72)) = w1 at *
  cases v
  · have CN : Hid (Calls Try.prog 42 #[.slice A n c] w1 (NetOut w1 R)) := C4.out rfl
    clear C4 C6
    go_wp2_with (first | (go_at_call 42; (with_reducible refine CN.out.mono ?_); rintro e w2 ⟨B, k, rfl, hb, hk, hkc⟩; have HK := Lib.hid hk; have HC := Lib.hid hkc; have L2 := Lib.hid (kept L1.out hb); have W2 : Hid (Below w.heap.size w w2) := W1.out.trans (hb.mono W1.out.size); clear hb hk hkc) | (refine wpList_put rfl 72 size26 (.tmp 4) (.tmp 13) rfl w.heap.size (net R.q R.s R.d (.slice B R.ks.length k) R.f) rfl rfl 72 (net 0 zz zz (.slice none 0 0) false) L2.out (net_length zz_sixteen zz_sixteen) (net_length S1.out S2.out) (net_one rfl) ?_; intro w3 L3 F3))
    refine bodyPost_ret (v := .tuple #[.agg (net R.q R.s R.d (.slice B R.ks.length k) R.f).toArray, .int .i64 ((R.r : Nat) : Int)]) (by simp [results, Try.results33, asAddr, load26 L3.out (net_length S1.out S2.out)]) rfl ⟨B, k, rfl, below_only W2.out F3.out (Nat.le_refl _) W2.out.size, HK.out.only L2.out (by decide) F3.out, HC.out⟩
  · have CN : Hid (Calls Try.prog 41 #[.slice A n c] w1 (NetOut w1 R)) := C6.out rfl
    clear C4 C6
    go_wp2_with (first | (go_at_call 41; (with_reducible refine CN.out.mono ?_); rintro e w2 ⟨B, k, rfl, hb, hk, hkc⟩; have HK := Lib.hid hk; have HC := Lib.hid hkc; have L2 := Lib.hid (kept L1.out hb); have W2 : Hid (Below w.heap.size w w2) := W1.out.trans (hb.mono W1.out.size); clear hb hk hkc) | (refine wpList_put rfl 72 size26 (.tmp 4) (.tmp 9) rfl w.heap.size (net R.q R.s R.d (.slice B R.ks.length k) R.f) rfl rfl 72 (net 0 zz zz (.slice none 0 0) false) L2.out (net_length zz_sixteen zz_sixteen) (net_length S1.out S2.out) (net_one rfl) ?_; intro w3 L3 F3))
    refine bodyPost_ret (v := .tuple #[.agg (net R.q R.s R.d (.slice B R.ks.length k) R.f).toArray, .int .i64 ((R.r : Nat) : Int)]) (by simp [results, Try.results33, asAddr, load26 L3.out (net_length S1.out S2.out)]) rfl ⟨B, k, rfl, below_only W2.out F3.out (Nat.le_refl _) W2.out.size, HK.out.only L2.out (by decide) F3.out, HC.out⟩

/-- Nothing of a flow. -/
def flo0 : List Value := flo false 0 zz zz 0 0
theorem run_flo0 (w : World) : (Instr.build 27 #[]).run Try.prog w = .ok (.agg flo0.toArray) w := run_build w 27 _ _ (by kernel_rfl)
/-- Who talks to whom in a packet that tells R, or a reason. -/
def flw (v : Bool) (R : Ans) : List Value × Nat :=
  if R.r ≠ 0 then (flo0, R.r) else
  if (ports.look v R.q R.f R.ks).2.2 ≠ 0 then (flo0, (ports.look v R.q R.f R.ks).2.2) else (flo v R.q R.s R.d (ports.look v R.q R.f R.ks).1 (ports.look v R.q R.f R.ks).2.1, 0)
theorem load_flow {w : World} {g : Nat} {t : TypeId} {xs : List Value} (h : Blk w g t xs) (hl : xs.length = 36) : (loadVar 27 ⟨g, 0, none⟩).run Try.prog w = .ok (.agg xs.toArray) w :=
  run_loadVar_row w g t 27 xs.toArray (0, 0) _ h Try.underlying27 rfl (by rw [List.size_toArray, hl]; exact sizeOfflow)

set_option maxRecDepth 100000 in
set_option maxHeartbeats 4000000 in
theorem flow_any (v : Bool) (A : Option Addr) (n c r : Nat) (bs : List Int) (F : List Value) (w : World) (h : Byts w A n bs) (ho : Octs bs) (hm : n ≤ 9223372036854775807) (hc : n ≤ c) (hF : flw v (nt v bs) = (F, r)) :
    Calls Try.prog 17 #[.bool v, .slice A n c] w fun e w' => e = .returned (.tuple #[.agg F.toArray, .int .i64 ((r : Nat) : Int)]) ∧ Below w.heap.size w w' := by
  have L1 : Hid (Blk (w.alloc (.cells #[.bool false, .int .u8 0, .int .u8 0, .int .u8 0, .int .u8 0, .int .u8 0, .int .u8 0, .int .u8 0, .int .u8 0, .int .u8 0, .int .u8 0, .int .u8 0, .int .u8 0, .int .u8 0, .int .u8 0, .int .u8 0, .int .u8 0, .int .u8 0, .int .u8 0, .int .u8 0, .int .u8 0, .int .u8 0, .int .u8 0, .int .u8 0, .int .u8 0, .int .u8 0, .int .u8 0, .int .u8 0, .int .u8 0, .int .u8 0, .int .u8 0, .int .u8 0, .int .u8 0, .int .u8 0, .int .u16 0, .int .u16 0] 27)) w.heap.size 27 flo0) := Blk.new w 27 flo0
  have W1 : Hid (Below w.heap.size w (w.alloc (.cells #[.bool false, .int .u8 0, .int .u8 0, .int .u8 0, .int .u8 0, .int .u8 0, .int .u8 0, .int .u8 0, .int .u8 0, .int .u8 0, .int .u8 0, .int .u8 0, .int .u8 0, .int .u8 0, .int .u8 0, .int .u8 0, .int .u8 0, .int .u8 0, .int .u8 0, .int .u8 0, .int .u8 0, .int .u8 0, .int .u8 0, .int .u8 0, .int .u8 0, .int .u8 0, .int .u8 0, .int .u8 0, .int .u8 0, .int .u8 0, .int .u8 0, .int .u8 0, .int .u8 0, .int .u8 0, .int .u16 0, .int .u16 0] 27))) := (Below.refl _ w).alloc (Nat.le_refl _) _
  have CN := Lib.hid (network_any v A n c bs _ (h.below W1.out) ho hm hc)
  obtain ⟨R, hR⟩ : ∃ R, nt v bs = R := ⟨_, rfl⟩
  have S1 : Hid (Sixteen R.s) := by rw [← hR]; exact nt_src _ _
  have S2 : Hid (Sixteen R.d) := by rw [← hR]; exact nt_dst _ _
  have HOK : Hid (Octs R.ks) := by rw [← hR]; exact nt_octs v ho
  have HKL : Hid (R.ks.length ≤ 9223372036854775807) := by rw [← hR]; exact nt_short v (by have := h.1; omega)
  rw [hR] at CN hF
  have HF := Lib.hid hF
  have hb0 := run_flo0
  have LZ : Hid (flo0.length = 36) := (rfl : _ = _)
  clear h ho hm hc hF hR
  go_enter Try.func17, Try.ntmps17
  go_upto_region 1 with (fail)
  generalize (w.alloc (.cells #[.bool false, .int .u8 0, .int .u8 0, .int .u8 0, .int .u8 0, .int .u8 0, .int .u8 0, .int .u8 0, .int .u8 0, .int .u8 0, .int .u8 0, .int .u8 0, .int .u8 0, .int .u8 0, .int .u8 0, .int .u8 0, .int .u8 0, .int .u8 0, .int .u8 0, .int .u8 0, .int .u8 0, .int .u8 0, .int .u8 0, .int .u8 0, .int .u8 0, .int .u8 0, .int .u8 0, .int .u8 0, .int .u8 0, .int .u8 0, .int .u8 0, .int .u8 0, .int .u8 0, .int .u8 0, .int .u16 0, .int .u16 0] 27)) = w1 at *
  go_upto_region 2 with (first | (go_at_call 33; (with_reducible refine CN.out.mono ?_); rintro e w2 ⟨B, k, rfl, hb, hk, hkc⟩; have HK := Lib.hid hk; have HC := Lib.hid hkc; have L2 := Lib.hid (kept L1.out hb); have W2 : Hid (Below w.heap.size w w2) := W1.out.trans (hb.mono W1.out.size); clear hb hk hkc) | (refine wpList_var26 rfl (.tmp 6) (.tmp 14) rfl w2 (net R.q R.s R.d (.slice B R.ks.length k) R.f) rfl rfl (net_length S1.out S2.out) (net_one rfl) ?_; intro w3 V3 hb3; have L3 := Lib.hid (kept L2.out hb3.out); have K3 := Lib.hid (HK.out.below hb3.out); have W3 : Hid (Below w.heap.size w w3) := W2.out.trans (hb3.out.mono W2.out.size); clear hb3))
  have hg1 : w.heap.size + 1 ≤ w2.heap.size := by have := L2.out.lt; omega
  clear CN L1 W1 L2 W2 HK
  generalize w2.heap.size = G at *
  by_cases h9 : R.r ≠ 0
  · obtain ⟨rfl, rfl⟩ : flo0 = F ∧ R.r = r := by
      have := HF.out
      rw [flw, if_pos h9] at this
      simpa using this
    have hne : ((R.r : Int) != 0) = true := by simp; omega
    go_wp2_with (first | (refine wpList_lay rfl 27 36 sizeOfflow (.tmp 4) (.tmp 18) rfl w.heap.size flo0 rfl rfl 27 flo0 L3.out LZ.out LZ.out (one_all flo_each) ?_; intro wf BF FF))
    refine bodyPost_ret (v := .tuple #[.agg flo0.toArray, .int .i64 ((R.r : Nat) : Int)]) (by simp [results, Try.results17, asAddr, load_flow BF.out LZ.out]) rfl ⟨rfl, below_only W3.out FF.out (Nat.le_refl _) W3.out.size⟩
  · obtain ⟨⟨x, y, r11⟩, hQ⟩ : ∃ Q, ports.look v R.q R.f R.ks = Q := ⟨_, rfl⟩
    have HQ := Lib.hid hQ
    obtain ⟨bx, by_, _⟩ := ports.look_cases HOK.out hQ
    have hne : ((R.r : Int) != 0) = false := by simp; omega
    have hkl : R.ks.length ≤ 9223372036854775807 := HKL.out
    clear hQ
    go_upto_region 5 with (first | (refine wpList_whole26 (by rfl) (.tmp 6) rfl G rfl (net R.q R.s R.d (.slice B R.ks.length k) R.f) V3.out (net_length S1.out S2.out) ?_) | (go_at_call 34; (with_reducible refine (ports.parse_any v R.f R.q R.s R.d R.ks B R.ks.length k x y r11 _ S1.out S2.out K3.out.byts HOK.out hkl HC.out HQ.out).mono ?_); rintro e w4 ⟨rfl, hb⟩; have V4 := Lib.hid (kept V3.out hb); have L4 := Lib.hid (kept L3.out hb); have W4 : Hid (Below w.heap.size w w4) := W3.out.trans (hb.mono W3.out.size); clear hb))
    clear V3 L3 W3 K3
    by_cases h11 : r11 ≠ 0
    · obtain ⟨rfl, rfl⟩ : flo0 = F ∧ r11 = r := by
        have := HF.out
        rw [flw, if_neg h9, HQ.out, if_pos h11] at this
        simpa using this
      have hne2 : ((r11 : Int) != 0) = true := by simp; omega
      go_wp2_with (first | (refine wpList_lay rfl 27 36 sizeOfflow (.tmp 4) (.tmp 29) rfl w.heap.size flo0 rfl rfl 27 flo0 L4.out LZ.out LZ.out (one_all flo_each) ?_; intro wf BF FF))
      refine bodyPost_ret (v := .tuple #[.agg flo0.toArray, .int .i64 ((r11 : Nat) : Int)]) (by simp [results, Try.results17, asAddr, load_flow BF.out LZ.out]) rfl ⟨rfl, below_only W4.out FF.out (Nat.le_refl _) W4.out.size⟩
    · obtain rfl : r11 = 0 := by omega
      obtain ⟨rfl, rfl⟩ : flo v R.q R.s R.d x y = F ∧ 0 = r := by
        have := HF.out
        rw [flw, if_neg h9, HQ.out, if_neg (by simp)] at this
        simpa using this
      have k0 : w4.cell? ⟨G, 0, none⟩ = some (.int .u8 R.q) := (V4.out.cell 0).trans net_0
      have R1 := Lib.hid (net_src V4.out)
      have R2 := Lib.hid (net_dst S1.out V4.out)
      have HBF := Lib.hid <| run_flo (v := v) (p := R.q) (a := x) (b := y) S1.out S2.out
      have LF : Hid ((flo v R.q R.s R.d x y).length = 36) := flo_length S1.out S2.out
      go_wp2_with (first | (refine wpList_addr (by rfl) (.tmp 34) rfl G 1 rfl R.s R1.out S1.out ?_) | (refine wpList_addr (by rfl) (.tmp 36) rfl G 17 rfl R.d R2.out S2.out ?_) | (refine wpList_build rfl 27 [(0, .tmp 31), (1, .tmp 33), (2, .tmp 35), (3, .tmp 37), (4, .tmp 38), (5, .tmp 39)] rfl [(0, .bool v), (1, .int .u8 R.q), (2, .agg (cel R.s).toArray), (3, .agg (cel R.d).toArray), (4, .int .u16 ((x : Nat) : Int)), (5, .int .u16 ((y : Nat) : Int))] rfl (flo v R.q R.s R.d x y) (HBF.out _) ?_) | (refine wpList_lay rfl 27 36 sizeOfflow (.tmp 4) (.tmp 40) rfl w.heap.size (flo v R.q R.s R.d x y) rfl rfl 27 flo0 L4.out LZ.out LF.out (one_all flo_each) ?_; intro wf BF FF))
      refine bodyPost_ret (v := .tuple #[.agg (flo v R.q R.s R.d x y).toArray, .int .i64 0]) (by simp [results, Try.results17, asAddr, load_flow BF.out LF.out]) rfl ⟨rfl, below_only W4.out FF.out (Nat.le_refl _) W4.out.size⟩
end Go.Proofs.Ytebpemknmcgamaa
