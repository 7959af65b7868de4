/- The contract of the document's Parse of a frame. Conditions: those of each theorem. -/
import Derived.Test.YtebpemknmcgamaaNets
import Derived.Test.YtebpemknmcgamaaRefKey
namespace Go.Proofs.Ytebpemknmcgamaa
open Go.RowKit

/-- Where the packet begins lies within the frame. -/
theorem look_in {bs : List Int} {v : Bool} {a : Nat} : ∀ (k p : Nat), ether.look bs k p = (v, a, 0) → a ≤ bs.length
  | 0, _, h => by simp [ether.look] at h
  | k + 1, p, h => by
    unfold ether.look at h
    split at h
    · simp at h
    · split at h
      · exact look_in k _ h
      · split at h
        · simp only [Prod.mk.injEq] at h
          omega
        · simp at h
theorem kept {w x : World} {g : Nat} {t : TypeId} {xs : List Value} (h : Blk w g t xs) (hb : Below w.heap.size w x) : Blk x g t xs := h.far (Far.of_below hb nobody) (fun e => e)
theorem whole_at {w : World} {g : Nat} {t : TypeId} {cs : List Value} (h : Blk w g t cs) : w.rangeAt g 0 cs := fun j v hv => by rw [h.cell, Nat.zero_add]; exact hv
/-- What Parse leaves. -/
def FrameOut (w : World) (P : List Value) (r : Nat) (e : Ending) (w' : World) : Prop := e = .returned (.tuple #[.agg P.toArray, .int .i64 ((r : Nat) : Int)]) ∧ Below w.heap.size w w'

set_option maxRecDepth 100000 in
set_option maxHeartbeats 8000000 in
theorem refParse_any (A : Option Addr) (n c r : Nat) (bs : List Int) (P : List Value) (w : World) (h : Byts w A n bs) (ho : Octs bs) (hm : n ≤ 9223372036854775807) (hc : n ≤ c) (hP : pk bs = (P, r)) :
    Calls Try.prog 11 #[.slice A n c] w (FrameOut w P r) := by
  have hbn := h.1
  have L1 : Hid (Blk (w.alloc (.cells #[.int .i64 0, .bool false, .int .u8 0, .int .u8 0, .int .u8 0, .int .u8 0, .int .u8 0, .int .u8 0, .int .u8 0, .int .u8 0, .int .u8 0, .int .u8 0, .int .u8 0, .int .u8 0, .int .u8 0, .int .u8 0, .int .u8 0, .int .u8 0, .int .u8 0, .int .u8 0, .int .u8 0, .int .u8 0, .int .u8 0, .int .u8 0, .int .u8 0, .int .u8 0, .int .u8 0, .int .u8 0, .int .u8 0, .int .u8 0, .int .u8 0, .int .u8 0, .int .u8 0, .int .u8 0, .int .u8 0, .int .u16 0, .int .u16 0, .bool false, .int .u8 0, .int .u8 0, .int .u8 0, .int .u8 0, .int .u8 0, .int .u8 0, .int .u8 0, .int .i64 0] 32)) w.heap.size 32 pak0) := new_packet w
  have W1 : Hid (Below w.heap.size w (w.alloc (.cells #[.int .i64 0, .bool false, .int .u8 0, .int .u8 0, .int .u8 0, .int .u8 0, .int .u8 0, .int .u8 0, .int .u8 0, .int .u8 0, .int .u8 0, .int .u8 0, .int .u8 0, .int .u8 0, .int .u8 0, .int .u8 0, .int .u8 0, .int .u8 0, .int .u8 0, .int .u8 0, .int .u8 0, .int .u8 0, .int .u8 0, .int .u8 0, .int .u8 0, .int .u8 0, .int .u8 0, .int .u8 0, .int .u8 0, .int .u8 0, .int .u8 0, .int .u8 0, .int .u8 0, .int .u8 0, .int .u8 0, .int .u16 0, .int .u16 0, .bool false, .int .u8 0, .int .u8 0, .int .u8 0, .int .u8 0, .int .u8 0, .int .u8 0, .int .u8 0, .int .i64 0] 32))) := (Below.refl _ w).alloc (Nat.le_refl _) _
  have H := Lib.hid h
  have HO := Lib.hid ho
  have HP := Lib.hid hP
  have hb0 := run_pak0
  have LZ : Hid (pak0.length = 46) := (rfl : _ = _)
  clear h ho hP
  go_enter Try.func11, Try.ntmps11
  go_upto_region 1 with (fail)
  generalize (w.alloc (.cells #[.int .i64 0, .bool false, .int .u8 0, .int .u8 0, .int .u8 0, .int .u8 0, .int .u8 0, .int .u8 0, .int .u8 0, .int .u8 0, .int .u8 0, .int .u8 0, .int .u8 0, .int .u8 0, .int .u8 0, .int .u8 0, .int .u8 0, .int .u8 0, .int .u8 0, .int .u8 0, .int .u8 0, .int .u8 0, .int .u8 0, .int .u8 0, .int .u8 0, .int .u8 0, .int .u8 0, .int .u8 0, .int .u8 0, .int .u8 0, .int .u8 0, .int .u8 0, .int .u8 0, .int .u8 0, .int .u8 0, .int .u16 0, .int .u16 0, .bool false, .int .u8 0, .int .u8 0, .int .u8 0, .int .u8 0, .int .u8 0, .int .u8 0, .int .u8 0, .int .i64 0] 32)) = w1 at *
  by_cases hlong : 9216 < n
  · obtain ⟨rfl, rfl⟩ : pak0 = P ∧ 7 = r := by
      have := HP.out
      rw [pk_long (by omega)] at this
      simpa using this
    have hd1 : decide ((9216 : Int) < (n : Int)) = true := by simp; omega
    have hd2 : decide (9216 < n) = true := by simpa using hlong
    go_wp2_with (first | (refine wpList_lay rfl 32 46 sizeOfpacket (.tmp 2) (.tmp 14) rfl w.heap.size pak0 rfl rfl 32 pak0 L1.out LZ.out LZ.out (one_all pak_each) ?_; intro wf BF FF))
    refine bodyPost_ret (v := .tuple #[.agg pak0.toArray, .int .i64 7]) (by simp [results, Try.results11, asAddr, load_packet BF.out LZ.out]) rfl ⟨?_, below_only W1.out FF.out (Nat.le_refl _) W1.out.size⟩
    rfl
  · have hd1 : decide ((9216 : Int) < (n : Int)) = false := by simp; omega
    have hd2 : decide (9216 < n) = false := by simp; omega
    obtain ⟨⟨v, a, r8⟩, hL⟩ : ∃ R, ether.look bs 3 12 = R := ⟨_, rfl⟩
    have HL := Lib.hid hL
    clear hL
    go_upto_region 4 with (go_at_call 18; (with_reducible refine (ether.ref_any A n c bs v a r8 _ (H.out.below W1.out) HO.out hm HL.out).mono ?_); rintro e x1 ⟨rfl, hb⟩; have L2 := Lib.hid (kept L1.out hb); have W2 : Hid (Below w.heap.size w x1) := W1.out.trans (hb.mono W1.out.size); clear hb)
    by_cases h8 : r8 ≠ 0
    · obtain ⟨rfl, rfl⟩ : pak0 = P ∧ r8 = r := by
        have := HP.out
        rw [pk_link (by omega) HL.out h8] at this
        simpa using this
      have hne : ((r8 : Int) != 0) = true := by simp; omega
      go_wp2_with (first | (refine wpList_lay rfl 32 46 sizeOfpacket (.tmp 2) (.tmp 23) rfl w.heap.size pak0 rfl rfl 32 pak0 L2.out LZ.out LZ.out (one_all pak_each) ?_; intro wf BF FF))
      refine bodyPost_ret (v := .tuple #[.agg pak0.toArray, .int .i64 ((r8 : Nat) : Int)]) (by simp [results, Try.results11, asAddr, load_packet BF.out LZ.out]) rfl ⟨?_, below_only W2.out FF.out (Nat.le_refl _) W2.out.size⟩
      rfl
    · obtain rfl : r8 = 0 := by omega
      have ha := look_in _ _ HL.out
      obtain ⟨Z, hcut, hz⟩ := six.from_z (A := A) (bs := bs) (show a ≤ n by omega) hc
      obtain ⟨R, hR⟩ : ∃ R, nt v (bs.drop a) = R := ⟨_, rfl⟩
      have S1 : Hid (Sixteen R.s) := by rw [← hR]; exact nt_src _ _
      have S2 : Hid (Sixteen R.d) := by rw [← hR]; exact nt_dst _ _
      have HOK : Hid (Octs R.ks) := by rw [← hR]; exact nt_octs v (HO.out.drop a)
      have HR := Lib.hid hR
      have HKL : Hid (R.ks.length ≤ 9223372036854775807) := by rw [← hR]; exact nt_short v (by rw [List.length_drop]; omega)
      have V2 : Hid (Blk (x1.alloc (.cells #[.int .u8 0, .int .u8 0, .int .u8 0, .int .u8 0, .int .u8 0, .int .u8 0, .int .u8 0, .int .u8 0, .int .u8 0, .int .u8 0, .int .u8 0, .int .u8 0, .int .u8 0, .int .u8 0, .int .u8 0, .int .u8 0, .int .u8 0, .int .u8 0, .int .u8 0, .int .u8 0, .int .u8 0, .int .u8 0, .int .u8 0, .int .u8 0, .int .u8 0, .int .u8 0, .int .u8 0, .int .u8 0, .int .u8 0, .int .u8 0, .int .u8 0, .int .u8 0, .int .u8 0, .slice none 0 0, .bool false] 54)) x1.heap.size 54 (net 0 zz zz (.slice none 0 0) false)) := Blk.new x1 54 (net 0 zz zz (.slice none 0 0) false)
      have L3 := Lib.hid (L2.out.alloc (.cells #[.int .u8 0, .int .u8 0, .int .u8 0, .int .u8 0, .int .u8 0, .int .u8 0, .int .u8 0, .int .u8 0, .int .u8 0, .int .u8 0, .int .u8 0, .int .u8 0, .int .u8 0, .int .u8 0, .int .u8 0, .int .u8 0, .int .u8 0, .int .u8 0, .int .u8 0, .int .u8 0, .int .u8 0, .int .u8 0, .int .u8 0, .int .u8 0, .int .u8 0, .int .u8 0, .int .u8 0, .int .u8 0, .int .u8 0, .int .u8 0, .int .u8 0, .int .u8 0, .int .u8 0, .slice none 0 0, .bool false] 54))
      have W3 : Hid (Below w.heap.size w (x1.alloc (.cells #[.int .u8 0, .int .u8 0, .int .u8 0, .int .u8 0, .int .u8 0, .int .u8 0, .int .u8 0, .int .u8 0, .int .u8 0, .int .u8 0, .int .u8 0, .int .u8 0, .int .u8 0, .int .u8 0, .int .u8 0, .int .u8 0, .int .u8 0, .int .u8 0, .int .u8 0, .int .u8 0, .int .u8 0, .int .u8 0, .int .u8 0, .int .u8 0, .int .u8 0, .int .u8 0, .int .u8 0, .int .u8 0, .int .u8 0, .int .u8 0, .int .u8 0, .int .u8 0, .int .u8 0, .slice none 0 0, .bool false] 54))) := W2.out.alloc W2.out.size _
      have HZ := Lib.hid (hz _ (H.out.below W3.out))
      have hg1 : w.heap.size + 1 ≤ x1.heap.size := by have := L2.out.lt; omega
      have CN : Hid (Calls Try.prog (if v then 19 else 20) #[.slice Z (n - a) (c - a)] (x1.alloc (.cells #[.int .u8 0, .int .u8 0, .int .u8 0, .int .u8 0, .int .u8 0, .int .u8 0, .int .u8 0, .int .u8 0, .int .u8 0, .int .u8 0, .int .u8 0, .int .u8 0, .int .u8 0, .int .u8 0, .int .u8 0, .int .u8 0, .int .u8 0, .int .u8 0, .int .u8 0, .int .u8 0, .int .u8 0, .int .u8 0, .int .u8 0, .int .u8 0, .int .u8 0, .int .u8 0, .int .u8 0, .int .u8 0, .int .u8 0, .int .u8 0, .int .u8 0, .int .u8 0, .int .u8 0, .slice none 0 0, .bool false] 54)) (NetRef Z (n - a) (bs.drop a) (x1.alloc (.cells #[.int .u8 0, .int .u8 0, .int .u8 0, .int .u8 0, .int .u8 0, .int .u8 0, .int .u8 0, .int .u8 0, .int .u8 0, .int .u8 0, .int .u8 0, .int .u8 0, .int .u8 0, .int .u8 0, .int .u8 0, .int .u8 0, .int .u8 0, .int .u8 0, .int .u8 0, .int .u8 0, .int .u8 0, .int .u8 0, .int .u8 0, .int .u8 0, .int .u8 0, .int .u8 0, .int .u8 0, .int .u8 0, .int .u8 0, .int .u8 0, .int .u8 0, .int .u8 0, .int .u8 0, .slice none 0 0, .bool false] 54)) R)) := by
        rw [← hR]
        cases v
        · exact refFour_any Z (n - a) (c - a) (bs.drop a) _ HZ.out (HO.out.drop a) (by omega) (by omega)
        · exact refSix_any Z (n - a) (c - a) (bs.drop a) _ HZ.out (HO.out.drop a) (by omega) (by omega)
      have HZ2 : Hid (∀ W, Below w.heap.size w W → Byts W Z (n - a) (bs.drop a)) := fun W hW => hz _ (H.out.below hW)
      clear hz hR
      go_upto_if 25 with (fail)
      generalize (x1.alloc (.cells #[.int .u8 0, .int .u8 0, .int .u8 0, .int .u8 0, .int .u8 0, .int .u8 0, .int .u8 0, .int .u8 0, .int .u8 0, .int .u8 0, .int .u8 0, .int .u8 0, .int .u8 0, .int .u8 0, .int .u8 0, .int .u8 0, .int .u8 0, .int .u8 0, .int .u8 0, .int .u8 0, .int .u8 0, .int .u8 0, .int .u8 0, .int .u8 0, .int .u8 0, .int .u8 0, .int .u8 0, .int .u8 0, .int .u8 0, .int .u8 0, .int .u8 0, .int .u8 0, .int .u8 0, .slice none 0 0, .bool false] 54)) = x2 at *
      generalize x1.heap.size = G at *
      go_cut [6] from 26 to 39 (fun u wx => u = .int .i64 ((R.r : Nat) : Int) ∧ ∃ (B : Option Addr) (c3 : Nat), Blk wx G 54 (net R.q R.s R.d (.slice B R.ks.length c3) R.f) ∧ (∀ W, Byts W Z (n - a) (bs.drop a) → Byts W B R.ks.length R.ks) ∧ Blk wx w.heap.size 32 pak0 ∧ Below w.heap.size w wx)
      case first =>
        cases v
        · skip
          have CN2 : Hid (Calls Try.prog 20 #[.slice Z (n - a) (c - a)] x2 (NetRef Z (n - a) (bs.drop a) x2 R)) := CN.out
          go_wp2_with (first | (go_at_call 20; (with_reducible refine CN2.out.mono ?_); rintro e x3 ⟨B, c3, rfl, hb, hk⟩; have HK := Lib.hid hk; have V3 := Lib.hid (kept V2.out hb); have L4 := Lib.hid (kept L3.out hb); have W4 : Hid (Below w.heap.size w x3) := W3.out.trans (hb.mono W3.out.size); clear hb hk) | (refine wpList_put rfl 54 size30 (.tmp 7) (.tmp 38) rfl G (net R.q R.s R.d (.slice B R.ks.length c3) R.f) rfl rfl 54 (net 0 zz zz (.slice none 0 0) false) V3.out (net_length zz_sixteen zz_sixteen) (net_length S1.out S2.out) (net_one rfl) ?_; intro x4 V4 F4; have L5 := Lib.hid (L4.out.far F4.out (fun e => by have e2 : w.heap.size = G := e; omega)); have W5 : Hid (Below w.heap.size w x4) := below_only W4.out F4.out (by omega) W4.out.size))
          go_meet
          case rel => exact ⟨rfl, B, c3, V4.out, HK.out, L5.out, W5.out⟩
        · skip
          have CN2 : Hid (Calls Try.prog 19 #[.slice Z (n - a) (c - a)] x2 (NetRef Z (n - a) (bs.drop a) x2 R)) := CN.out
          go_wp2_with (first | (go_at_call 19; (with_reducible refine CN2.out.mono ?_); rintro e x3 ⟨B, c3, rfl, hb, hk⟩; have HK := Lib.hid hk; have V3 := Lib.hid (kept V2.out hb); have L4 := Lib.hid (kept L3.out hb); have W4 : Hid (Below w.heap.size w x3) := W3.out.trans (hb.mono W3.out.size); clear hb hk) | (refine wpList_put rfl 54 size30 (.tmp 7) (.tmp 31) rfl G (net R.q R.s R.d (.slice B R.ks.length c3) R.f) rfl rfl 54 (net 0 zz zz (.slice none 0 0) false) V3.out (net_length zz_sixteen zz_sixteen) (net_length S1.out S2.out) (net_one rfl) ?_; intro x4 V4 F4; have L5 := Lib.hid (L4.out.far F4.out (fun e => by have e2 : w.heap.size = G := e; omega)); have W5 : Hid (Below w.heap.size w x4) := below_only W4.out F4.out (by omega) W4.out.size))
          go_meet
          case rel => exact ⟨rfl, B, c3, V4.out, HK.out, L5.out, W5.out⟩
      case rest =>
        obtain ⟨rfl, B, c3, hV, hBy, hL, hW⟩ := hcut
        clear V2 L3 W3 CN hcut HZ L2 W2
        have V4 := Lib.hid hV
        have HBY := Lib.hid hBy
        have L5 := Lib.hid hL
        have W5 := Lib.hid hW
        clear hV hBy hL hW
        by_cases h9 : R.r ≠ 0
        · obtain ⟨rfl, rfl⟩ : pak0 = P ∧ R.r = r := by
            have := HP.out
            rw [pk_net (by omega) HL.out HR.out h9] at this
            simpa using this
          have hne : ((R.r : Int) != 0) = true := by simp; omega
          go_wp2_with (first | (refine wpList_lay rfl 32 46 sizeOfpacket (.tmp 2) (.tmp 42) rfl w.heap.size pak0 rfl rfl 32 pak0 L5.out LZ.out LZ.out (one_all pak_each) ?_; intro wf BF FF))
          refine bodyPost_ret (v := .tuple #[.agg pak0.toArray, .int .i64 ((R.r : Nat) : Int)]) (by simp [results, Try.results11, asAddr, load_packet BF.out LZ.out]) rfl ⟨?_, below_only W5.out FF.out (Nat.le_refl _) W5.out.size⟩
          rfl
        · obtain ⟨⟨x, y, r11⟩, hQ⟩ : ∃ Q, ports.look v R.q R.f R.ks = Q := ⟨_, rfl⟩
          have HQ := Lib.hid hQ
          obtain ⟨bx, by_, _⟩ := ports.look_cases HOK.out hQ
          have hne : ((R.r : Int) != 0) = false := by simp; omega
          have hkl : R.ks.length ≤ 9223372036854775807 := HKL.out
          clear hQ
          go_upto_region 13 with (first | (refine wpList_whole30 (by rfl) (.tmp 7) rfl G rfl (net R.q R.s R.d (.slice B R.ks.length c3) R.f) V4.out (net_length S1.out S2.out) ?_) | (go_at_call 21; (with_reducible refine (ports.ref_any v R.f R.q R.s R.d R.ks B R.ks.length c3 x y r11 _ S1.out S2.out (HBY.out _ (HZ2.out _ W5.out)) HOK.out hkl HQ.out).mono ?_); rintro e x5 ⟨rfl, hb⟩; have V5 := Lib.hid (kept V4.out hb); have L6 := Lib.hid (kept L5.out hb); have W6 : Hid (Below w.heap.size w x5) := W5.out.trans (hb.mono W5.out.size); clear hb))
          by_cases h11 : r11 ≠ 0
          · obtain ⟨rfl, rfl⟩ : pak0 = P ∧ r11 = r := by
              have := HP.out
              rw [pk_port (by omega) HL.out HR.out (by omega) HQ.out h11] at this
              simpa using this
            have hne2 : ((r11 : Int) != 0) = true := by simp; omega
            go_wp2_with (first | (refine wpList_lay rfl 32 46 sizeOfpacket (.tmp 2) (.tmp 53) rfl w.heap.size pak0 rfl rfl 32 pak0 L6.out LZ.out LZ.out (one_all pak_each) ?_; intro wf BF FF))
            refine bodyPost_ret (v := .tuple #[.agg pak0.toArray, .int .i64 ((r11 : Nat) : Int)]) (by simp [results, Try.results11, asAddr, load_packet BF.out LZ.out]) rfl ⟨?_, below_only W6.out FF.out (Nat.le_refl _) W6.out.size⟩
            rfl
          · obtain rfl : r11 = 0 := by omega
            obtain ⟨rfl, rfl⟩ : pak n v R.q R.s R.d x y = P ∧ 0 = r := by
              have := HP.out
              rw [pk_fine (by omega) HL.out HR.out (by omega) HQ.out, hbn] at this
              simpa using this
            have k0 : x5.cell? ⟨G, 0, none⟩ = some (.int .u8 R.q) := (V5.out.cell 0).trans net_0
            have R1 := Lib.hid (net_src V5.out)
            have R2 := Lib.hid (net_dst S1.out V5.out)
            have HBF := Lib.hid <| run_flo (v := v) (p := R.q) (a := x) (b := y) S1.out S2.out
            have HBP := Lib.hid <| run_pak (v := v) (p := R.q) (a := x) (b := y) (n := n) S1.out S2.out
            have LF : Hid ((flo v R.q R.s R.d x y).length = 36) := flo_length S1.out S2.out
            go_upto_region 16 with (first | (refine wpList_addr (by rfl) (.tmp 58) rfl G 1 rfl R.s R1.out S1.out ?_) | (refine wpList_addr (by rfl) (.tmp 60) rfl G 17 rfl R.d R2.out S2.out ?_) | (refine wpList_build rfl 27 [(0, .tmp 55), (1, .tmp 57), (2, .tmp 59), (3, .tmp 61), (4, .tmp 63), (5, .tmp 65)] rfl [(0, .bool v), (1, .int .u8 R.q), (2, .agg (cel R.s).toArray), (3, .agg (cel R.d).toArray), (4, .int .u16 ((x : Nat) : Int)), (5, .int .u16 ((y : Nat) : Int))] rfl (flo v R.q R.s R.d x y) (HBF.out _) ?_) | (refine wpList_flow rfl (.tmp 10) (.tmp 66) rfl x5 (flo v R.q R.s R.d x y) rfl rfl LF.out (one_all flo_each) ?_; intro x6 F6 hb6; have L7 := Lib.hid (kept L6.out hb6.out); have W7 : Hid (Below w.heap.size w x6) := W6.out.trans (hb6.out.mono W6.out.size); clear hb6))
            refine wp_region_held_drew (S := fun W => Blk W x5.heap.size 27 (flo v R.q R.s R.d x y)) (by kernel_rfl) ?_ (fun hHeld => ?_)
            · exact F6.out
            refine wpAnyH_take (i := 0) (oi := ⟨some 67, _, _, _, _, _⟩) (v := .agg (flo v R.q R.s R.d x y).toArray) rfl (by kernel_rfl) (by kernel_rfl) (by kernel_rfl) (fun _ _ _ h => h) (yieldsIf_load_mid (by rfl) 27 (.tmp 10) rfl x5.heap.size 0 rfl (flo v R.q R.s R.d x y) _ (fun _ hW => whole_at hW) Try.underlying27 rfl (by rw [LF.out]; exact sizeOfflow)) (by assumption) ?_
            try simp only [Act.put, List.setIfInBounds_toArray, List.set_cons_zero, List.set_cons_succ]
            refine wpAnyH_take (i := 1) (oi := ⟨some 68, _, _, _, _, _⟩) (v := .agg (flo v R.q R.s R.d x y).toArray) rfl (by kernel_rfl) (by kernel_rfl) (by kernel_rfl) (fun _ _ _ h => h) (yieldsIf_load_mid (by rfl) 27 (.tmp 10) rfl x5.heap.size 0 rfl (flo v R.q R.s R.d x y) _ (fun _ hW => whole_at hW) Try.underlying27 rfl (by rw [LF.out]; exact sizeOfflow)) (by assumption) ?_
            try simp only [Act.put, List.setIfInBounds_toArray, List.set_cons_zero, List.set_cons_succ]
            refine wpAnyH_take (i := 3) (oi := ⟨some 70, _, _, _, _, _⟩) (v := ?_) rfl (by kernel_rfl) (by kernel_rfl) (by kernel_rfl) (fun _ _ _ h => h) (Or.inl ⟨by rfl, ?_⟩) (by assumption) ?_
            rotate_left
            · (intro W hSW; go_simp)
              first | done | (with_reducible rfl)
            try simp only [Act.put, List.setIfInBounds_toArray, List.set_cons_zero, List.set_cons_succ]
            refine wpAnyH_take (i := 4) (oi := ⟨some 71, _, _, _, _, _⟩) (v := ?_) rfl (by kernel_rfl) (by kernel_rfl) (by kernel_rfl) (fun _ _ _ h => h) (Or.inl ⟨by rfl, ?_⟩) (by assumption) ?_
            rotate_left
            · (intro W hSW; go_simp)
              first | done | (with_reducible rfl)
            try simp only [Act.put, List.setIfInBounds_toArray, List.set_cons_zero, List.set_cons_succ]
            refine wpAnyH_ready (rs := [2]) (by kernel_rfl) (by simp) ?_
            refine AllReadyH.cons (o := ⟨some 69, _, _, _, _, _⟩) rfl (fun K hK => ?_) AllReadyH.nil
            go_simp
            refine (refPrefix_any v R.q R.s R.d x y _ S1.out).mono ?_
            rintro e x7 ⟨rfl, hb⟩
            have L8 : Hid (Blk x7 w.heap.size 32 pak0) := kept (w := x6.drew) L7.out hb
            have F8 : Hid (Blk x7 x5.heap.size 27 (flo v R.q R.s R.d x y)) := kept (w := x6.drew) F6.out hb
            have W8 : Hid (Below w.heap.size w x7) := W7.out.drew.trans (hb.mono W7.out.size)
            clear hb
            go_simp
            refine hK.out _ _ ?_ (fun hHeld => ?_)
            · exact F8.out
            clear hK K
            try simp only [Act.put, List.setIfInBounds_toArray, List.set_cons_zero, List.set_cons_succ]
            refine wpAnyH_take (i := 5) (oi := ⟨some 72, _, _, _, _, _⟩) (v := .agg (pak n v R.q R.s R.d x y).toArray) rfl (by kernel_rfl) (by kernel_rfl) (by kernel_rfl) (fun _ _ _ h => h) (yields_build (by rfl) 32 [(1, .tmp 67), (2, .tmp 69), (3, .tmp 71)] rfl [(1, .agg (flo v R.q R.s R.d x y).toArray), (2, .agg (prx v R.s).toArray), (3, .int .i64 ((n : Nat) : Int))] rfl (pak n v R.q R.s R.d x y) HBP.out) (by assumption) ?_
            try simp only [Act.put, List.setIfInBounds_toArray, List.set_cons_zero, List.set_cons_succ]
            refine wpAnyH_ready (rs := [6]) (by kernel_rfl) (by simp) ?_
            refine AllReadyH.cons (o := ⟨none, _, _, _, _, _⟩) rfl (fun K hK => ?_) AllReadyH.nil
            refine step_lay (by rfl) 32 46 sizeOfpacket (.tmp 2) (.tmp 72) (by rfl) w.heap.size (pak n v R.q R.s R.d x y) (by rfl) (by rfl) 32 pak0 L8.out LZ.out (pak_length S1.out S2.out) (one_all pak_each) ?_
            intro x8 L9 F9
            have hne3 : x5.heap.size ≠ w.heap.size := by have := L6.out.lt; omega
            refine hK.out _ _ ?_ (fun hHeld => ?_)
            · exact F8.out.far F9.out hne3
            clear hK K
            try simp only [Act.put]
            refine wpAnyH_take (i := 7) (oi := ⟨some 3, _, _, _, _, _⟩) (v := ?_) rfl (by kernel_rfl) (by kernel_rfl) (by kernel_rfl) (fun _ _ _ h => h) (Or.inl ⟨by rfl, ?_⟩) (by assumption) ?_
            rotate_left
            · (intro W hSW; go_simp)
              first | done | (with_reducible rfl)
            try simp only [Act.put, List.setIfInBounds_toArray, List.set_cons_zero, List.set_cons_succ]
            refine wpAnyH_done (by kernel_rfl) ?_ _
            have W9 : Hid (Below w.heap.size w x8) := below_only W8.out F9.out (Nat.le_refl _) W8.out.size
            go_wp2
            refine bodyPost_ret (v := .tuple #[.agg (pak n v R.q R.s R.d x y).toArray, .int .i64 0]) (by simp [results, Try.results11, asAddr, load_packet L9.out (pak_length S1.out S2.out)]) rfl ⟨rfl, W9.out⟩
end Go.Proofs.Ytebpemknmcgamaa
