/- The contract of inet's Parse. Conditions: those of each theorem. -/
import Derived.Test.YtebpemknmcgamaaInetRefOk
namespace Go.Proofs.Ytebpemknmcgamaa.inet
open Go.RowKit

set_option maxHeartbeats 4000000 in
theorem parse_no (A : Option Addr) (n c r : Nat) (bs : List Int) (w : World) (h : Byts w A n bs) (ho : Octs bs) (hm : n ≤ 9223372036854775807) (hc : n ≤ c) (hr : why bs = r) (h0 : r ≠ 0) :
    Calls Try.prog 42 #[.slice A n c] w fun e w' => e = .returned (.tuple #[.agg (net 0 zz zz (.slice none 0 0) false).toArray, .int .i64 ((r : Nat) : Int)]) ∧ Below w.heap.size w w' := by
  have W0 : Hid (Below w.heap.size w (w.alloc (.cells #[.int .u8 0, .int .u8 0, .int .u8 0, .int .u8 0, .int .u8 0, .int .u8 0, .int .u8 0, .int .u8 0, .int .u8 0, .int .u8 0, .int .u8 0, .int .u8 0, .int .u8 0, .int .u8 0, .int .u8 0, .int .u8 0, .int .u8 0, .int .u8 0, .int .u8 0, .int .u8 0, .int .u8 0, .int .u8 0, .int .u8 0, .int .u8 0, .int .u8 0, .int .u8 0, .int .u8 0, .int .u8 0, .int .u8 0, .int .u8 0, .int .u8 0, .int .u8 0, .int .u8 0, .slice none 0 0, .bool false] 72))) := (Below.refl _ w).alloc (Nat.le_refl _) _
  have L0 : Hid (Blk (w.alloc (.cells #[.int .u8 0, .int .u8 0, .int .u8 0, .int .u8 0, .int .u8 0, .int .u8 0, .int .u8 0, .int .u8 0, .int .u8 0, .int .u8 0, .int .u8 0, .int .u8 0, .int .u8 0, .int .u8 0, .int .u8 0, .int .u8 0, .int .u8 0, .int .u8 0, .int .u8 0, .int .u8 0, .int .u8 0, .int .u8 0, .int .u8 0, .int .u8 0, .int .u8 0, .int .u8 0, .int .u8 0, .int .u8 0, .int .u8 0, .int .u8 0, .int .u8 0, .int .u8 0, .int .u8 0, .slice none 0 0, .bool false] 72)) w.heap.size 72 (net 0 zz zz (.slice none 0 0) false)) := Blk.new w 72 (net 0 zz zz (.slice none 0 0) false)
  have HC := Lib.hid (fault_b A n c r bs _ (h.below W0.out) ho hm hc hr)
  have hne : ((r : Int) != 0) = true := by simp; omega
  clear h ho hr
  go_enter Try.func42, Try.ntmps42
  go_upto_region 1 with (fail)
  generalize w.alloc (.cells #[.int .u8 0, .int .u8 0, .int .u8 0, .int .u8 0, .int .u8 0, .int .u8 0, .int .u8 0, .int .u8 0, .int .u8 0, .int .u8 0, .int .u8 0, .int .u8 0, .int .u8 0, .int .u8 0, .int .u8 0, .int .u8 0, .int .u8 0, .int .u8 0, .int .u8 0, .int .u8 0, .int .u8 0, .int .u8 0, .int .u8 0, .int .u8 0, .int .u8 0, .int .u8 0, .int .u8 0, .int .u8 0, .int .u8 0, .int .u8 0, .int .u8 0, .int .u8 0, .int .u8 0, .slice none 0 0, .bool false] 72) = w0 at *
  go_wp2_with (first | (refine wpList_put rfl 72 size26 (.tmp 2) (.tmp 10) rfl w.heap.size (net 0 zz zz (.slice none 0 0) false) rfl rfl 72 (net 0 zz zz (.slice none 0 0) false) L1.out (net_length zz_sixteen zz_sixteen) (net_length zz_sixteen zz_sixteen) (net_one rfl) ?_; intro wf BF FF) | (go_at_call 48; (with_reducible refine HC.out.mono ?_); rintro e x1 ⟨rfl, hb⟩; have W1 : Hid (Below w.heap.size w x1) := W0.out.trans (hb.mono W0.out.size); have L1 := Lib.hid (L0.out.far (Far.of_below hb nobody) (fun e => e)); clear hb))
  refine bodyPost_ret (v := .tuple #[.agg (net 0 zz zz (.slice none 0 0) false).toArray, .int .i64 ((r : Nat) : Int)]) (by simp [results, Try.results42, asAddr, load26 BF.out (net_length zz_sixteen zz_sixteen)]) rfl ⟨rfl, below_only W1.out FF.out (Nat.le_refl _) W1.out.size⟩

theorem copied_b (A : Option Addr) (n c : Nat) (bs : List Int) (w : World) (hn : n ≤ 1000000) (h : Byts w A n bs) :
    Calls Try.prog 49 #[.slice A n c] w fun e w' => ∃ g, e = .returned (.slice (some ⟨g, 0, none⟩) n n) ∧ Below w.heap.size w w' ∧ w.heap.size ≤ g ∧ Blk w' g 5 (cel bs) :=
  (copied_any A n c bs w hn h).mono (by rintro e w' ⟨rfl, rfl⟩; exact ⟨_, rfl, (Below.refl _ _).alloc (Nat.le_refl _) _, Nat.le_refl _, Blk.new w 5 (cel bs)⟩)
theorem net_copy1 {p : Int} {bs d : List Int} {B : Value} {f : Bool} : (net p zz d B f).take 1 ++ (cel ((bs.take 16).drop 12) ++ (net p zz d B f).drop (1 + 4)) = net p (adr bs 12 4) d B f := by
  rw [List.drop_take]
  simp [net, adr, cel, zz]
theorem net_copy2 {p : Int} {bs s : List Int} {B : Value} {f : Bool} (hs : Sixteen s) : (net p s zz B f).take 17 ++ (cel ((bs.take 20).drop 16) ++ (net p s zz B f).drop (17 + 4)) = net p s (adr bs 16 4) B f := by
  unfold Sixteen at hs
  rw [List.drop_take]
  simp [net, adr, cel, zz, hs, List.drop_append]

set_option maxRecDepth 100000 in
set_option maxHeartbeats 4000000 in
theorem parse_ok (A : Option Addr) (n c : Nat) (bs : List Int) (w : World) (h : Byts w A n bs) (ho : Octs bs) (hm : n ≤ 9223372036854775807) (hc : n ≤ c) (hr : why bs = 0) :
    Calls Try.prog 42 #[.slice A n c] w fun e w' => ∃ g, e = .returned (.tuple #[.agg (toldV bs (.slice (some ⟨g, 0, none⟩) (much bs) (much bs))).toArray, .int .i64 0]) ∧ Below w.heap.size w w' ∧ w.heap.size ≤ g ∧ Blk w' g 5 (cel (body bs)) := by
  have hbn := h.1
  have b9 := ho.at_ 9
  obtain ⟨f1, f2, f3, f4, f5, _, _⟩ := why_fine hr
  have W0 : Hid (Below w.heap.size w (w.alloc (.cells #[.int .u8 0, .int .u8 0, .int .u8 0, .int .u8 0, .int .u8 0, .int .u8 0, .int .u8 0, .int .u8 0, .int .u8 0, .int .u8 0, .int .u8 0, .int .u8 0, .int .u8 0, .int .u8 0, .int .u8 0, .int .u8 0, .int .u8 0, .int .u8 0, .int .u8 0, .int .u8 0, .int .u8 0, .int .u8 0, .int .u8 0, .int .u8 0, .int .u8 0, .int .u8 0, .int .u8 0, .int .u8 0, .int .u8 0, .int .u8 0, .int .u8 0, .int .u8 0, .int .u8 0, .slice none 0 0, .bool false] 72))) := (Below.refl _ w).alloc (Nat.le_refl _) _
  have L0 : Hid (Blk (w.alloc (.cells #[.int .u8 0, .int .u8 0, .int .u8 0, .int .u8 0, .int .u8 0, .int .u8 0, .int .u8 0, .int .u8 0, .int .u8 0, .int .u8 0, .int .u8 0, .int .u8 0, .int .u8 0, .int .u8 0, .int .u8 0, .int .u8 0, .int .u8 0, .int .u8 0, .int .u8 0, .int .u8 0, .int .u8 0, .int .u8 0, .int .u8 0, .int .u8 0, .int .u8 0, .int .u8 0, .int .u8 0, .int .u8 0, .int .u8 0, .int .u8 0, .int .u8 0, .int .u8 0, .int .u8 0, .slice none 0 0, .bool false] 72)) w.heap.size 72 (net 0 zz zz (.slice none 0 0) false)) := Blk.new w 72 (net 0 zz zz (.slice none 0 0) false)
  have H : Hid (Byts (w.alloc (.cells #[.int .u8 0, .int .u8 0, .int .u8 0, .int .u8 0, .int .u8 0, .int .u8 0, .int .u8 0, .int .u8 0, .int .u8 0, .int .u8 0, .int .u8 0, .int .u8 0, .int .u8 0, .int .u8 0, .int .u8 0, .int .u8 0, .int .u8 0, .int .u8 0, .int .u8 0, .int .u8 0, .int .u8 0, .int .u8 0, .int .u8 0, .int .u8 0, .int .u8 0, .int .u8 0, .int .u8 0, .int .u8 0, .int .u8 0, .int .u8 0, .int .u8 0, .int .u8 0, .int .u8 0, .slice none 0 0, .bool false] 72)) A n bs) := h.below W0.out
  have HC := Lib.hid (fault_b A n c 0 bs _ H.out ho hm hc hr)
  have HO := Lib.hid ho
  have HH := Lib.hid h
  clear h ho hr
  obtain ⟨ad, rfl, _⟩ := H.out.2 (by omega)
  have HM : Hid (much bs = wd bs 2 - hd bs) := (rfl : _ = _)
  have hwb := wd_bd HO.out 2
  obtain ⟨Z, hmid, hz⟩ := mid_z (A := some ad) (n := n) (c := c) (p := hd bs) (q := wd bs 2) (bs := bs) f4 (by omega) hc
  have HZ : Hid (∀ w, Byts w (some ad) n bs → Byts w Z (wd bs 2 - hd bs) (body bs)) := hz
  obtain ⟨Z2, hcut2, hz2⟩ := from_z (A := some ad) (bs := bs) (show 2 ≤ n by omega) hc
  have hc2 : ∀ W, (Instr.slice 22 (.slice (some ad) n c) (some (.int .i64 2)) none none).run Try.prog W = .ok (.slice Z2 (n - 2) (c - 2)) W := hcut2
  obtain ⟨Z6, hcut6, hz6⟩ := from_z (A := some ad) (bs := bs) (show 6 ≤ n by omega) hc
  have hc6 : ∀ W, (Instr.slice 22 (.slice (some ad) n c) (some (.int .i64 6)) none none).run Try.prog W = .ok (.slice Z6 (n - 6) (c - 6)) W := hcut6
  obtain ⟨Y1, hcut7, hy1⟩ := mid_z (A := some ad) (n := n) (c := c) (p := 12) (q := 16) (bs := bs) (by omega) (by omega) hc
  have hm1 : ∀ W, (Instr.slice 22 (.slice (some ad) n c) (some (.int .i64 12)) (some (.int .i64 16)) none).run Try.prog W = .ok (.slice Y1 4 (c - 12)) W := hcut7
  have HY1 : Hid (∀ w, Byts w (some ad) n bs → Byts w Y1 4 ((bs.take 16).drop 12)) := hy1
  obtain ⟨Y2, hcut8, hy2⟩ := mid_z (A := some ad) (n := n) (c := c) (p := 16) (q := 20) (bs := bs) (by omega) (by omega) hc
  have hm2 : ∀ W, (Instr.slice 22 (.slice (some ad) n c) (some (.int .i64 16)) (some (.int .i64 20)) none).run Try.prog W = .ok (.slice Y2 4 (c - 16)) W := hcut8
  have HY2 : Hid (∀ w, Byts w (some ad) n bs → Byts w Y2 4 ((bs.take 20).drop 16)) := hy2
  have HZ2 := Lib.hid hz2
  have HZ6 := Lib.hid hz6
  clear hz hcut2 hcut6 hcut7 hcut8 hy1 hy2 hz2 hz6
  go_enter Try.func42, Try.ntmps42
  go_upto_region 1 with (fail)
  generalize w.alloc (.cells #[.int .u8 0, .int .u8 0, .int .u8 0, .int .u8 0, .int .u8 0, .int .u8 0, .int .u8 0, .int .u8 0, .int .u8 0, .int .u8 0, .int .u8 0, .int .u8 0, .int .u8 0, .int .u8 0, .int .u8 0, .int .u8 0, .int .u8 0, .int .u8 0, .int .u8 0, .int .u8 0, .int .u8 0, .int .u8 0, .int .u8 0, .int .u8 0, .int .u8 0, .int .u8 0, .int .u8 0, .int .u8 0, .int .u8 0, .int .u8 0, .int .u8 0, .int .u8 0, .int .u8 0, .slice none 0 0, .bool false] 72) = w0 at *
  go_upto_region 4 with (first | (go_at_call 48; (with_reducible refine HC.out.mono ?_); rintro e x2 ⟨rfl, hb⟩; have W2 : Hid (Below w.heap.size w x2) := W0.out.trans (hb.mono W0.out.size); have L2 := Lib.hid (L0.out.far (Far.of_below hb nobody) (fun e => e)); have H2 := Lib.hid (H.out.below hb); clear hb))
  have C5 : Hid (∀ W, Below x2.heap.size x2 W → Calls Try.prog 50 #[.slice (some ad) n c] W fun e w' => e = .returned (.int .i64 ((hd bs : Nat) : Int)) ∧ Below W.heap.size W w') := fun W hW => head_b (some ad) n c bs W (H2.out.below hW) HO.out (by omega) hm
  have C8 : Hid (∀ W, Below x2.heap.size x2 W → Calls Try.prog 51 #[.slice Z2 (n - 2) (c - 2)] W fun e w' => e = .returned (.int .i64 ((wd bs 2 : Nat) : Int)) ∧ Below W.heap.size W w') := fun W hW => by
    have := number_b Z2 (n - 2) (c - 2) (bs.drop 2) W (HZ2.out _ (H2.out.below hW)) (HO.out.drop 2) (by omega) (by omega)
    rwa [wd_drop] at this
  have C10 : Hid (∀ W, Below x2.heap.size x2 W → Calls Try.prog 49 #[.slice Z (wd bs 2 - hd bs) (c - hd bs)] W fun e w' => ∃ g, e = .returned (.slice (some ⟨g, 0, none⟩) (wd bs 2 - hd bs) (wd bs 2 - hd bs)) ∧ Below W.heap.size W w' ∧ W.heap.size ≤ g ∧ Blk w' g 5 (cel (body bs))) := fun W hW => copied_b Z _ _ (body bs) W (by omega) (HZ.out _ (H2.out.below hW))
  have C13 : Hid (∀ W, Below x2.heap.size x2 W → Calls Try.prog 51 #[.slice Z6 (n - 6) (c - 6)] W fun e w' => e = .returned (.int .i64 ((wd bs 6 : Nat) : Int)) ∧ Below W.heap.size W w') := fun W hW => by
    have := number_b Z6 (n - 6) (c - 6) (bs.drop 6) W (HZ6.out _ (H2.out.below hW)) (HO.out.drop 6) (by omega) (by omega)
    rwa [wd_drop] at this
  have hqb := wd_bd HO.out 6
  have hand : bits .and .i64 ((wd bs 6 : Nat) : Int) 8191 = ((wd bs 6 : Nat) : Int) % 8192 := (and_place _ (by omega)).trans (by omega)
  have hfe : (((wd bs 6 : Nat) : Int) % 8192 == 0) = first bs := by unfold first; rw [Bool.eq_iff_iff]; simp; omega
  have hn9 : (9 : Int) < (n : Int) := by omega
  have hc9 : x2.cell? ⟨ad.block, ad.off + 9, none⟩ = some (.int .u8 (bs.getD 9 0)) := by
    obtain ⟨ad', e, hcell⟩ := H2.out.2 (by omega)
    cases e
    simpa [Addr.add] using hcell 9 (by omega)
  obtain ⟨p0, hp0⟩ : ∃ p0, bs.getD 9 0 = p0 := ⟨_, rfl⟩
  obtain ⟨f, hf⟩ : ∃ f, first bs = f := ⟨_, rfl⟩
  rw [hp0] at hc9
  rw [hf] at hfe
  have HP0 := Lib.hid hp0
  have HF := Lib.hid hf
  clear hp0 hf HC HZ2 HZ6
  generalize wd bs 6 = q at *
  generalize wd bs 2 = t at *
  generalize hd bs = hh at *
  go_cut [5] from 12 to 28 (fun s wx => ∃ G g, s = .pointer (some ⟨G, 0, none⟩) ∧ x2.heap.size ≤ G ∧ x2.heap.size ≤ g ∧ g ≠ G ∧ Blk wx G 72 (net p0 zz zz (.slice (some ⟨g, 0, none⟩) (t - hh) (t - hh)) f) ∧ Blk wx g 5 (cel (body bs)) ∧ Below x2.heap.size x2 wx)
  case first =>
    generalize x2 = wr at *
    have D0 : Hid (Below wr.heap.size wr wr.drew) := (Below.refl _ _).drew
    refine wp_region_noPanic ?_
    refine wp_region_held_drew (S := fun W => W.cell? ⟨ad.block, ad.off + 9, none⟩ = some (.int .u8 p0)) (by kernel_rfl) ?_ (fun hHeld => ?_)
    · exact keep9 D0.out hc9
    refine wpAnyH_take (i := 0) (oi := ⟨some 12, _, _, _, _, _⟩) (v := ?_) rfl (by kernel_rfl) (by kernel_rfl) (by kernel_rfl) (fun _ _ _ h => h) (Or.inl ⟨by rfl, ?_⟩) (by assumption) ?_
    rotate_left
    · (intro w hSw; (try dsimp only at hSw); go_simp)
      first | done | (with_reducible rfl)
    try simp only [Act.put, List.setIfInBounds_toArray, List.set_cons_zero, List.set_cons_succ]
    refine wpAnyH_take (i := 1) (oi := ⟨some 13, _, _, _, _, _⟩) (v := ?_) rfl (by kernel_rfl) (by kernel_rfl) (by kernel_rfl) (fun _ _ _ h => h) (Or.inl ⟨by rfl, ?_⟩) (by assumption) ?_
    rotate_left
    · (intro w hSw; (try dsimp only at hSw); go_simp)
      first | done | (with_reducible rfl)
    try simp only [Act.put, List.setIfInBounds_toArray, List.set_cons_zero, List.set_cons_succ]
    refine wpAnyH_take (i := 2) (oi := ⟨some 14, _, _, _, _, _⟩) (v := ?_) rfl (by kernel_rfl) (by kernel_rfl) (by kernel_rfl) (fun _ _ _ h => h) (Or.inl ⟨by rfl, ?_⟩) (by assumption) ?_
    rotate_left
    · (intro w hSw; (try dsimp only at hSw); go_simp)
      first | done | (with_reducible rfl)
    try simp only [Act.put, List.setIfInBounds_toArray, List.set_cons_zero, List.set_cons_succ]
    refine wpAnyH_take (i := 3) (oi := ⟨some 15, _, _, _, _, _⟩) (v := ?_) rfl (by kernel_rfl) (by kernel_rfl) (by kernel_rfl) (fun _ _ _ h => h) (Or.inl ⟨by rfl, ?_⟩) (by assumption) ?_
    rotate_left
    · (intro w hSw; (try dsimp only at hSw); go_simp)
      first | done | (with_reducible rfl)
    try simp only [Act.put, List.setIfInBounds_toArray, List.set_cons_zero, List.set_cons_succ]
    refine wpAnyH_take (i := 4) (oi := ⟨some 16, _, _, _, _, _⟩) (v := ?_) rfl (by kernel_rfl) (by kernel_rfl) (by kernel_rfl) (fun _ _ _ h => h) (Or.inl ⟨by rfl, ?_⟩) (by assumption) ?_
    rotate_left
    · (intro w hSw; (try dsimp only at hSw); go_simp)
      first | done | (with_reducible rfl)
    try simp only [Act.put, List.setIfInBounds_toArray, List.set_cons_zero, List.set_cons_succ]
    refine wpAnyH_take (i := 6) (oi := ⟨some 18, _, _, _, _, _⟩) (v := ?_) rfl (by kernel_rfl) (by kernel_rfl) (by kernel_rfl) (fun _ _ _ h => h) (Or.inl ⟨by rfl, ?_⟩) (by assumption) ?_
    rotate_left
    · (intro w hSw; (try dsimp only at hSw); go_simp)
      first | done | (with_reducible rfl)
    try simp only [Act.put, List.setIfInBounds_toArray, List.set_cons_zero, List.set_cons_succ]
    refine wpAnyH_take (i := 7) (oi := ⟨some 19, _, _, _, _, _⟩) (v := .slice Z2 (n - 2) (c - 2)) rfl (by kernel_rfl) (by kernel_rfl) (by kernel_rfl) (fun _ _ _ h => h) (Or.inl ⟨by rfl, ?_⟩) (by assumption) ?_
    · (intro w hSw; (try dsimp only at hSw); go_simp)
    try simp only [Act.put, List.setIfInBounds_toArray, List.set_cons_zero, List.set_cons_succ]
    refine wpAnyH_take (i := 11) (oi := ⟨some 23, _, _, _, _, _⟩) (v := ?_) rfl (by kernel_rfl) (by kernel_rfl) (by kernel_rfl) (fun _ _ _ h => h) (Or.inl ⟨by rfl, ?_⟩) (by assumption) ?_
    rotate_left
    · (intro w hSw; (try dsimp only at hSw); go_simp)
      first | done | (with_reducible rfl)
    try simp only [Act.put, List.setIfInBounds_toArray, List.set_cons_zero, List.set_cons_succ]
    refine wpAnyH_take (i := 12) (oi := ⟨some 24, _, _, _, _, _⟩) (v := .slice Z6 (n - 6) (c - 6)) rfl (by kernel_rfl) (by kernel_rfl) (by kernel_rfl) (fun _ _ _ h => h) (Or.inl ⟨by rfl, ?_⟩) (by assumption) ?_
    · (intro w hSw; (try dsimp only at hSw); go_simp)
    try simp only [Act.put, List.setIfInBounds_toArray, List.set_cons_zero, List.set_cons_succ]
    refine wpAnyH_ready (rs := [5, 17]) (by kernel_rfl) (by simp) ?_
    refine AllReadyH.cons (o := ⟨some 17, _, _, _, _, _⟩) rfl (fun K hK => ?_) (AllReadyH.cons (o := ⟨some 5, _, _, _, _, _⟩) rfl (fun K hK => ?_) (AllReadyH.nil))
    · go_simp
      refine (C5.out _ D0.out).mono ?_
      rintro e z2 ⟨rfl, hb⟩
      have E2 : Hid (Below wr.heap.size wr z2) := D0.out.trans (hb.mono D0.out.size)
      clear hb
      refine hK.out _ _ ?_ (fun hHeld => ?_)
      · exact keep9 E2.out hc9
      clear hK K
      try simp only [Act.put, List.setIfInBounds_toArray, List.set_cons_zero, List.set_cons_succ]
      refine wpAnyH_ready (rs := [8, 17]) (by kernel_rfl) (by simp) ?_
      refine AllReadyH.cons (o := ⟨some 20, _, _, _, _, _⟩) rfl (fun K hK => ?_) (AllReadyH.cons (o := ⟨some 5, _, _, _, _, _⟩) rfl (fun K hK => ?_) (AllReadyH.nil))
      · go_simp
        refine (C8.out _ E2.out).mono ?_
        rintro e z4 ⟨rfl, hb⟩
        have E4 : Hid (Below wr.heap.size wr z4) := E2.out.trans (hb.mono E2.out.size)
        clear hb
        refine hK.out _ _ ?_ (fun hHeld => ?_)
        · exact keep9 E4.out hc9
        clear hK K
        try simp only [Act.put, List.setIfInBounds_toArray, List.set_cons_zero, List.set_cons_succ]
        refine wpAnyH_take (i := 9) (oi := ⟨some 21, _, _, _, _, _⟩) (v := .slice Z (t - hh) (c - hh)) rfl (by kernel_rfl) (by kernel_rfl) (by kernel_rfl) (fun _ _ _ h => h) (Or.inl ⟨by rfl, ?_⟩) (by assumption) ?_
        · (intro w hSw; (try dsimp only at hSw); go_simp)
        try simp only [Act.put, List.setIfInBounds_toArray, List.set_cons_zero, List.set_cons_succ]
        refine wpAnyH_ready (rs := [10, 17]) (by kernel_rfl) (by simp) ?_
        refine AllReadyH.cons (o := ⟨some 22, _, _, _, _, _⟩) rfl (fun K hK => ?_) (AllReadyH.cons (o := ⟨some 5, _, _, _, _, _⟩) rfl (fun K hK => ?_) (AllReadyH.nil))
        · go_simp
          refine (C10.out _ E4.out).mono ?_
          rintro e z6 ⟨g6, rfl, hb, hg, hbk⟩
          have E6 : Hid (Below wr.heap.size wr z6) := E4.out.trans (hb.mono E4.out.size)
          have BB6 := Lib.hid hbk
          have hgBB6 : wr.heap.size ≤ g6 := Nat.le_trans E4.out.size hg
          clear hbk hg
          clear hb
          refine hK.out _ _ ?_ (fun hHeld => ?_)
          · exact keep9 E6.out hc9
          clear hK K
          try simp only [Act.put, List.setIfInBounds_toArray, List.set_cons_zero, List.set_cons_succ]
          refine wpAnyH_ready (rs := [13, 17]) (by kernel_rfl) (by simp) ?_
          refine AllReadyH.cons (o := ⟨some 25, _, _, _, _, _⟩) rfl (fun K hK => ?_) (AllReadyH.cons (o := ⟨some 5, _, _, _, _, _⟩) rfl (fun K hK => ?_) (AllReadyH.nil))
          · go_simp
            refine (C13.out _ E6.out).mono ?_
            rintro e z8 ⟨rfl, hb⟩
            have E8 : Hid (Below wr.heap.size wr z8) := E6.out.trans (hb.mono E6.out.size)
            have BC8 := Lib.hid (BB6.out.far (Far.of_below hb nobody) (fun e => e))
            have hgBC8 := hgBB6
            clear hb
            refine hK.out _ _ ?_ (fun hHeld => ?_)
            · exact keep9 E8.out hc9
            clear hK K
            try simp only [Act.put, List.setIfInBounds_toArray, List.set_cons_zero, List.set_cons_succ]
            refine wpAnyH_take (i := 14) (oi := ⟨some 26, _, _, _, _, _⟩) (v := .int .i64 ((q : Int) % 8192)) rfl (by kernel_rfl) (by kernel_rfl) (by kernel_rfl) (fun _ _ _ h => h) (Or.inl ⟨by rfl, ?_⟩) (by assumption) ?_
            · (intro w hSw; (try dsimp only at hSw); go_simp)
            try simp only [Act.put, List.setIfInBounds_toArray, List.set_cons_zero, List.set_cons_succ]
            refine wpAnyH_take (i := 15) (oi := ⟨some 27, _, _, _, _, _⟩) (v := .bool f) rfl (by kernel_rfl) (by kernel_rfl) (by kernel_rfl) (fun _ _ _ h => h) (Or.inl ⟨by rfl, ?_⟩) (by assumption) ?_
            · (intro w hSw; (try dsimp only at hSw); go_simp)
            try simp only [Act.put, List.setIfInBounds_toArray, List.set_cons_zero, List.set_cons_succ]
            refine wpAnyH_take (i := 16) (oi := ⟨some 28, _, _, _, _, _⟩) (v := .agg #[.int .u8 p0, .int .u8 0, .int .u8 0, .int .u8 0, .int .u8 0, .int .u8 0, .int .u8 0, .int .u8 0, .int .u8 0, .int .u8 0, .int .u8 0, .int .u8 0, .int .u8 0, .int .u8 0, .int .u8 0, .int .u8 0, .int .u8 0, .int .u8 0, .int .u8 0, .int .u8 0, .int .u8 0, .int .u8 0, .int .u8 0, .int .u8 0, .int .u8 0, .int .u8 0, .int .u8 0, .int .u8 0, .int .u8 0, .int .u8 0, .int .u8 0, .int .u8 0, .int .u8 0, .slice (some ⟨g6, 0, none⟩) (t - hh) (t - hh), .bool f]) rfl (by kernel_rfl) (by kernel_rfl) (by kernel_rfl) (fun _ _ _ h => h) (Or.inl ⟨by rfl, ?_⟩) (by assumption) ?_
            · (intro w hSw; (try dsimp only at hSw); go_simp)
            try simp only [Act.put, List.setIfInBounds_toArray, List.set_cons_zero, List.set_cons_succ]
            refine wpAnyH_ready (rs := [17]) (by kernel_rfl) (by simp) ?_
            refine AllReadyH.cons (o := ⟨some 5, _, _, _, _, _⟩) rfl (fun K hK => ?_) (AllReadyH.nil)
            go_simp
            have F9 : Hid (Below wr.heap.size wr (z8.alloc (.cells #[.int .u8 0, .int .u8 0, .int .u8 0, .int .u8 0, .int .u8 0, .int .u8 0, .int .u8 0, .int .u8 0, .int .u8 0, .int .u8 0, .int .u8 0, .int .u8 0, .int .u8 0, .int .u8 0, .int .u8 0, .int .u8 0, .int .u8 0, .int .u8 0, .int .u8 0, .int .u8 0, .int .u8 0, .int .u8 0, .int .u8 0, .int .u8 0, .int .u8 0, .int .u8 0, .int .u8 0, .int .u8 0, .int .u8 0, .int .u8 0, .int .u8 0, .int .u8 0, .int .u8 0, .slice none 0 0, .bool false] 72))) := E8.out.alloc E8.out.size _
            have V9 : Hid (Blk (z8.alloc (.cells #[.int .u8 0, .int .u8 0, .int .u8 0, .int .u8 0, .int .u8 0, .int .u8 0, .int .u8 0, .int .u8 0, .int .u8 0, .int .u8 0, .int .u8 0, .int .u8 0, .int .u8 0, .int .u8 0, .int .u8 0, .int .u8 0, .int .u8 0, .int .u8 0, .int .u8 0, .int .u8 0, .int .u8 0, .int .u8 0, .int .u8 0, .int .u8 0, .int .u8 0, .int .u8 0, .int .u8 0, .int .u8 0, .int .u8 0, .int .u8 0, .int .u8 0, .int .u8 0, .int .u8 0, .slice none 0 0, .bool false] 72)) z8.heap.size 72 (net 0 zz zz (.slice none 0 0) false)) := Blk.new z8 72 (net 0 zz zz (.slice none 0 0) false)
            have hGV9 : wr.heap.size ≤ z8.heap.size := E8.out.size
            have BA9 := Lib.hid (BC8.out.alloc (.cells #[.int .u8 0, .int .u8 0, .int .u8 0, .int .u8 0, .int .u8 0, .int .u8 0, .int .u8 0, .int .u8 0, .int .u8 0, .int .u8 0, .int .u8 0, .int .u8 0, .int .u8 0, .int .u8 0, .int .u8 0, .int .u8 0, .int .u8 0, .int .u8 0, .int .u8 0, .int .u8 0, .int .u8 0, .int .u8 0, .int .u8 0, .int .u8 0, .int .u8 0, .int .u8 0, .int .u8 0, .int .u8 0, .int .u8 0, .int .u8 0, .int .u8 0, .int .u8 0, .int .u8 0, .slice none 0 0, .bool false] 72))
            have hgBA9 := hgBC8
            refine hK.out _ _ ?_ (fun hHeld => ?_)
            · exact keep9 F9.out hc9
            clear hK K
            try simp only [Act.put, List.setIfInBounds_toArray, List.set_cons_zero, List.set_cons_succ]
            generalize (z8.alloc (.cells #[.int .u8 0, .int .u8 0, .int .u8 0, .int .u8 0, .int .u8 0, .int .u8 0, .int .u8 0, .int .u8 0, .int .u8 0, .int .u8 0, .int .u8 0, .int .u8 0, .int .u8 0, .int .u8 0, .int .u8 0, .int .u8 0, .int .u8 0, .int .u8 0, .int .u8 0, .int .u8 0, .int .u8 0, .int .u8 0, .int .u8 0, .int .u8 0, .int .u8 0, .int .u8 0, .int .u8 0, .int .u8 0, .int .u8 0, .int .u8 0, .int .u8 0, .int .u8 0, .int .u8 0, .slice none 0 0, .bool false] 72)) = v9 at *
            refine wpAnyH_ready (rs := [18]) (by kernel_rfl) (by simp) ?_
            refine AllReadyH.cons (o := ⟨none, _, _, _, _, _⟩) rfl (fun K hK => ?_) (AllReadyH.nil)
            have hgG := BA9.out.apart V9.out (by decide)
            refine step_put (by rfl) 72 size26 (.tmp 5) (.tmp 28) (by rfl) z8.heap.size (net p0 zz zz (.slice (some ⟨g6, 0, none⟩) (t - hh) (t - hh)) f) (by rfl) (by rfl) 72 (net 0 zz zz (.slice none 0 0) false) V9.out (net_length zz_sixteen zz_sixteen) (net_length zz_sixteen zz_sixteen) (net_one rfl) ?_
            intro wf BF FF
            have EF : Hid (Below wr.heap.size wr wf) := below_only F9.out FF.out hGV9 F9.out.size
            have BBF := Lib.hid (BA9.out.far FF.out hgG)
            refine hK.out _ _ ?_ (fun hHeld => ?_)
            · exact keep9 EF.out hc9
            clear hK K
            try simp only [Act.put]
            refine wpAnyH_done (by kernel_rfl) ?_ _
            refine NoPanic.normal ?_
            go_wp2_with fail
            go_meet
            case rel => exact ⟨z8.heap.size, g6, rfl, hGV9, hgBA9, hgG, BF.out, BBF.out, EF.out⟩
          · go_simp
            have F7 : Hid (Below wr.heap.size wr (z6.alloc (.cells #[.int .u8 0, .int .u8 0, .int .u8 0, .int .u8 0, .int .u8 0, .int .u8 0, .int .u8 0, .int .u8 0, .int .u8 0, .int .u8 0, .int .u8 0, .int .u8 0, .int .u8 0, .int .u8 0, .int .u8 0, .int .u8 0, .int .u8 0, .int .u8 0, .int .u8 0, .int .u8 0, .int .u8 0, .int .u8 0, .int .u8 0, .int .u8 0, .int .u8 0, .int .u8 0, .int .u8 0, .int .u8 0, .int .u8 0, .int .u8 0, .int .u8 0, .int .u8 0, .int .u8 0, .slice none 0 0, .bool false] 72))) := E6.out.alloc E6.out.size _
            have V7 : Hid (Blk (z6.alloc (.cells #[.int .u8 0, .int .u8 0, .int .u8 0, .int .u8 0, .int .u8 0, .int .u8 0, .int .u8 0, .int .u8 0, .int .u8 0, .int .u8 0, .int .u8 0, .int .u8 0, .int .u8 0, .int .u8 0, .int .u8 0, .int .u8 0, .int .u8 0, .int .u8 0, .int .u8 0, .int .u8 0, .int .u8 0, .int .u8 0, .int .u8 0, .int .u8 0, .int .u8 0, .int .u8 0, .int .u8 0, .int .u8 0, .int .u8 0, .int .u8 0, .int .u8 0, .int .u8 0, .int .u8 0, .slice none 0 0, .bool false] 72)) z6.heap.size 72 (net 0 zz zz (.slice none 0 0) false)) := Blk.new z6 72 (net 0 zz zz (.slice none 0 0) false)
            have hGV7 : wr.heap.size ≤ z6.heap.size := E6.out.size
            have BA7 := Lib.hid (BB6.out.alloc (.cells #[.int .u8 0, .int .u8 0, .int .u8 0, .int .u8 0, .int .u8 0, .int .u8 0, .int .u8 0, .int .u8 0, .int .u8 0, .int .u8 0, .int .u8 0, .int .u8 0, .int .u8 0, .int .u8 0, .int .u8 0, .int .u8 0, .int .u8 0, .int .u8 0, .int .u8 0, .int .u8 0, .int .u8 0, .int .u8 0, .int .u8 0, .int .u8 0, .int .u8 0, .int .u8 0, .int .u8 0, .int .u8 0, .int .u8 0, .int .u8 0, .int .u8 0, .int .u8 0, .int .u8 0, .slice none 0 0, .bool false] 72))
            have hgBA7 := hgBB6
            refine hK.out _ _ ?_ (fun hHeld => ?_)
            · exact keep9 F7.out hc9
            clear hK K
            try simp only [Act.put, List.setIfInBounds_toArray, List.set_cons_zero, List.set_cons_succ]
            generalize (z6.alloc (.cells #[.int .u8 0, .int .u8 0, .int .u8 0, .int .u8 0, .int .u8 0, .int .u8 0, .int .u8 0, .int .u8 0, .int .u8 0, .int .u8 0, .int .u8 0, .int .u8 0, .int .u8 0, .int .u8 0, .int .u8 0, .int .u8 0, .int .u8 0, .int .u8 0, .int .u8 0, .int .u8 0, .int .u8 0, .int .u8 0, .int .u8 0, .int .u8 0, .int .u8 0, .int .u8 0, .int .u8 0, .int .u8 0, .int .u8 0, .int .u8 0, .int .u8 0, .int .u8 0, .int .u8 0, .slice none 0 0, .bool false] 72)) = v7 at *
            refine wpAnyH_ready (rs := [13]) (by kernel_rfl) (by simp) ?_
            refine AllReadyH.cons (o := ⟨some 25, _, _, _, _, _⟩) rfl (fun K hK => ?_) (AllReadyH.nil)
            go_simp
            refine (C13.out _ F7.out).mono ?_
            rintro e z10 ⟨rfl, hb⟩
            have E10 : Hid (Below wr.heap.size wr z10) := F7.out.trans (hb.mono F7.out.size)
            have VC10 := Lib.hid (V7.out.far (Far.of_below hb nobody) (fun e => e))
            have hGVC10 := hGV7
            have BC10 := Lib.hid (BA7.out.far (Far.of_below hb nobody) (fun e => e))
            have hgBC10 := hgBA7
            clear hb
            refine hK.out _ _ ?_ (fun hHeld => ?_)
            · exact keep9 E10.out hc9
            clear hK K
            try simp only [Act.put, List.setIfInBounds_toArray, List.set_cons_zero, List.set_cons_succ]
            refine wpAnyH_take (i := 14) (oi := ⟨some 26, _, _, _, _, _⟩) (v := .int .i64 ((q : Int) % 8192)) rfl (by kernel_rfl) (by kernel_rfl) (by kernel_rfl) (fun _ _ _ h => h) (Or.inl ⟨by rfl, ?_⟩) (by assumption) ?_
            · (intro w hSw; (try dsimp only at hSw); go_simp)
            try simp only [Act.put, List.setIfInBounds_toArray, List.set_cons_zero, List.set_cons_succ]
            refine wpAnyH_take (i := 15) (oi := ⟨some 27, _, _, _, _, _⟩) (v := .bool f) rfl (by kernel_rfl) (by kernel_rfl) (by kernel_rfl) (fun _ _ _ h => h) (Or.inl ⟨by rfl, ?_⟩) (by assumption) ?_
            · (intro w hSw; (try dsimp only at hSw); go_simp)
            try simp only [Act.put, List.setIfInBounds_toArray, List.set_cons_zero, List.set_cons_succ]
            refine wpAnyH_take (i := 16) (oi := ⟨some 28, _, _, _, _, _⟩) (v := .agg #[.int .u8 p0, .int .u8 0, .int .u8 0, .int .u8 0, .int .u8 0, .int .u8 0, .int .u8 0, .int .u8 0, .int .u8 0, .int .u8 0, .int .u8 0, .int .u8 0, .int .u8 0, .int .u8 0, .int .u8 0, .int .u8 0, .int .u8 0, .int .u8 0, .int .u8 0, .int .u8 0, .int .u8 0, .int .u8 0, .int .u8 0, .int .u8 0, .int .u8 0, .int .u8 0, .int .u8 0, .int .u8 0, .int .u8 0, .int .u8 0, .int .u8 0, .int .u8 0, .int .u8 0, .slice (some ⟨g6, 0, none⟩) (t - hh) (t - hh), .bool f]) rfl (by kernel_rfl) (by kernel_rfl) (by kernel_rfl) (fun _ _ _ h => h) (Or.inl ⟨by rfl, ?_⟩) (by assumption) ?_
            · (intro w hSw; (try dsimp only at hSw); go_simp)
            try simp only [Act.put, List.setIfInBounds_toArray, List.set_cons_zero, List.set_cons_succ]
            refine wpAnyH_ready (rs := [18]) (by kernel_rfl) (by simp) ?_
            refine AllReadyH.cons (o := ⟨none, _, _, _, _, _⟩) rfl (fun K hK => ?_) (AllReadyH.nil)
            have hgG := BC10.out.apart VC10.out (by decide)
            refine step_put (by rfl) 72 size26 (.tmp 5) (.tmp 28) (by rfl) z6.heap.size (net p0 zz zz (.slice (some ⟨g6, 0, none⟩) (t - hh) (t - hh)) f) (by rfl) (by rfl) 72 (net 0 zz zz (.slice none 0 0) false) VC10.out (net_length zz_sixteen zz_sixteen) (net_length zz_sixteen zz_sixteen) (net_one rfl) ?_
            intro wf BF FF
            have EF : Hid (Below wr.heap.size wr wf) := below_only E10.out FF.out hGVC10 E10.out.size
            have BBF := Lib.hid (BC10.out.far FF.out hgG)
            refine hK.out _ _ ?_ (fun hHeld => ?_)
            · exact keep9 EF.out hc9
            clear hK K
            try simp only [Act.put]
            refine wpAnyH_done (by kernel_rfl) ?_ _
            refine NoPanic.normal ?_
            go_wp2_with fail
            go_meet
            case rel => exact ⟨z6.heap.size, g6, rfl, hGVC10, hgBC10, hgG, BF.out, BBF.out, EF.out⟩
        · go_simp
          have F5 : Hid (Below wr.heap.size wr (z4.alloc (.cells #[.int .u8 0, .int .u8 0, .int .u8 0, .int .u8 0, .int .u8 0, .int .u8 0, .int .u8 0, .int .u8 0, .int .u8 0, .int .u8 0, .int .u8 0, .int .u8 0, .int .u8 0, .int .u8 0, .int .u8 0, .int .u8 0, .int .u8 0, .int .u8 0, .int .u8 0, .int .u8 0, .int .u8 0, .int .u8 0, .int .u8 0, .int .u8 0, .int .u8 0, .int .u8 0, .int .u8 0, .int .u8 0, .int .u8 0, .int .u8 0, .int .u8 0, .int .u8 0, .int .u8 0, .slice none 0 0, .bool false] 72))) := E4.out.alloc E4.out.size _
          have V5 : Hid (Blk (z4.alloc (.cells #[.int .u8 0, .int .u8 0, .int .u8 0, .int .u8 0, .int .u8 0, .int .u8 0, .int .u8 0, .int .u8 0, .int .u8 0, .int .u8 0, .int .u8 0, .int .u8 0, .int .u8 0, .int .u8 0, .int .u8 0, .int .u8 0, .int .u8 0, .int .u8 0, .int .u8 0, .int .u8 0, .int .u8 0, .int .u8 0, .int .u8 0, .int .u8 0, .int .u8 0, .int .u8 0, .int .u8 0, .int .u8 0, .int .u8 0, .int .u8 0, .int .u8 0, .int .u8 0, .int .u8 0, .slice none 0 0, .bool false] 72)) z4.heap.size 72 (net 0 zz zz (.slice none 0 0) false)) := Blk.new z4 72 (net 0 zz zz (.slice none 0 0) false)
          have hGV5 : wr.heap.size ≤ z4.heap.size := E4.out.size
          refine hK.out _ _ ?_ (fun hHeld => ?_)
          · exact keep9 F5.out hc9
          clear hK K
          try simp only [Act.put, List.setIfInBounds_toArray, List.set_cons_zero, List.set_cons_succ]
          generalize (z4.alloc (.cells #[.int .u8 0, .int .u8 0, .int .u8 0, .int .u8 0, .int .u8 0, .int .u8 0, .int .u8 0, .int .u8 0, .int .u8 0, .int .u8 0, .int .u8 0, .int .u8 0, .int .u8 0, .int .u8 0, .int .u8 0, .int .u8 0, .int .u8 0, .int .u8 0, .int .u8 0, .int .u8 0, .int .u8 0, .int .u8 0, .int .u8 0, .int .u8 0, .int .u8 0, .int .u8 0, .int .u8 0, .int .u8 0, .int .u8 0, .int .u8 0, .int .u8 0, .int .u8 0, .int .u8 0, .slice none 0 0, .bool false] 72)) = v5 at *
          refine wpAnyH_ready (rs := [10]) (by kernel_rfl) (by simp) ?_
          refine AllReadyH.cons (o := ⟨some 22, _, _, _, _, _⟩) rfl (fun K hK => ?_) (AllReadyH.nil)
          go_simp
          refine (C10.out _ F5.out).mono ?_
          rintro e z11 ⟨g11, rfl, hb, hg, hbk⟩
          have E11 : Hid (Below wr.heap.size wr z11) := F5.out.trans (hb.mono F5.out.size)
          have VC11 := Lib.hid (V5.out.far (Far.of_below hb nobody) (fun e => e))
          have hGVC11 := hGV5
          have BB11 := Lib.hid hbk
          have hgBB11 : wr.heap.size ≤ g11 := Nat.le_trans F5.out.size hg
          clear hbk hg
          clear hb
          refine hK.out _ _ ?_ (fun hHeld => ?_)
          · exact keep9 E11.out hc9
          clear hK K
          try simp only [Act.put, List.setIfInBounds_toArray, List.set_cons_zero, List.set_cons_succ]
          refine wpAnyH_ready (rs := [13]) (by kernel_rfl) (by simp) ?_
          refine AllReadyH.cons (o := ⟨some 25, _, _, _, _, _⟩) rfl (fun K hK => ?_) (AllReadyH.nil)
          go_simp
          refine (C13.out _ E11.out).mono ?_
          rintro e z12 ⟨rfl, hb⟩
          have E12 : Hid (Below wr.heap.size wr z12) := E11.out.trans (hb.mono E11.out.size)
          have VC12 := Lib.hid (VC11.out.far (Far.of_below hb nobody) (fun e => e))
          have hGVC12 := hGVC11
          have BC12 := Lib.hid (BB11.out.far (Far.of_below hb nobody) (fun e => e))
          have hgBC12 := hgBB11
          clear hb
          refine hK.out _ _ ?_ (fun hHeld => ?_)
          · exact keep9 E12.out hc9
          clear hK K
          try simp only [Act.put, List.setIfInBounds_toArray, List.set_cons_zero, List.set_cons_succ]
          refine wpAnyH_take (i := 14) (oi := ⟨some 26, _, _, _, _, _⟩) (v := .int .i64 ((q : Int) % 8192)) rfl (by kernel_rfl) (by kernel_rfl) (by kernel_rfl) (fun _ _ _ h => h) (Or.inl ⟨by rfl, ?_⟩) (by assumption) ?_
          · (intro w hSw; (try dsimp only at hSw); go_simp)
          try simp only [Act.put, List.setIfInBounds_toArray, List.set_cons_zero, List.set_cons_succ]
          refine wpAnyH_take (i := 15) (oi := ⟨some 27, _, _, _, _, _⟩) (v := .bool f) rfl (by kernel_rfl) (by kernel_rfl) (by kernel_rfl) (fun _ _ _ h => h) (Or.inl ⟨by rfl, ?_⟩) (by assumption) ?_
          · (intro w hSw; (try dsimp only at hSw); go_simp)
          try simp only [Act.put, List.setIfInBounds_toArray, List.set_cons_zero, List.set_cons_succ]
          refine wpAnyH_take (i := 16) (oi := ⟨some 28, _, _, _, _, _⟩) (v := .agg #[.int .u8 p0, .int .u8 0, .int .u8 0, .int .u8 0, .int .u8 0, .int .u8 0, .int .u8 0, .int .u8 0, .int .u8 0, .int .u8 0, .int .u8 0, .int .u8 0, .int .u8 0, .int .u8 0, .int .u8 0, .int .u8 0, .int .u8 0, .int .u8 0, .int .u8 0, .int .u8 0, .int .u8 0, .int .u8 0, .int .u8 0, .int .u8 0, .int .u8 0, .int .u8 0, .int .u8 0, .int .u8 0, .int .u8 0, .int .u8 0, .int .u8 0, .int .u8 0, .int .u8 0, .slice (some ⟨g11, 0, none⟩) (t - hh) (t - hh), .bool f]) rfl (by kernel_rfl) (by kernel_rfl) (by kernel_rfl) (fun _ _ _ h => h) (Or.inl ⟨by rfl, ?_⟩) (by assumption) ?_
          · (intro w hSw; (try dsimp only at hSw); go_simp)
          try simp only [Act.put, List.setIfInBounds_toArray, List.set_cons_zero, List.set_cons_succ]
          refine wpAnyH_ready (rs := [18]) (by kernel_rfl) (by simp) ?_
          refine AllReadyH.cons (o := ⟨none, _, _, _, _, _⟩) rfl (fun K hK => ?_) (AllReadyH.nil)
          have hgG := BC12.out.apart VC12.out (by decide)
          refine step_put (by rfl) 72 size26 (.tmp 5) (.tmp 28) (by rfl) z4.heap.size (net p0 zz zz (.slice (some ⟨g11, 0, none⟩) (t - hh) (t - hh)) f) (by rfl) (by rfl) 72 (net 0 zz zz (.slice none 0 0) false) VC12.out (net_length zz_sixteen zz_sixteen) (net_length zz_sixteen zz_sixteen) (net_one rfl) ?_
          intro wf BF FF
          have EF : Hid (Below wr.heap.size wr wf) := below_only E12.out FF.out hGVC12 E12.out.size
          have BBF := Lib.hid (BC12.out.far FF.out hgG)
          refine hK.out _ _ ?_ (fun hHeld => ?_)
          · exact keep9 EF.out hc9
          clear hK K
          try simp only [Act.put]
          refine wpAnyH_done (by kernel_rfl) ?_ _
          refine NoPanic.normal ?_
          go_wp2_with fail
          go_meet
          case rel => exact ⟨z4.heap.size, g11, rfl, hGVC12, hgBC12, hgG, BF.out, BBF.out, EF.out⟩
      · go_simp
        have F3 : Hid (Below wr.heap.size wr (z2.alloc (.cells #[.int .u8 0, .int .u8 0, .int .u8 0, .int .u8 0, .int .u8 0, .int .u8 0, .int .u8 0, .int .u8 0, .int .u8 0, .int .u8 0, .int .u8 0, .int .u8 0, .int .u8 0, .int .u8 0, .int .u8 0, .int .u8 0, .int .u8 0, .int .u8 0, .int .u8 0, .int .u8 0, .int .u8 0, .int .u8 0, .int .u8 0, .int .u8 0, .int .u8 0, .int .u8 0, .int .u8 0, .int .u8 0, .int .u8 0, .int .u8 0, .int .u8 0, .int .u8 0, .int .u8 0, .slice none 0 0, .bool false] 72))) := E2.out.alloc E2.out.size _
        have V3 : Hid (Blk (z2.alloc (.cells #[.int .u8 0, .int .u8 0, .int .u8 0, .int .u8 0, .int .u8 0, .int .u8 0, .int .u8 0, .int .u8 0, .int .u8 0, .int .u8 0, .int .u8 0, .int .u8 0, .int .u8 0, .int .u8 0, .int .u8 0, .int .u8 0, .int .u8 0, .int .u8 0, .int .u8 0, .int .u8 0, .int .u8 0, .int .u8 0, .int .u8 0, .int .u8 0, .int .u8 0, .int .u8 0, .int .u8 0, .int .u8 0, .int .u8 0, .int .u8 0, .int .u8 0, .int .u8 0, .int .u8 0, .slice none 0 0, .bool false] 72)) z2.heap.size 72 (net 0 zz zz (.slice none 0 0) false)) := Blk.new z2 72 (net 0 zz zz (.slice none 0 0) false)
        have hGV3 : wr.heap.size ≤ z2.heap.size := E2.out.size
        refine hK.out _ _ ?_ (fun hHeld => ?_)
        · exact keep9 F3.out hc9
        clear hK K
        try simp only [Act.put, List.setIfInBounds_toArray, List.set_cons_zero, List.set_cons_succ]
        generalize (z2.alloc (.cells #[.int .u8 0, .int .u8 0, .int .u8 0, .int .u8 0, .int .u8 0, .int .u8 0, .int .u8 0, .int .u8 0, .int .u8 0, .int .u8 0, .int .u8 0, .int .u8 0, .int .u8 0, .int .u8 0, .int .u8 0, .int .u8 0, .int .u8 0, .int .u8 0, .int .u8 0, .int .u8 0, .int .u8 0, .int .u8 0, .int .u8 0, .int .u8 0, .int .u8 0, .int .u8 0, .int .u8 0, .int .u8 0, .int .u8 0, .int .u8 0, .int .u8 0, .int .u8 0, .int .u8 0, .slice none 0 0, .bool false] 72)) = v3 at *
        refine wpAnyH_ready (rs := [8]) (by kernel_rfl) (by simp) ?_
        refine AllReadyH.cons (o := ⟨some 20, _, _, _, _, _⟩) rfl (fun K hK => ?_) (AllReadyH.nil)
        go_simp
        refine (C8.out _ F3.out).mono ?_
        rintro e z13 ⟨rfl, hb⟩
        have E13 : Hid (Below wr.heap.size wr z13) := F3.out.trans (hb.mono F3.out.size)
        have VC13 := Lib.hid (V3.out.far (Far.of_below hb nobody) (fun e => e))
        have hGVC13 := hGV3
        clear hb
        refine hK.out _ _ ?_ (fun hHeld => ?_)
        · exact keep9 E13.out hc9
        clear hK K
        try simp only [Act.put, List.setIfInBounds_toArray, List.set_cons_zero, List.set_cons_succ]
        refine wpAnyH_take (i := 9) (oi := ⟨some 21, _, _, _, _, _⟩) (v := .slice Z (t - hh) (c - hh)) rfl (by kernel_rfl) (by kernel_rfl) (by kernel_rfl) (fun _ _ _ h => h) (Or.inl ⟨by rfl, ?_⟩) (by assumption) ?_
        · (intro w hSw; (try dsimp only at hSw); go_simp)
        try simp only [Act.put, List.setIfInBounds_toArray, List.set_cons_zero, List.set_cons_succ]
        refine wpAnyH_ready (rs := [10]) (by kernel_rfl) (by simp) ?_
        refine AllReadyH.cons (o := ⟨some 22, _, _, _, _, _⟩) rfl (fun K hK => ?_) (AllReadyH.nil)
        go_simp
        refine (C10.out _ E13.out).mono ?_
        rintro e z14 ⟨g14, rfl, hb, hg, hbk⟩
        have E14 : Hid (Below wr.heap.size wr z14) := E13.out.trans (hb.mono E13.out.size)
        have VC14 := Lib.hid (VC13.out.far (Far.of_below hb nobody) (fun e => e))
        have hGVC14 := hGVC13
        have BB14 := Lib.hid hbk
        have hgBB14 : wr.heap.size ≤ g14 := Nat.le_trans E13.out.size hg
        clear hbk hg
        clear hb
        refine hK.out _ _ ?_ (fun hHeld => ?_)
        · exact keep9 E14.out hc9
        clear hK K
        try simp only [Act.put, List.setIfInBounds_toArray, List.set_cons_zero, List.set_cons_succ]
        refine wpAnyH_ready (rs := [13]) (by kernel_rfl) (by simp) ?_
        refine AllReadyH.cons (o := ⟨some 25, _, _, _, _, _⟩) rfl (fun K hK => ?_) (AllReadyH.nil)
        go_simp
        refine (C13.out _ E14.out).mono ?_
        rintro e z15 ⟨rfl, hb⟩
        have E15 : Hid (Below wr.heap.size wr z15) := E14.out.trans (hb.mono E14.out.size)
        have VC15 := Lib.hid (VC14.out.far (Far.of_below hb nobody) (fun e => e))
        have hGVC15 := hGVC14
        have BC15 := Lib.hid (BB14.out.far (Far.of_below hb nobody) (fun e => e))
        have hgBC15 := hgBB14
        clear hb
        refine hK.out _ _ ?_ (fun hHeld => ?_)
        · exact keep9 E15.out hc9
        clear hK K
        try simp only [Act.put, List.setIfInBounds_toArray, List.set_cons_zero, List.set_cons_succ]
        refine wpAnyH_take (i := 14) (oi := ⟨some 26, _, _, _, _, _⟩) (v := .int .i64 ((q : Int) % 8192)) rfl (by kernel_rfl) (by kernel_rfl) (by kernel_rfl) (fun _ _ _ h => h) (Or.inl ⟨by rfl, ?_⟩) (by assumption) ?_
        · (intro w hSw; (try dsimp only at hSw); go_simp)
        try simp only [Act.put, List.setIfInBounds_toArray, List.set_cons_zero, List.set_cons_succ]
        refine wpAnyH_take (i := 15) (oi := ⟨some 27, _, _, _, _, _⟩) (v := .bool f) rfl (by kernel_rfl) (by kernel_rfl) (by kernel_rfl) (fun _ _ _ h => h) (Or.inl ⟨by rfl, ?_⟩) (by assumption) ?_
        · (intro w hSw; (try dsimp only at hSw); go_simp)
        try simp only [Act.put, List.setIfInBounds_toArray, List.set_cons_zero, List.set_cons_succ]
        refine wpAnyH_take (i := 16) (oi := ⟨some 28, _, _, _, _, _⟩) (v := .agg #[.int .u8 p0, .int .u8 0, .int .u8 0, .int .u8 0, .int .u8 0, .int .u8 0, .int .u8 0, .int .u8 0, .int .u8 0, .int .u8 0, .int .u8 0, .int .u8 0, .int .u8 0, .int .u8 0, .int .u8 0, .int .u8 0, .int .u8 0, .int .u8 0, .int .u8 0, .int .u8 0, .int .u8 0, .int .u8 0, .int .u8 0, .int .u8 0, .int .u8 0, .int .u8 0, .int .u8 0, .int .u8 0, .int .u8 0, .int .u8 0, .int .u8 0, .int .u8 0, .int .u8 0, .slice (some ⟨g14, 0, none⟩) (t - hh) (t - hh), .bool f]) rfl (by kernel_rfl) (by kernel_rfl) (by kernel_rfl) (fun _ _ _ h => h) (Or.inl ⟨by rfl, ?_⟩) (by assumption) ?_
        · (intro w hSw; (try dsimp only at hSw); go_simp)
        try simp only [Act.put, List.setIfInBounds_toArray, List.set_cons_zero, List.set_cons_succ]
        refine wpAnyH_ready (rs := [18]) (by kernel_rfl) (by simp) ?_
        refine AllReadyH.cons (o := ⟨none, _, _, _, _, _⟩) rfl (fun K hK => ?_) (AllReadyH.nil)
        have hgG := BC15.out.apart VC15.out (by decide)
        refine step_put (by rfl) 72 size26 (.tmp 5) (.tmp 28) (by rfl) z2.heap.size (net p0 zz zz (.slice (some ⟨g14, 0, none⟩) (t - hh) (t - hh)) f) (by rfl) (by rfl) 72 (net 0 zz zz (.slice none 0 0) false) VC15.out (net_length zz_sixteen zz_sixteen) (net_length zz_sixteen zz_sixteen) (net_one rfl) ?_
        intro wf BF FF
        have EF : Hid (Below wr.heap.size wr wf) := below_only E15.out FF.out hGVC15 E15.out.size
        have BBF := Lib.hid (BC15.out.far FF.out hgG)
        refine hK.out _ _ ?_ (fun hHeld => ?_)
        · exact keep9 EF.out hc9
        clear hK K
        try simp only [Act.put]
        refine wpAnyH_done (by kernel_rfl) ?_ _
        refine NoPanic.normal ?_
        go_wp2_with fail
        go_meet
        case rel => exact ⟨z2.heap.size, g14, rfl, hGVC15, hgBC15, hgG, BF.out, BBF.out, EF.out⟩
    · go_simp
      have F1 : Hid (Below wr.heap.size wr ((wr.alloc (.cells #[.int .u8 0, .int .u8 0, .int .u8 0, .int .u8 0, .int .u8 0, .int .u8 0, .int .u8 0, .int .u8 0, .int .u8 0, .int .u8 0, .int .u8 0, .int .u8 0, .int .u8 0, .int .u8 0, .int .u8 0, .int .u8 0, .int .u8 0, .int .u8 0, .int .u8 0, .int .u8 0, .int .u8 0, .int .u8 0, .int .u8 0, .int .u8 0, .int .u8 0, .int .u8 0, .int .u8 0, .int .u8 0, .int .u8 0, .int .u8 0, .int .u8 0, .int .u8 0, .int .u8 0, .slice none 0 0, .bool false] 72)).drew)) := D0.out.alloc D0.out.size _
      have V1 : Hid (Blk ((wr.alloc (.cells #[.int .u8 0, .int .u8 0, .int .u8 0, .int .u8 0, .int .u8 0, .int .u8 0, .int .u8 0, .int .u8 0, .int .u8 0, .int .u8 0, .int .u8 0, .int .u8 0, .int .u8 0, .int .u8 0, .int .u8 0, .int .u8 0, .int .u8 0, .int .u8 0, .int .u8 0, .int .u8 0, .int .u8 0, .int .u8 0, .int .u8 0, .int .u8 0, .int .u8 0, .int .u8 0, .int .u8 0, .int .u8 0, .int .u8 0, .int .u8 0, .int .u8 0, .int .u8 0, .int .u8 0, .slice none 0 0, .bool false] 72)).drew) wr.heap.size 72 (net 0 zz zz (.slice none 0 0) false)) := Blk.new wr.drew 72 (net 0 zz zz (.slice none 0 0) false)
      have hGV1 : wr.heap.size ≤ wr.heap.size := Nat.le_refl _
      refine hK.out _ _ ?_ (fun hHeld => ?_)
      · exact keep9 F1.out hc9
      clear hK K
      try simp only [Act.put, List.setIfInBounds_toArray, List.set_cons_zero, List.set_cons_succ]
      generalize (wr.alloc (.cells #[.int .u8 0, .int .u8 0, .int .u8 0, .int .u8 0, .int .u8 0, .int .u8 0, .int .u8 0, .int .u8 0, .int .u8 0, .int .u8 0, .int .u8 0, .int .u8 0, .int .u8 0, .int .u8 0, .int .u8 0, .int .u8 0, .int .u8 0, .int .u8 0, .int .u8 0, .int .u8 0, .int .u8 0, .int .u8 0, .int .u8 0, .int .u8 0, .int .u8 0, .int .u8 0, .int .u8 0, .int .u8 0, .int .u8 0, .int .u8 0, .int .u8 0, .int .u8 0, .int .u8 0, .slice none 0 0, .bool false] 72)).drew = v1 at *
      refine wpAnyH_ready (rs := [5]) (by kernel_rfl) (by simp) ?_
      refine AllReadyH.cons (o := ⟨some 17, _, _, _, _, _⟩) rfl (fun K hK => ?_) (AllReadyH.nil)
      go_simp
      refine (C5.out _ F1.out).mono ?_
      rintro e z16 ⟨rfl, hb⟩
      have E16 : Hid (Below wr.heap.size wr z16) := F1.out.trans (hb.mono F1.out.size)
      have VC16 := Lib.hid (V1.out.far (Far.of_below hb nobody) (fun e => e))
      have hGVC16 := hGV1
      clear hb
      refine hK.out _ _ ?_ (fun hHeld => ?_)
      · exact keep9 E16.out hc9
      clear hK K
      try simp only [Act.put, List.setIfInBounds_toArray, List.set_cons_zero, List.set_cons_succ]
      refine wpAnyH_ready (rs := [8]) (by kernel_rfl) (by simp) ?_
      refine AllReadyH.cons (o := ⟨some 20, _, _, _, _, _⟩) rfl (fun K hK => ?_) (AllReadyH.nil)
      go_simp
      refine (C8.out _ E16.out).mono ?_
      rintro e z17 ⟨rfl, hb⟩
      have E17 : Hid (Below wr.heap.size wr z17) := E16.out.trans (hb.mono E16.out.size)
      have VC17 := Lib.hid (VC16.out.far (Far.of_below hb nobody) (fun e => e))
      have hGVC17 := hGVC16
      clear hb
      refine hK.out _ _ ?_ (fun hHeld => ?_)
      · exact keep9 E17.out hc9
      clear hK K
      try simp only [Act.put, List.setIfInBounds_toArray, List.set_cons_zero, List.set_cons_succ]
      refine wpAnyH_take (i := 9) (oi := ⟨some 21, _, _, _, _, _⟩) (v := .slice Z (t - hh) (c - hh)) rfl (by kernel_rfl) (by kernel_rfl) (by kernel_rfl) (fun _ _ _ h => h) (Or.inl ⟨by rfl, ?_⟩) (by assumption) ?_
      · (intro w hSw; (try dsimp only at hSw); go_simp)
      try simp only [Act.put, List.setIfInBounds_toArray, List.set_cons_zero, List.set_cons_succ]
      refine wpAnyH_ready (rs := [10]) (by kernel_rfl) (by simp) ?_
      refine AllReadyH.cons (o := ⟨some 22, _, _, _, _, _⟩) rfl (fun K hK => ?_) (AllReadyH.nil)
      go_simp
      refine (C10.out _ E17.out).mono ?_
      rintro e z18 ⟨g18, rfl, hb, hg, hbk⟩
      have E18 : Hid (Below wr.heap.size wr z18) := E17.out.trans (hb.mono E17.out.size)
      have VC18 := Lib.hid (VC17.out.far (Far.of_below hb nobody) (fun e => e))
      have hGVC18 := hGVC17
      have BB18 := Lib.hid hbk
      have hgBB18 : wr.heap.size ≤ g18 := Nat.le_trans E17.out.size hg
      clear hbk hg
      clear hb
      refine hK.out _ _ ?_ (fun hHeld => ?_)
      · exact keep9 E18.out hc9
      clear hK K
      try simp only [Act.put, List.setIfInBounds_toArray, List.set_cons_zero, List.set_cons_succ]
      refine wpAnyH_ready (rs := [13]) (by kernel_rfl) (by simp) ?_
      refine AllReadyH.cons (o := ⟨some 25, _, _, _, _, _⟩) rfl (fun K hK => ?_) (AllReadyH.nil)
      go_simp
      refine (C13.out _ E18.out).mono ?_
      rintro e z19 ⟨rfl, hb⟩
      have E19 : Hid (Below wr.heap.size wr z19) := E18.out.trans (hb.mono E18.out.size)
      have VC19 := Lib.hid (VC18.out.far (Far.of_below hb nobody) (fun e => e))
      have hGVC19 := hGVC18
      have BC19 := Lib.hid (BB18.out.far (Far.of_below hb nobody) (fun e => e))
      have hgBC19 := hgBB18
      clear hb
      refine hK.out _ _ ?_ (fun hHeld => ?_)
      · exact keep9 E19.out hc9
      clear hK K
      try simp only [Act.put, List.setIfInBounds_toArray, List.set_cons_zero, List.set_cons_succ]
      refine wpAnyH_take (i := 14) (oi := ⟨some 26, _, _, _, _, _⟩) (v := .int .i64 ((q : Int) % 8192)) rfl (by kernel_rfl) (by kernel_rfl) (by kernel_rfl) (fun _ _ _ h => h) (Or.inl ⟨by rfl, ?_⟩) (by assumption) ?_
      · (intro w hSw; (try dsimp only at hSw); go_simp)
      try simp only [Act.put, List.setIfInBounds_toArray, List.set_cons_zero, List.set_cons_succ]
      refine wpAnyH_take (i := 15) (oi := ⟨some 27, _, _, _, _, _⟩) (v := .bool f) rfl (by kernel_rfl) (by kernel_rfl) (by kernel_rfl) (fun _ _ _ h => h) (Or.inl ⟨by rfl, ?_⟩) (by assumption) ?_
      · (intro w hSw; (try dsimp only at hSw); go_simp)
      try simp only [Act.put, List.setIfInBounds_toArray, List.set_cons_zero, List.set_cons_succ]
      refine wpAnyH_take (i := 16) (oi := ⟨some 28, _, _, _, _, _⟩) (v := .agg #[.int .u8 p0, .int .u8 0, .int .u8 0, .int .u8 0, .int .u8 0, .int .u8 0, .int .u8 0, .int .u8 0, .int .u8 0, .int .u8 0, .int .u8 0, .int .u8 0, .int .u8 0, .int .u8 0, .int .u8 0, .int .u8 0, .int .u8 0, .int .u8 0, .int .u8 0, .int .u8 0, .int .u8 0, .int .u8 0, .int .u8 0, .int .u8 0, .int .u8 0, .int .u8 0, .int .u8 0, .int .u8 0, .int .u8 0, .int .u8 0, .int .u8 0, .int .u8 0, .int .u8 0, .slice (some ⟨g18, 0, none⟩) (t - hh) (t - hh), .bool f]) rfl (by kernel_rfl) (by kernel_rfl) (by kernel_rfl) (fun _ _ _ h => h) (Or.inl ⟨by rfl, ?_⟩) (by assumption) ?_
      · (intro w hSw; (try dsimp only at hSw); go_simp)
      try simp only [Act.put, List.setIfInBounds_toArray, List.set_cons_zero, List.set_cons_succ]
      refine wpAnyH_ready (rs := [18]) (by kernel_rfl) (by simp) ?_
      refine AllReadyH.cons (o := ⟨none, _, _, _, _, _⟩) rfl (fun K hK => ?_) (AllReadyH.nil)
      have hgG := BC19.out.apart VC19.out (by decide)
      refine step_put (by rfl) 72 size26 (.tmp 5) (.tmp 28) (by rfl) wr.heap.size (net p0 zz zz (.slice (some ⟨g18, 0, none⟩) (t - hh) (t - hh)) f) (by rfl) (by rfl) 72 (net 0 zz zz (.slice none 0 0) false) VC19.out (net_length zz_sixteen zz_sixteen) (net_length zz_sixteen zz_sixteen) (net_one rfl) ?_
      intro wf BF FF
      have EF : Hid (Below wr.heap.size wr wf) := below_only E19.out FF.out hGVC19 E19.out.size
      have BBF := Lib.hid (BC19.out.far FF.out hgG)
      refine hK.out _ _ ?_ (fun hHeld => ?_)
      · exact keep9 EF.out hc9
      clear hK K
      try simp only [Act.put]
      refine wpAnyH_done (by kernel_rfl) ?_ _
      refine NoPanic.normal ?_
      go_wp2_with fail
      go_meet
      case rel => exact ⟨wr.heap.size, g18, rfl, hGVC19, hgBC19, hgG, BF.out, BBF.out, EF.out⟩
  case rest =>
    obtain ⟨G, g, rfl, hG, hg, hgG, hbk, hbb, hbl⟩ := hcut
    have BK := Lib.hid hbk
    have BB := Lib.hid hbb
    have BL := Lib.hid hbl
    have hlx := L2.out.lt
    clear hbk hbb hbl hc9 C5 C8 C10 C13 hand hfe hn9
    go_upto_region 5 with (fail)
    refine wp_region_noPanic ?_
    refine wp_region_held_drew (S := fun _ => True) (by kernel_rfl) trivial (fun hHeld => ?_)
    refine wpAnyH_take (i := 0) (oi := ⟨some 29, _, _, _, _, _⟩) (v := .pointer (some ⟨G, 1, none⟩)) rfl (by kernel_rfl) (by kernel_rfl) (by kernel_rfl) (fun _ _ _ h => h) (Or.inl ⟨by rfl, ?_⟩) (by assumption) ?_
    · (intro w hSw; (try dsimp only at hSw); go_simp)
    try simp only [Act.put, List.setIfInBounds_toArray, List.set_cons_zero, List.set_cons_succ]
    refine wpAnyH_take (i := 1) (oi := ⟨some 30, _, _, _, _, _⟩) (v := .slice (some ⟨G, 1, none⟩) 16 16) rfl (by kernel_rfl) (by kernel_rfl) (by kernel_rfl) (fun _ _ _ h => h) (Or.inl ⟨by rfl, ?_⟩) (by assumption) ?_
    · (intro w hSw; (try dsimp only at hSw); go_simp)
    try simp only [Act.put, List.setIfInBounds_toArray, List.set_cons_zero, List.set_cons_succ]
    refine wpAnyH_take (i := 2) (oi := ⟨some 31, _, _, _, _, _⟩) (v := ?_) rfl (by kernel_rfl) (by kernel_rfl) (by kernel_rfl) (fun _ _ _ h => h) (Or.inl ⟨by rfl, ?_⟩) (by assumption) ?_
    rotate_left
    · (intro w hSw; (try dsimp only at hSw); go_simp)
      first | done | (with_reducible rfl)
    try simp only [Act.put, List.setIfInBounds_toArray, List.set_cons_zero, List.set_cons_succ]
    refine wpAnyH_take (i := 3) (oi := ⟨some 32, _, _, _, _, _⟩) (v := .slice Y1 4 (c - 12)) rfl (by kernel_rfl) (by kernel_rfl) (by kernel_rfl) (fun _ _ _ h => h) (Or.inl ⟨by rfl, ?_⟩) (by assumption) ?_
    · (intro w hSw; (try dsimp only at hSw); go_simp)
    try simp only [Act.put, List.setIfInBounds_toArray, List.set_cons_zero, List.set_cons_succ]
    refine wpAnyH_ready (rs := [4]) (by kernel_rfl) (by simp) ?_
    refine AllReadyH.cons (o := ⟨some 33, _, _, _, _, _⟩) rfl (fun K hK => ?_) (AllReadyH.nil)
    refine step_copy (by rfl) (.tmp 30) (.tmp 32) (by rfl) G 1 (by rfl) Y1 (c - 12) (by rfl) 72 _ ((bs.take 16).drop 12) BK.out (HY1.out _ (H2.out.below BL.out.drew)) (by rw [net_length zz_sixteen zz_sixteen]; omega) ?_
    rw [net_copy1]
    intro w4 B4 F4
    have E4 : Hid (Below x2.heap.size x2 w4) := below_only BL.out.drew F4.out hG BL.out.drew.size
    have BB4 := Lib.hid (Blk.far (w := wc.drew) BB.out F4.out hgG)
    refine hK.out _ _ trivial (fun hHeld => ?_)
    clear hK K BK BB
    try simp only [Act.put, List.setIfInBounds_toArray, List.set_cons_zero, List.set_cons_succ]
    refine wpAnyH_done (by kernel_rfl) ?_ _
    refine NoPanic.normal ?_
    go_upto_region 6 with (fail)
    refine wp_region_noPanic ?_
    refine wp_region_held_drew (S := fun _ => True) (by kernel_rfl) trivial (fun hHeld => ?_)
    refine wpAnyH_take (i := 0) (oi := ⟨some 34, _, _, _, _, _⟩) (v := .pointer (some ⟨G, 17, none⟩)) rfl (by kernel_rfl) (by kernel_rfl) (by kernel_rfl) (fun _ _ _ h => h) (Or.inl ⟨by rfl, ?_⟩) (by assumption) ?_
    · (intro w hSw; (try dsimp only at hSw); go_simp)
    try simp only [Act.put, List.setIfInBounds_toArray, List.set_cons_zero, List.set_cons_succ]
    refine wpAnyH_take (i := 1) (oi := ⟨some 35, _, _, _, _, _⟩) (v := .slice (some ⟨G, 17, none⟩) 16 16) rfl (by kernel_rfl) (by kernel_rfl) (by kernel_rfl) (fun _ _ _ h => h) (Or.inl ⟨by rfl, ?_⟩) (by assumption) ?_
    · (intro w hSw; (try dsimp only at hSw); go_simp)
    try simp only [Act.put, List.setIfInBounds_toArray, List.set_cons_zero, List.set_cons_succ]
    refine wpAnyH_take (i := 2) (oi := ⟨some 36, _, _, _, _, _⟩) (v := ?_) rfl (by kernel_rfl) (by kernel_rfl) (by kernel_rfl) (fun _ _ _ h => h) (Or.inl ⟨by rfl, ?_⟩) (by assumption) ?_
    rotate_left
    · (intro w hSw; (try dsimp only at hSw); go_simp)
      first | done | (with_reducible rfl)
    try simp only [Act.put, List.setIfInBounds_toArray, List.set_cons_zero, List.set_cons_succ]
    refine wpAnyH_take (i := 3) (oi := ⟨some 37, _, _, _, _, _⟩) (v := .slice Y2 4 (c - 16)) rfl (by kernel_rfl) (by kernel_rfl) (by kernel_rfl) (fun _ _ _ h => h) (Or.inl ⟨by rfl, ?_⟩) (by assumption) ?_
    · (intro w hSw; (try dsimp only at hSw); go_simp)
    try simp only [Act.put, List.setIfInBounds_toArray, List.set_cons_zero, List.set_cons_succ]
    refine wpAnyH_ready (rs := [4]) (by kernel_rfl) (by simp) ?_
    refine AllReadyH.cons (o := ⟨some 38, _, _, _, _, _⟩) rfl (fun K hK => ?_) (AllReadyH.nil)
    refine step_copy (by rfl) (.tmp 35) (.tmp 37) (by rfl) G 17 (by rfl) Y2 (c - 16) (by rfl) 72 _ ((bs.take 20).drop 16) B4.out (HY2.out _ (H2.out.below E4.out.drew)) (by rw [net_length (adr_sixteen (by omega) (by omega)) zz_sixteen]; omega) ?_
    rw [net_copy2 (adr_sixteen (by omega) (by omega))]
    intro w5 B5 F5
    have E5 : Hid (Below x2.heap.size x2 w5) := below_only E4.out.drew F5.out hG E4.out.drew.size
    have BB5 := Lib.hid (Blk.far (w := w4.drew) BB4.out F5.out hgG)
    refine hK.out _ _ trivial (fun hHeld => ?_)
    clear hK K B4 BB4
    try simp only [Act.put, List.setIfInBounds_toArray, List.set_cons_zero, List.set_cons_succ]
    refine wpAnyH_done (by kernel_rfl) ?_ _
    refine NoPanic.normal ?_
    have BF0 : Hid (Blk w5 G 72 (toldV bs (.slice (some ⟨g, 0, none⟩) (t - hh) (t - hh)))) := by
      unfold toldV
      rw [HP0.out, HF.out]
      exact B5.out
    have L3 := Lib.hid (L2.out.far (Far.of_below E5.out nobody) (fun e => e))
    have WW : Hid (Below w.heap.size w w5) := W2.out.trans (E5.out.mono W2.out.size)
    go_wp2_with (first | (refine wpList_load_row rfl 72 (.tmp 5) rfl G rfl 72 _ _ _ BF0.out Try.underlying72 rfl (by rw [List.size_toArray, told_length f1]; exact size26) ?_) | (refine wpList_put rfl 72 size26 (.tmp 2) (.tmp 39) rfl w.heap.size (toldV bs (.slice (some ⟨g, 0, none⟩) (t - hh) (t - hh))) rfl rfl 72 (net 0 zz zz (.slice none 0 0) false) L3.out (net_length zz_sixteen zz_sixteen) (told_length f1) (net_one rfl) ?_; intro wf BF FF))
    refine bodyPost_ret (v := .tuple #[.agg (toldV bs (.slice (some ⟨g, 0, none⟩) (t - hh) (t - hh))).toArray, .int .i64 0]) (by simp [results, Try.results42, asAddr, load26 BF.out (told_length f1)]) rfl ⟨g, ?_, below_only WW.out FF.out (Nat.le_refl _) WW.out.size, by omega, ?_⟩
    · rw [HM.out]
    · exact BB5.out.far FF.out (fun e => by have : g = w.heap.size := e; omega)
end Go.Proofs.Ytebpemknmcgamaa.inet
