/- The contract of inet6's Parse. Conditions: those of each theorem. -/
import Derived.Test.YtebpemknmcgamaaSixCarried
namespace Go.Proofs.Ytebpemknmcgamaa.six
open Go.RowKit

theorem carried_b (p q : Int) (A : Option Addr) (n c r : Nat) (ls ks : List Int) (f : Bool) (w : World) (h : Byts w A n ls) (ho : Octs ls) (hn : n ≤ 1000000) (hc : n ≤ c) (h0 : 0 ≤ p) (h1 : p ≤ 255) (hR : goes 8 true p ls = (r, q, ks, f)) :
    Calls Try.prog 46 #[.int .u8 p, .slice A n c] w fun e w' => ∃ A' c', e = .returned (.tuple #[.agg (net q zz zz (.slice A' ks.length c') f).toArray, .int .i64 ((r : Nat) : Int)]) ∧ Below w.heap.size w w' ∧ Bod w' A' ks ∧ ks.length ≤ c' :=
  carried_any p A n c ls _ w h ho hn hc h0 h1 hR
/-- What Parse leaves. -/
def ParOut (w : World) (bs : List Int) (r : Nat) (q : Int) (ks : List Int) (f : Bool) (e : Ending) (w' : World) : Prop :=
  ∃ A c, e = .returned (.tuple #[.agg (net q (sr bs r) (ds bs r) (.slice A ks.length c) f).toArray, .int .i64 ((r : Nat) : Int)]) ∧ Below w.heap.size w w' ∧ Bod w' A ks ∧ ks.length ≤ c
theorem behind_length {bs : List Int} (h : why bs = 0) : (behind bs).length = wd bs 4 := by
  have := why_fine h
  unfold behind
  simp
  omega
theorem net_copy1 {p : Int} {bs d : List Int} {B : Value} {f : Bool} : (net p zz d B f).take 1 ++ (cel ((bs.take 24).drop 8) ++ (net p zz d B f).drop (1 + 16)) = net p (adr bs 8 16) d B f := by
  rw [List.drop_take]
  simp [net, adr, cel, zz]
theorem net_copy2 {p : Int} {bs s : List Int} {B : Value} {f : Bool} (hs : Sixteen s) : (net p s zz B f).take 17 ++ (cel ((bs.take 40).drop 24) ++ (net p s zz B f).drop (17 + 16)) = net p s (adr bs 24 16) B f := by
  unfold Sixteen at hs
  rw [List.drop_take]
  simp [net, adr, cel, zz, hs, List.drop_append]

set_option maxHeartbeats 4000000 in
theorem parse_no (A : Option Addr) (n c r : Nat) (bs : List Int) (w : World) (h : Byts w A n bs) (ho : Octs bs) (hm : n ≤ 9223372036854775807) (hc : n ≤ c) (hr : why bs = r) (h0 : r ≠ 0) :
    Calls Try.prog 41 #[.slice A n c] w fun e w' => e = .returned (.tuple #[.agg (net 0 zz zz (.slice none 0 0) false).toArray, .int .i64 ((r : Nat) : Int)]) ∧ Below w.heap.size w w' := by
  have W0 : Hid (Below w.heap.size w (w.alloc (.cells #[.int .u8 0, .int .u8 0, .int .u8 0, .int .u8 0, .int .u8 0, .int .u8 0, .int .u8 0, .int .u8 0, .int .u8 0, .int .u8 0, .int .u8 0, .int .u8 0, .int .u8 0, .int .u8 0, .int .u8 0, .int .u8 0, .int .u8 0, .int .u8 0, .int .u8 0, .int .u8 0, .int .u8 0, .int .u8 0, .int .u8 0, .int .u8 0, .int .u8 0, .int .u8 0, .int .u8 0, .int .u8 0, .int .u8 0, .int .u8 0, .int .u8 0, .int .u8 0, .int .u8 0, .slice none 0 0, .bool false] 72))) := (Below.refl _ w).alloc (Nat.le_refl _) _
  have L0 : Hid (Blk (w.alloc (.cells #[.int .u8 0, .int .u8 0, .int .u8 0, .int .u8 0, .int .u8 0, .int .u8 0, .int .u8 0, .int .u8 0, .int .u8 0, .int .u8 0, .int .u8 0, .int .u8 0, .int .u8 0, .int .u8 0, .int .u8 0, .int .u8 0, .int .u8 0, .int .u8 0, .int .u8 0, .int .u8 0, .int .u8 0, .int .u8 0, .int .u8 0, .int .u8 0, .int .u8 0, .int .u8 0, .int .u8 0, .int .u8 0, .int .u8 0, .int .u8 0, .int .u8 0, .int .u8 0, .int .u8 0, .slice none 0 0, .bool false] 72)) w.heap.size 72 (net 0 zz zz (.slice none 0 0) false)) := Blk.new w 72 (net 0 zz zz (.slice none 0 0) false)
  have HC := Lib.hid (fault_any A n c r bs _ (h.below W0.out) ho hm hc hr)
  have hne : ((r : Int) != 0) = true := by simp; omega
  clear h ho hr
  go_enter Try.func41, Try.ntmps41
  go_upto_region 1 with (fail)
  generalize w.alloc (.cells #[.int .u8 0, .int .u8 0, .int .u8 0, .int .u8 0, .int .u8 0, .int .u8 0, .int .u8 0, .int .u8 0, .int .u8 0, .int .u8 0, .int .u8 0, .int .u8 0, .int .u8 0, .int .u8 0, .int .u8 0, .int .u8 0, .int .u8 0, .int .u8 0, .int .u8 0, .int .u8 0, .int .u8 0, .int .u8 0, .int .u8 0, .int .u8 0, .int .u8 0, .int .u8 0, .int .u8 0, .int .u8 0, .int .u8 0, .int .u8 0, .int .u8 0, .int .u8 0, .int .u8 0, .slice none 0 0, .bool false] 72) = w0 at *
  go_wp2_with (first | (refine wpList_put rfl 72 size26 (.tmp 2) (.tmp 11) rfl w.heap.size (net 0 zz zz (.slice none 0 0) false) rfl rfl 72 (net 0 zz zz (.slice none 0 0) false) L1.out (net_length zz_sixteen zz_sixteen) (net_length zz_sixteen zz_sixteen) (net_one rfl) ?_; intro wf BF FF) | (go_at_call 45; (with_reducible refine HC.out.mono ?_); rintro e x1 ⟨rfl, hb⟩; have W1 : Hid (Below w.heap.size w x1) := W0.out.trans (hb.mono W0.out.size); have L1 := Lib.hid (L0.out.far (Far.of_below hb nobody) (fun e => e)); clear hb))
  refine bodyPost_ret (v := .tuple #[.agg (net 0 zz zz (.slice none 0 0) false).toArray, .int .i64 ((r : Nat) : Int)]) (by simp [results, Try.results41, asAddr, load26 BF.out (net_length zz_sixteen zz_sixteen)]) rfl ⟨rfl, below_only W1.out FF.out (Nat.le_refl _) W1.out.size⟩

set_option maxRecDepth 100000 in
set_option maxHeartbeats 4000000 in
theorem parse_go (A : Option Addr) (n c r : Nat) (q : Int) (bs ks : List Int) (f : Bool) (w : World) (h : Byts w A n bs) (ho : Octs bs) (hm : n ≤ 9223372036854775807) (hc : n ≤ c) (hr : why bs = 0) (hR : goes 8 true (bs.getD 6 0) (behind bs) = (r, q, ks, f)) :
    Calls Try.prog 41 #[.slice A n c] w (ParOut w bs r q ks f) := by
  have hbn := h.1
  have b6 := ho.at_ 6
  obtain ⟨f1, f2, f3⟩ := why_fine hr
  have HBL := Lib.hid (behind_length hr)
  have HGN : Hid (r ≠ 0 → q = 0 ∧ ks = [] ∧ f = false) := fun hne => by
    have := goes_no (k := 8) (f := true) (p := bs.getD 6 0) (ls := behind bs) (by rw [hR]; exact hne)
    rw [hR] at this
    simp only [no, Prod.mk.injEq] at this
    exact this.2
  have W0 : Hid (Below w.heap.size w (w.alloc (.cells #[.int .u8 0, .int .u8 0, .int .u8 0, .int .u8 0, .int .u8 0, .int .u8 0, .int .u8 0, .int .u8 0, .int .u8 0, .int .u8 0, .int .u8 0, .int .u8 0, .int .u8 0, .int .u8 0, .int .u8 0, .int .u8 0, .int .u8 0, .int .u8 0, .int .u8 0, .int .u8 0, .int .u8 0, .int .u8 0, .int .u8 0, .int .u8 0, .int .u8 0, .int .u8 0, .int .u8 0, .int .u8 0, .int .u8 0, .int .u8 0, .int .u8 0, .int .u8 0, .int .u8 0, .slice none 0 0, .bool false] 72))) := (Below.refl _ w).alloc (Nat.le_refl _) _
  have L0 : Hid (Blk (w.alloc (.cells #[.int .u8 0, .int .u8 0, .int .u8 0, .int .u8 0, .int .u8 0, .int .u8 0, .int .u8 0, .int .u8 0, .int .u8 0, .int .u8 0, .int .u8 0, .int .u8 0, .int .u8 0, .int .u8 0, .int .u8 0, .int .u8 0, .int .u8 0, .int .u8 0, .int .u8 0, .int .u8 0, .int .u8 0, .int .u8 0, .int .u8 0, .int .u8 0, .int .u8 0, .int .u8 0, .int .u8 0, .int .u8 0, .int .u8 0, .int .u8 0, .int .u8 0, .int .u8 0, .int .u8 0, .slice none 0 0, .bool false] 72)) w.heap.size 72 (net 0 zz zz (.slice none 0 0) false)) := Blk.new w 72 (net 0 zz zz (.slice none 0 0) false)
  have H : Hid (Byts (w.alloc (.cells #[.int .u8 0, .int .u8 0, .int .u8 0, .int .u8 0, .int .u8 0, .int .u8 0, .int .u8 0, .int .u8 0, .int .u8 0, .int .u8 0, .int .u8 0, .int .u8 0, .int .u8 0, .int .u8 0, .int .u8 0, .int .u8 0, .int .u8 0, .int .u8 0, .int .u8 0, .int .u8 0, .int .u8 0, .int .u8 0, .int .u8 0, .int .u8 0, .int .u8 0, .int .u8 0, .int .u8 0, .int .u8 0, .int .u8 0, .int .u8 0, .int .u8 0, .int .u8 0, .int .u8 0, .slice none 0 0, .bool false] 72)) A n bs) := h.below W0.out
  have HC := Lib.hid (fault_any A n c 0 bs _ H.out ho hm hc hr)
  have HO := Lib.hid ho
  have HOB : Hid (Octs (behind bs)) := (ho.take _).drop _
  have HR := Lib.hid hR
  clear h ho hr hR
  obtain ⟨ad, rfl, _⟩ := H.out.2 (by omega)
  have hwb := wd_bd HO.out 4
  obtain ⟨Z, hmid0, hz⟩ := mid_z (A := some ad) (n := n) (c := c) (p := 40) (q := 40 + wd bs 4) (bs := bs) (by omega) (by omega) hc
  rw [show 40 + wd bs 4 - 40 = wd bs 4 by omega] at hmid0 hz
  have hmid : ∀ W, (Instr.slice 22 (.slice (some ad) n c) (some (.int .i64 40)) (some (.int .i64 (40 + (wd bs 4 : Int)))) none).run Try.prog W = .ok (.slice Z (wd bs 4) (c - 40)) W := hmid0
  have HZ : Hid (∀ w, Byts w (some ad) n bs → Byts w Z (wd bs 4) (behind bs)) := hz
  obtain ⟨Z4, hcut4, hz4⟩ := from_z (A := some ad) (bs := bs) (show 4 ≤ n by omega) hc
  have hc4 : ∀ W, (Instr.slice 22 (.slice (some ad) n c) (some (.int .i64 4)) none none).run Try.prog W = .ok (.slice Z4 (n - 4) (c - 4)) W := hcut4
  obtain ⟨Y1, hcut7, hy1⟩ := mid_z (A := some ad) (n := n) (c := c) (p := 8) (q := 24) (bs := bs) (by omega) (by omega) hc
  have hm1 : ∀ W, (Instr.slice 22 (.slice (some ad) n c) (some (.int .i64 8)) (some (.int .i64 24)) none).run Try.prog W = .ok (.slice Y1 16 (c - 8)) W := hcut7
  have HY1 : Hid (∀ w, Byts w (some ad) n bs → Byts w Y1 16 ((bs.take 24).drop 8)) := hy1
  obtain ⟨Y2, hcut8, hy2⟩ := mid_z (A := some ad) (n := n) (c := c) (p := 24) (q := 40) (bs := bs) (by omega) (by omega) hc
  have hm2 : ∀ W, (Instr.slice 22 (.slice (some ad) n c) (some (.int .i64 24)) (some (.int .i64 40)) none).run Try.prog W = .ok (.slice Y2 16 (c - 24)) W := hcut8
  have HY2 : Hid (∀ w, Byts w (some ad) n bs → Byts w Y2 16 ((bs.take 40).drop 24)) := hy2
  have HZ4 := Lib.hid hz4
  clear hz hmid0 hcut4 hcut7 hcut8 hy1 hy2 hz4
  go_enter Try.func41, Try.ntmps41
  go_upto_region 1 with (fail)
  generalize w.alloc (.cells #[.int .u8 0, .int .u8 0, .int .u8 0, .int .u8 0, .int .u8 0, .int .u8 0, .int .u8 0, .int .u8 0, .int .u8 0, .int .u8 0, .int .u8 0, .int .u8 0, .int .u8 0, .int .u8 0, .int .u8 0, .int .u8 0, .int .u8 0, .int .u8 0, .int .u8 0, .int .u8 0, .int .u8 0, .int .u8 0, .int .u8 0, .int .u8 0, .int .u8 0, .int .u8 0, .int .u8 0, .int .u8 0, .int .u8 0, .int .u8 0, .int .u8 0, .int .u8 0, .int .u8 0, .slice none 0 0, .bool false] 72) = w0 at *
  go_upto_region 4 with (first | (go_at_call 45; (with_reducible refine HC.out.mono ?_); rintro e x2 ⟨rfl, hb⟩; have W2 : Hid (Below w.heap.size w x2) := W0.out.trans (hb.mono W0.out.size); have L2 := Lib.hid (L0.out.far (Far.of_below hb nobody) (fun e => e)); have H2 := Lib.hid (H.out.below hb); clear hb))
  have CN : Hid (∀ W, Below x2.heap.size x2 W → Calls Try.prog 47 #[.slice Z4 (n - 4) (c - 4)] W fun e w' => e = .returned (.int .i64 ((wd bs 4 : Nat) : Int)) ∧ Below W.heap.size W w') := fun W hW => by
    have := number_b Z4 (n - 4) (c - 4) (bs.drop 4) W (HZ4.out _ (H2.out.below hW)) (HO.out.drop 4) (by omega) (by omega)
    rwa [wd_drop] at this
  have CC : Hid (∀ W, Below x2.heap.size x2 W → Calls Try.prog 46 #[.int .u8 (bs.getD 6 0), .slice Z (wd bs 4) (c - 40)] W fun e w' => ∃ A' c', e = .returned (.tuple #[.agg (net q zz zz (.slice A' ks.length c') f).toArray, .int .i64 ((r : Nat) : Int)]) ∧ Below W.heap.size W w' ∧ Bod w' A' ks ∧ ks.length ≤ c') := fun W hW =>
    carried_b (bs.getD 6 0) q Z (wd bs 4) (c - 40) r (behind bs) ks f W (HZ.out _ (H2.out.below hW)) HOB.out (by omega) (by omega) b6.1 b6.2 HR.out
  have hn6 : (6 : Int) < (n : Int) := by omega
  have hc6 : x2.cell? ⟨ad.block, ad.off + 6, none⟩ = some (.int .u8 (bs.getD 6 0)) := by
    obtain ⟨ad', e, hcell⟩ := H2.out.2 (by omega)
    cases e
    simpa [Addr.add] using hcell 6 (by omega)
  have hw40 : IntKind.i64.wrap (40 + (wd bs 4 : Int)) = 40 + (wd bs 4 : Int) := by rw [IntKind.wrap_i64]; omega
  clear HC HZ4 HR HBL HOB HZ f2 H L0 b6
  generalize wd bs 4 = t at *
  generalize bs.getD 6 0 = p0 at *
  go_cut [5, 6] from 13 to 25 (fun s u wx => ∃ G A' c', s = .pointer (some ⟨G, 0, none⟩) ∧ u = .int .i64 ((r : Nat) : Int) ∧ x2.heap.size ≤ G ∧ Blk wx G 72 (net q zz zz (.slice A' ks.length c') f) ∧ Bod wx A' ks ∧ ks.length ≤ c' ∧ Below x2.heap.size x2 wx)
  case first =>
    generalize x2 = wr at *
    have D0 : Hid (Below wr.heap.size wr wr.drew) := (Below.refl _ _).drew
    refine wp_region_noPanic ?_
    refine wp_region_held_drew (S := fun W => W.cell? ⟨ad.block, ad.off + 6, none⟩ = some (.int .u8 p0)) (by kernel_rfl) ?_ (fun hHeld => ?_)
    · exact keep9 D0.out hc6
    refine wpAnyH_take (i := 0) (oi := ⟨some 14, _, _, _, _, _⟩) (v := ?_) rfl (by kernel_rfl) (by kernel_rfl) (by kernel_rfl) (fun _ _ _ h => h) (Or.inl ⟨by rfl, ?_⟩) (by assumption) ?_
    rotate_left
    · (intro w hSw; (try dsimp only at hSw); go_simp)
      first | done | (with_reducible rfl)
    try simp only [Act.put, List.setIfInBounds_toArray, List.set_cons_zero, List.set_cons_succ]
    refine wpAnyH_take (i := 1) (oi := ⟨some 15, _, _, _, _, _⟩) (v := ?_) rfl (by kernel_rfl) (by kernel_rfl) (by kernel_rfl) (fun _ _ _ h => h) (Or.inl ⟨by rfl, ?_⟩) (by assumption) ?_
    rotate_left
    · (intro w hSw; (try dsimp only at hSw); go_simp)
      first | done | (with_reducible rfl)
    try simp only [Act.put, List.setIfInBounds_toArray, List.set_cons_zero, List.set_cons_succ]
    refine wpAnyH_take (i := 2) (oi := ⟨some 16, _, _, _, _, _⟩) (v := ?_) rfl (by kernel_rfl) (by kernel_rfl) (by kernel_rfl) (fun _ _ _ h => h) (Or.inl ⟨by rfl, ?_⟩) (by assumption) ?_
    rotate_left
    · (intro w hSw; (try dsimp only at hSw); go_simp)
      first | done | (with_reducible rfl)
    try simp only [Act.put, List.setIfInBounds_toArray, List.set_cons_zero, List.set_cons_succ]
    refine wpAnyH_take (i := 3) (oi := ⟨some 17, _, _, _, _, _⟩) (v := ?_) rfl (by kernel_rfl) (by kernel_rfl) (by kernel_rfl) (fun _ _ _ h => h) (Or.inl ⟨by rfl, ?_⟩) (by assumption) ?_
    rotate_left
    · (intro w hSw; (try dsimp only at hSw); go_simp)
      first | done | (with_reducible rfl)
    try simp only [Act.put, List.setIfInBounds_toArray, List.set_cons_zero, List.set_cons_succ]
    refine wpAnyH_take (i := 4) (oi := ⟨some 18, _, _, _, _, _⟩) (v := ?_) rfl (by kernel_rfl) (by kernel_rfl) (by kernel_rfl) (fun _ _ _ h => h) (Or.inl ⟨by rfl, ?_⟩) (by assumption) ?_
    rotate_left
    · (intro w hSw; (try dsimp only at hSw); go_simp)
      first | done | (with_reducible rfl)
    try simp only [Act.put, List.setIfInBounds_toArray, List.set_cons_zero, List.set_cons_succ]
    refine wpAnyH_take (i := 5) (oi := ⟨some 19, _, _, _, _, _⟩) (v := .slice Z4 (n - 4) (c - 4)) rfl (by kernel_rfl) (by kernel_rfl) (by kernel_rfl) (fun _ _ _ h => h) (Or.inl ⟨by rfl, ?_⟩) (by assumption) ?_
    · (intro w hSw; (try dsimp only at hSw); go_simp)
    try simp only [Act.put, List.setIfInBounds_toArray, List.set_cons_zero, List.set_cons_succ]
    refine wpAnyH_ready (rs := [6, 13]) (by kernel_rfl) (by simp) ?_
    refine AllReadyH.cons (o := ⟨some 20, _, _, _, _, _⟩) rfl (fun K hK => ?_) (AllReadyH.cons (o := ⟨some 5, _, _, _, _, _⟩) rfl (fun K hK => ?_) (AllReadyH.nil))
    · go_simp
      refine (CN.out _ D0.out).mono ?_
      rintro e z2 ⟨rfl, hb⟩
      have E2 : Hid (Below wr.heap.size wr z2) := D0.out.trans (hb.mono D0.out.size)
      clear hb
      refine hK.out _ _ ?_ (fun hHeld => ?_)
      · exact keep9 E2.out hc6
      clear hK K
      try simp only [Act.put, List.setIfInBounds_toArray, List.set_cons_zero, List.set_cons_succ]
      refine wpAnyH_take (i := 7) (oi := ⟨some 21, _, _, _, _, _⟩) (v := .int .i64 (40 + (t : Int))) rfl (by kernel_rfl) (by kernel_rfl) (by kernel_rfl) (fun _ _ _ h => h) (Or.inl ⟨by rfl, ?_⟩) (by assumption) ?_
      · (intro w hSw; (try dsimp only at hSw); go_simp)
      try simp only [Act.put, List.setIfInBounds_toArray, List.set_cons_zero, List.set_cons_succ]
      refine wpAnyH_take (i := 8) (oi := ⟨some 22, _, _, _, _, _⟩) (v := .slice Z t (c - 40)) rfl (by kernel_rfl) (by kernel_rfl) (by kernel_rfl) (fun _ _ _ h => h) (Or.inl ⟨by rfl, ?_⟩) (by assumption) ?_
      · (intro w hSw; (try dsimp only at hSw); go_simp)
      try simp only [Act.put, List.setIfInBounds_toArray, List.set_cons_zero, List.set_cons_succ]
      refine wpAnyH_ready (rs := [9, 13]) (by kernel_rfl) (by simp) ?_
      refine AllReadyH.cons (o := ⟨some 23, _, _, _, _, _⟩) rfl (fun K hK => ?_) (AllReadyH.cons (o := ⟨some 5, _, _, _, _, _⟩) rfl (fun K hK => ?_) (AllReadyH.nil))
      · go_simp
        refine (CC.out _ E2.out).mono ?_
        rintro e z4 ⟨A4, c4, rfl, hb, hbk, hcap⟩
        have E4 : Hid (Below wr.heap.size wr z4) := E2.out.trans (hb.mono E2.out.size)
        have BB4 := Lib.hid hbk
        have HCAP := Lib.hid hcap
        clear hbk hcap
        clear hb
        refine hK.out _ _ ?_ (fun hHeld => ?_)
        · exact keep9 E4.out hc6
        clear hK K
        try simp only [Act.put, List.setIfInBounds_toArray, List.set_cons_zero, List.set_cons_succ]
        refine wpAnyH_take (i := 10) (oi := ⟨some 13, _, _, _, _, _⟩) (v := .tuple #[.agg (net q zz zz (.slice A4 ks.length c4) f).toArray, .int .i64 ((r : Nat) : Int)]) rfl (by kernel_rfl) (by kernel_rfl) (by kernel_rfl) (fun _ _ _ h => h) (Or.inl ⟨by rfl, ?_⟩) (by assumption) ?_
        · (intro w hSw; (try dsimp only at hSw); go_simp)
        try simp only [Act.put, List.setIfInBounds_toArray, List.set_cons_zero, List.set_cons_succ]
        refine wpAnyH_take (i := 11) (oi := ⟨some 24, _, _, _, _, _⟩) (v := .agg (net q zz zz (.slice A4 ks.length c4) f).toArray) rfl (by kernel_rfl) (by kernel_rfl) (by kernel_rfl) (fun _ _ _ h => h) (Or.inl ⟨by rfl, ?_⟩) (by assumption) ?_
        · (intro w hSw; (try dsimp only at hSw); go_simp)
        try simp only [Act.put, List.setIfInBounds_toArray, List.set_cons_zero, List.set_cons_succ]
        refine wpAnyH_take (i := 12) (oi := ⟨some 25, _, _, _, _, _⟩) (v := .int .i64 ((r : Nat) : Int)) rfl (by kernel_rfl) (by kernel_rfl) (by kernel_rfl) (fun _ _ _ h => h) (Or.inl ⟨by rfl, ?_⟩) (by assumption) ?_
        · (intro w hSw; (try dsimp only at hSw); go_simp)
        try simp only [Act.put, List.setIfInBounds_toArray, List.set_cons_zero, List.set_cons_succ]
        refine wpAnyH_ready (rs := [13]) (by kernel_rfl) (by simp) ?_
        refine AllReadyH.cons (o := ⟨some 5, _, _, _, _, _⟩) rfl (fun K hK => ?_) (AllReadyH.nil)
        go_simp
        have F5 : Hid (Below wr.heap.size wr (z4.alloc (.cells #[.int .u8 0, .int .u8 0, .int .u8 0, .int .u8 0, .int .u8 0, .int .u8 0, .int .u8 0, .int .u8 0, .int .u8 0, .int .u8 0, .int .u8 0, .int .u8 0, .int .u8 0, .int .u8 0, .int .u8 0, .int .u8 0, .int .u8 0, .int .u8 0, .int .u8 0, .int .u8 0, .int .u8 0, .int .u8 0, .int .u8 0, .int .u8 0, .int .u8 0, .int .u8 0, .int .u8 0, .int .u8 0, .int .u8 0, .int .u8 0, .int .u8 0, .int .u8 0, .int .u8 0, .slice none 0 0, .bool false] 72))) := E4.out.alloc E4.out.size _
        have V5 : Hid (Blk (z4.alloc (.cells #[.int .u8 0, .int .u8 0, .int .u8 0, .int .u8 0, .int .u8 0, .int .u8 0, .int .u8 0, .int .u8 0, .int .u8 0, .int .u8 0, .int .u8 0, .int .u8 0, .int .u8 0, .int .u8 0, .int .u8 0, .int .u8 0, .int .u8 0, .int .u8 0, .int .u8 0, .int .u8 0, .int .u8 0, .int .u8 0, .int .u8 0, .int .u8 0, .int .u8 0, .int .u8 0, .int .u8 0, .int .u8 0, .int .u8 0, .int .u8 0, .int .u8 0, .int .u8 0, .int .u8 0, .slice none 0 0, .bool false] 72)) z4.heap.size 72 (net 0 zz zz (.slice none 0 0) false)) := Blk.new z4 72 (net 0 zz zz (.slice none 0 0) false)
        have hGV5 : wr.heap.size ≤ z4.heap.size := E4.out.size
        have BA5 := Lib.hid (BB4.out.below ((Below.refl z4.heap.size z4).alloc (Nat.le_refl _) (.cells #[.int .u8 0, .int .u8 0, .int .u8 0, .int .u8 0, .int .u8 0, .int .u8 0, .int .u8 0, .int .u8 0, .int .u8 0, .int .u8 0, .int .u8 0, .int .u8 0, .int .u8 0, .int .u8 0, .int .u8 0, .int .u8 0, .int .u8 0, .int .u8 0, .int .u8 0, .int .u8 0, .int .u8 0, .int .u8 0, .int .u8 0, .int .u8 0, .int .u8 0, .int .u8 0, .int .u8 0, .int .u8 0, .int .u8 0, .int .u8 0, .int .u8 0, .int .u8 0, .int .u8 0, .slice none 0 0, .bool false] 72)))
        refine hK.out _ _ ?_ (fun hHeld => ?_)
        · exact keep9 F5.out hc6
        clear hK K
        try simp only [Act.put, List.setIfInBounds_toArray, List.set_cons_zero, List.set_cons_succ]
        generalize (z4.alloc (.cells #[.int .u8 0, .int .u8 0, .int .u8 0, .int .u8 0, .int .u8 0, .int .u8 0, .int .u8 0, .int .u8 0, .int .u8 0, .int .u8 0, .int .u8 0, .int .u8 0, .int .u8 0, .int .u8 0, .int .u8 0, .int .u8 0, .int .u8 0, .int .u8 0, .int .u8 0, .int .u8 0, .int .u8 0, .int .u8 0, .int .u8 0, .int .u8 0, .int .u8 0, .int .u8 0, .int .u8 0, .int .u8 0, .int .u8 0, .int .u8 0, .int .u8 0, .int .u8 0, .int .u8 0, .slice none 0 0, .bool false] 72)) = v5 at *
        refine wpAnyH_ready (rs := [14]) (by kernel_rfl) (by simp) ?_
        refine AllReadyH.cons (o := ⟨none, _, _, _, _, _⟩) rfl (fun K hK => ?_) (AllReadyH.nil)
        refine step_put (by rfl) 72 size26 (.tmp 5) (.tmp 24) (by rfl) z4.heap.size (net q zz zz (.slice A4 ks.length c4) f) (by rfl) (by rfl) 72 (net 0 zz zz (.slice none 0 0) false) V5.out (net_length zz_sixteen zz_sixteen) (net_length zz_sixteen zz_sixteen) (net_one rfl) ?_
        intro wf BF FF
        have EF : Hid (Below wr.heap.size wr wf) := below_only F5.out FF.out hGV5 F5.out.size
        have BBF := Lib.hid (BA5.out.only V5.out (by decide) FF.out)
        refine hK.out _ _ ?_ (fun hHeld => ?_)
        · exact keep9 EF.out hc6
        clear hK K
        try simp only [Act.put]
        refine wpAnyH_take (i := 15) (oi := ⟨some 6, _, _, _, _, _⟩) (v := .int .i64 ((r : Nat) : Int)) rfl (by kernel_rfl) (by kernel_rfl) (by kernel_rfl) (fun _ _ _ h => h) (Or.inl ⟨by rfl, ?_⟩) (by assumption) ?_
        · (intro w hSw; (try dsimp only at hSw); go_simp)
        try simp only [Act.put, List.setIfInBounds_toArray, List.set_cons_zero, List.set_cons_succ]
        refine wpAnyH_done (by kernel_rfl) ?_ _
        refine NoPanic.normal ?_
        go_wp2_with fail
        go_meet
        case rel => exact ⟨z4.heap.size, A4, c4, rfl, rfl, hGV5, BF.out, BBF.out, HCAP.out, EF.out⟩
      · go_simp
        have F3 : Hid (Below wr.heap.size wr (z2.alloc (.cells #[.int .u8 0, .int .u8 0, .int .u8 0, .int .u8 0, .int .u8 0, .int .u8 0, .int .u8 0, .int .u8 0, .int .u8 0, .int .u8 0, .int .u8 0, .int .u8 0, .int .u8 0, .int .u8 0, .int .u8 0, .int .u8 0, .int .u8 0, .int .u8 0, .int .u8 0, .int .u8 0, .int .u8 0, .int .u8 0, .int .u8 0, .int .u8 0, .int .u8 0, .int .u8 0, .int .u8 0, .int .u8 0, .int .u8 0, .int .u8 0, .int .u8 0, .int .u8 0, .int .u8 0, .slice none 0 0, .bool false] 72))) := E2.out.alloc E2.out.size _
        have V3 : Hid (Blk (z2.alloc (.cells #[.int .u8 0, .int .u8 0, .int .u8 0, .int .u8 0, .int .u8 0, .int .u8 0, .int .u8 0, .int .u8 0, .int .u8 0, .int .u8 0, .int .u8 0, .int .u8 0, .int .u8 0, .int .u8 0, .int .u8 0, .int .u8 0, .int .u8 0, .int .u8 0, .int .u8 0, .int .u8 0, .int .u8 0, .int .u8 0, .int .u8 0, .int .u8 0, .int .u8 0, .int .u8 0, .int .u8 0, .int .u8 0, .int .u8 0, .int .u8 0, .int .u8 0, .int .u8 0, .int .u8 0, .slice none 0 0, .bool false] 72)) z2.heap.size 72 (net 0 zz zz (.slice none 0 0) false)) := Blk.new z2 72 (net 0 zz zz (.slice none 0 0) false)
        have hGV3 : wr.heap.size ≤ z2.heap.size := E2.out.size
        refine hK.out _ _ ?_ (fun hHeld => ?_)
        · exact keep9 F3.out hc6
        clear hK K
        try simp only [Act.put, List.setIfInBounds_toArray, List.set_cons_zero, List.set_cons_succ]
        generalize (z2.alloc (.cells #[.int .u8 0, .int .u8 0, .int .u8 0, .int .u8 0, .int .u8 0, .int .u8 0, .int .u8 0, .int .u8 0, .int .u8 0, .int .u8 0, .int .u8 0, .int .u8 0, .int .u8 0, .int .u8 0, .int .u8 0, .int .u8 0, .int .u8 0, .int .u8 0, .int .u8 0, .int .u8 0, .int .u8 0, .int .u8 0, .int .u8 0, .int .u8 0, .int .u8 0, .int .u8 0, .int .u8 0, .int .u8 0, .int .u8 0, .int .u8 0, .int .u8 0, .int .u8 0, .int .u8 0, .slice none 0 0, .bool false] 72)) = v3 at *
        refine wpAnyH_ready (rs := [9]) (by kernel_rfl) (by simp) ?_
        refine AllReadyH.cons (o := ⟨some 23, _, _, _, _, _⟩) rfl (fun K hK => ?_) (AllReadyH.nil)
        go_simp
        refine (CC.out _ F3.out).mono ?_
        rintro e z6 ⟨A6, c6, rfl, hb, hbk, hcap⟩
        have E6 : Hid (Below wr.heap.size wr z6) := F3.out.trans (hb.mono F3.out.size)
        have VC6 := Lib.hid (V3.out.far (Far.of_below hb nobody) (fun e => e))
        have hGVC6 := hGV3
        have BB6 := Lib.hid hbk
        have HCAP := Lib.hid hcap
        clear hbk hcap
        clear hb
        refine hK.out _ _ ?_ (fun hHeld => ?_)
        · exact keep9 E6.out hc6
        clear hK K
        try simp only [Act.put, List.setIfInBounds_toArray, List.set_cons_zero, List.set_cons_succ]
        refine wpAnyH_take (i := 10) (oi := ⟨some 13, _, _, _, _, _⟩) (v := .tuple #[.agg (net q zz zz (.slice A6 ks.length c6) f).toArray, .int .i64 ((r : Nat) : Int)]) rfl (by kernel_rfl) (by kernel_rfl) (by kernel_rfl) (fun _ _ _ h => h) (Or.inl ⟨by rfl, ?_⟩) (by assumption) ?_
        · (intro w hSw; (try dsimp only at hSw); go_simp)
        try simp only [Act.put, List.setIfInBounds_toArray, List.set_cons_zero, List.set_cons_succ]
        refine wpAnyH_take (i := 11) (oi := ⟨some 24, _, _, _, _, _⟩) (v := .agg (net q zz zz (.slice A6 ks.length c6) f).toArray) rfl (by kernel_rfl) (by kernel_rfl) (by kernel_rfl) (fun _ _ _ h => h) (Or.inl ⟨by rfl, ?_⟩) (by assumption) ?_
        · (intro w hSw; (try dsimp only at hSw); go_simp)
        try simp only [Act.put, List.setIfInBounds_toArray, List.set_cons_zero, List.set_cons_succ]
        refine wpAnyH_take (i := 12) (oi := ⟨some 25, _, _, _, _, _⟩) (v := .int .i64 ((r : Nat) : Int)) rfl (by kernel_rfl) (by kernel_rfl) (by kernel_rfl) (fun _ _ _ h => h) (Or.inl ⟨by rfl, ?_⟩) (by assumption) ?_
        · (intro w hSw; (try dsimp only at hSw); go_simp)
        try simp only [Act.put, List.setIfInBounds_toArray, List.set_cons_zero, List.set_cons_succ]
        refine wpAnyH_ready (rs := [14]) (by kernel_rfl) (by simp) ?_
        refine AllReadyH.cons (o := ⟨none, _, _, _, _, _⟩) rfl (fun K hK => ?_) (AllReadyH.nil)
        refine step_put (by rfl) 72 size26 (.tmp 5) (.tmp 24) (by rfl) z2.heap.size (net q zz zz (.slice A6 ks.length c6) f) (by rfl) (by rfl) 72 (net 0 zz zz (.slice none 0 0) false) VC6.out (net_length zz_sixteen zz_sixteen) (net_length zz_sixteen zz_sixteen) (net_one rfl) ?_
        intro wf BF FF
        have EF : Hid (Below wr.heap.size wr wf) := below_only E6.out FF.out hGVC6 E6.out.size
        have BBF := Lib.hid (BB6.out.only VC6.out (by decide) FF.out)
        refine hK.out _ _ ?_ (fun hHeld => ?_)
        · exact keep9 EF.out hc6
        clear hK K
        try simp only [Act.put]
        refine wpAnyH_take (i := 15) (oi := ⟨some 6, _, _, _, _, _⟩) (v := .int .i64 ((r : Nat) : Int)) rfl (by kernel_rfl) (by kernel_rfl) (by kernel_rfl) (fun _ _ _ h => h) (Or.inl ⟨by rfl, ?_⟩) (by assumption) ?_
        · (intro w hSw; (try dsimp only at hSw); go_simp)
        try simp only [Act.put, List.setIfInBounds_toArray, List.set_cons_zero, List.set_cons_succ]
        refine wpAnyH_done (by kernel_rfl) ?_ _
        refine NoPanic.normal ?_
        go_wp2_with fail
        go_meet
        case rel => exact ⟨z2.heap.size, A6, c6, rfl, rfl, hGVC6, BF.out, BBF.out, HCAP.out, EF.out⟩
    · go_simp
      have F1 : Hid (Below wr.heap.size wr ((wr.alloc (.cells #[.int .u8 0, .int .u8 0, .int .u8 0, .int .u8 0, .int .u8 0, .int .u8 0, .int .u8 0, .int .u8 0, .int .u8 0, .int .u8 0, .int .u8 0, .int .u8 0, .int .u8 0, .int .u8 0, .int .u8 0, .int .u8 0, .int .u8 0, .int .u8 0, .int .u8 0, .int .u8 0, .int .u8 0, .int .u8 0, .int .u8 0, .int .u8 0, .int .u8 0, .int .u8 0, .int .u8 0, .int .u8 0, .int .u8 0, .int .u8 0, .int .u8 0, .int .u8 0, .int .u8 0, .slice none 0 0, .bool false] 72)).drew)) := D0.out.alloc D0.out.size _
      have V1 : Hid (Blk ((wr.alloc (.cells #[.int .u8 0, .int .u8 0, .int .u8 0, .int .u8 0, .int .u8 0, .int .u8 0, .int .u8 0, .int .u8 0, .int .u8 0, .int .u8 0, .int .u8 0, .int .u8 0, .int .u8 0, .int .u8 0, .int .u8 0, .int .u8 0, .int .u8 0, .int .u8 0, .int .u8 0, .int .u8 0, .int .u8 0, .int .u8 0, .int .u8 0, .int .u8 0, .int .u8 0, .int .u8 0, .int .u8 0, .int .u8 0, .int .u8 0, .int .u8 0, .int .u8 0, .int .u8 0, .int .u8 0, .slice none 0 0, .bool false] 72)).drew) wr.heap.size 72 (net 0 zz zz (.slice none 0 0) false)) := Blk.new wr.drew 72 (net 0 zz zz (.slice none 0 0) false)
      have hGV1 : wr.heap.size ≤ wr.heap.size := Nat.le_refl _
      refine hK.out _ _ ?_ (fun hHeld => ?_)
      · exact keep9 F1.out hc6
      clear hK K
      try simp only [Act.put, List.setIfInBounds_toArray, List.set_cons_zero, List.set_cons_succ]
      generalize (wr.alloc (.cells #[.int .u8 0, .int .u8 0, .int .u8 0, .int .u8 0, .int .u8 0, .int .u8 0, .int .u8 0, .int .u8 0, .int .u8 0, .int .u8 0, .int .u8 0, .int .u8 0, .int .u8 0, .int .u8 0, .int .u8 0, .int .u8 0, .int .u8 0, .int .u8 0, .int .u8 0, .int .u8 0, .int .u8 0, .int .u8 0, .int .u8 0, .int .u8 0, .int .u8 0, .int .u8 0, .int .u8 0, .int .u8 0, .int .u8 0, .int .u8 0, .int .u8 0, .int .u8 0, .int .u8 0, .slice none 0 0, .bool false] 72)).drew = v1 at *
      refine wpAnyH_ready (rs := [6]) (by kernel_rfl) (by simp) ?_
      refine AllReadyH.cons (o := ⟨some 20, _, _, _, _, _⟩) rfl (fun K hK => ?_) (AllReadyH.nil)
      go_simp
      refine (CN.out _ F1.out).mono ?_
      rintro e z7 ⟨rfl, hb⟩
      have E7 : Hid (Below wr.heap.size wr z7) := F1.out.trans (hb.mono F1.out.size)
      have VC7 := Lib.hid (V1.out.far (Far.of_below hb nobody) (fun e => e))
      have hGVC7 := hGV1
      clear hb
      refine hK.out _ _ ?_ (fun hHeld => ?_)
      · exact keep9 E7.out hc6
      clear hK K
      try simp only [Act.put, List.setIfInBounds_toArray, List.set_cons_zero, List.set_cons_succ]
      refine wpAnyH_take (i := 7) (oi := ⟨some 21, _, _, _, _, _⟩) (v := .int .i64 (40 + (t : Int))) rfl (by kernel_rfl) (by kernel_rfl) (by kernel_rfl) (fun _ _ _ h => h) (Or.inl ⟨by rfl, ?_⟩) (by assumption) ?_
      · (intro w hSw; (try dsimp only at hSw); go_simp)
      try simp only [Act.put, List.setIfInBounds_toArray, List.set_cons_zero, List.set_cons_succ]
      refine wpAnyH_take (i := 8) (oi := ⟨some 22, _, _, _, _, _⟩) (v := .slice Z t (c - 40)) rfl (by kernel_rfl) (by kernel_rfl) (by kernel_rfl) (fun _ _ _ h => h) (Or.inl ⟨by rfl, ?_⟩) (by assumption) ?_
      · (intro w hSw; (try dsimp only at hSw); go_simp)
      try simp only [Act.put, List.setIfInBounds_toArray, List.set_cons_zero, List.set_cons_succ]
      refine wpAnyH_ready (rs := [9]) (by kernel_rfl) (by simp) ?_
      refine AllReadyH.cons (o := ⟨some 23, _, _, _, _, _⟩) rfl (fun K hK => ?_) (AllReadyH.nil)
      go_simp
      refine (CC.out _ E7.out).mono ?_
      rintro e z8 ⟨A8, c8, rfl, hb, hbk, hcap⟩
      have E8 : Hid (Below wr.heap.size wr z8) := E7.out.trans (hb.mono E7.out.size)
      have VC8 := Lib.hid (VC7.out.far (Far.of_below hb nobody) (fun e => e))
      have hGVC8 := hGVC7
      have BB8 := Lib.hid hbk
      have HCAP := Lib.hid hcap
      clear hbk hcap
      clear hb
      refine hK.out _ _ ?_ (fun hHeld => ?_)
      · exact keep9 E8.out hc6
      clear hK K
      try simp only [Act.put, List.setIfInBounds_toArray, List.set_cons_zero, List.set_cons_succ]
      refine wpAnyH_take (i := 10) (oi := ⟨some 13, _, _, _, _, _⟩) (v := .tuple #[.agg (net q zz zz (.slice A8 ks.length c8) f).toArray, .int .i64 ((r : Nat) : Int)]) rfl (by kernel_rfl) (by kernel_rfl) (by kernel_rfl) (fun _ _ _ h => h) (Or.inl ⟨by rfl, ?_⟩) (by assumption) ?_
      · (intro w hSw; (try dsimp only at hSw); go_simp)
      try simp only [Act.put, List.setIfInBounds_toArray, List.set_cons_zero, List.set_cons_succ]
      refine wpAnyH_take (i := 11) (oi := ⟨some 24, _, _, _, _, _⟩) (v := .agg (net q zz zz (.slice A8 ks.length c8) f).toArray) rfl (by kernel_rfl) (by kernel_rfl) (by kernel_rfl) (fun _ _ _ h => h) (Or.inl ⟨by rfl, ?_⟩) (by assumption) ?_
      · (intro w hSw; (try dsimp only at hSw); go_simp)
      try simp only [Act.put, List.setIfInBounds_toArray, List.set_cons_zero, List.set_cons_succ]
      refine wpAnyH_take (i := 12) (oi := ⟨some 25, _, _, _, _, _⟩) (v := .int .i64 ((r : Nat) : Int)) rfl (by kernel_rfl) (by kernel_rfl) (by kernel_rfl) (fun _ _ _ h => h) (Or.inl ⟨by rfl, ?_⟩) (by assumption) ?_
      · (intro w hSw; (try dsimp only at hSw); go_simp)
      try simp only [Act.put, List.setIfInBounds_toArray, List.set_cons_zero, List.set_cons_succ]
      refine wpAnyH_ready (rs := [14]) (by kernel_rfl) (by simp) ?_
      refine AllReadyH.cons (o := ⟨none, _, _, _, _, _⟩) rfl (fun K hK => ?_) (AllReadyH.nil)
      refine step_put (by rfl) 72 size26 (.tmp 5) (.tmp 24) (by rfl) wr.heap.size (net q zz zz (.slice A8 ks.length c8) f) (by rfl) (by rfl) 72 (net 0 zz zz (.slice none 0 0) false) VC8.out (net_length zz_sixteen zz_sixteen) (net_length zz_sixteen zz_sixteen) (net_one rfl) ?_
      intro wf BF FF
      have EF : Hid (Below wr.heap.size wr wf) := below_only E8.out FF.out hGVC8 E8.out.size
      have BBF := Lib.hid (BB8.out.only VC8.out (by decide) FF.out)
      refine hK.out _ _ ?_ (fun hHeld => ?_)
      · exact keep9 EF.out hc6
      clear hK K
      try simp only [Act.put]
      refine wpAnyH_take (i := 15) (oi := ⟨some 6, _, _, _, _, _⟩) (v := .int .i64 ((r : Nat) : Int)) rfl (by kernel_rfl) (by kernel_rfl) (by kernel_rfl) (fun _ _ _ h => h) (Or.inl ⟨by rfl, ?_⟩) (by assumption) ?_
      · (intro w hSw; (try dsimp only at hSw); go_simp)
      try simp only [Act.put, List.setIfInBounds_toArray, List.set_cons_zero, List.set_cons_succ]
      refine wpAnyH_done (by kernel_rfl) ?_ _
      refine NoPanic.normal ?_
      go_wp2_with fail
      go_meet
      case rel => exact ⟨wr.heap.size, A8, c8, rfl, rfl, hGVC8, BF.out, BBF.out, HCAP.out, EF.out⟩
  case rest =>
    obtain ⟨G, A', c', rfl, rfl, hG, hbk, hbb, hcap, hbl⟩ := hcut
    have HCAP := Lib.hid hcap
    clear hcap
    have BK := Lib.hid hbk
    have BB := Lib.hid hbb
    have BL := Lib.hid hbl
    have hlx := L2.out.lt
    clear hbk hbb hbl hc6 CN CC hn6 hmid hc4 hw40
    by_cases hr0 : r = 0
    · subst hr0
      go_upto_region 7 with (fail)
      refine wp_region_noPanic ?_
      refine wp_region_held_drew (S := fun _ => True) (by kernel_rfl) trivial (fun hHeld => ?_)
      refine wpAnyH_take (i := 0) (oi := ⟨some 30, _, _, _, _, _⟩) (v := .pointer (some ⟨G, 1, none⟩)) rfl (by kernel_rfl) (by kernel_rfl) (by kernel_rfl) (fun _ _ _ h => h) (Or.inl ⟨by rfl, ?_⟩) (by assumption) ?_
      · (intro w hSw; (try dsimp only at hSw); go_simp)
      try simp only [Act.put, List.setIfInBounds_toArray, List.set_cons_zero, List.set_cons_succ]
      refine wpAnyH_take (i := 1) (oi := ⟨some 31, _, _, _, _, _⟩) (v := .slice (some ⟨G, 1, none⟩) 16 16) rfl (by kernel_rfl) (by kernel_rfl) (by kernel_rfl) (fun _ _ _ h => h) (Or.inl ⟨by rfl, ?_⟩) (by assumption) ?_
      · (intro w hSw; (try dsimp only at hSw); go_simp)
      try simp only [Act.put, List.setIfInBounds_toArray, List.set_cons_zero, List.set_cons_succ]
      refine wpAnyH_take (i := 2) (oi := ⟨some 32, _, _, _, _, _⟩) (v := ?_) rfl (by kernel_rfl) (by kernel_rfl) (by kernel_rfl) (fun _ _ _ h => h) (Or.inl ⟨by rfl, ?_⟩) (by assumption) ?_
      rotate_left
      · (intro w hSw; (try dsimp only at hSw); go_simp)
        first | done | (with_reducible rfl)
      try simp only [Act.put, List.setIfInBounds_toArray, List.set_cons_zero, List.set_cons_succ]
      refine wpAnyH_take (i := 3) (oi := ⟨some 33, _, _, _, _, _⟩) (v := .slice Y1 16 (c - 8)) rfl (by kernel_rfl) (by kernel_rfl) (by kernel_rfl) (fun _ _ _ h => h) (Or.inl ⟨by rfl, ?_⟩) (by assumption) ?_
      · (intro w hSw; (try dsimp only at hSw); go_simp)
      try simp only [Act.put, List.setIfInBounds_toArray, List.set_cons_zero, List.set_cons_succ]
      refine wpAnyH_ready (rs := [4]) (by kernel_rfl) (by simp) ?_
      refine AllReadyH.cons (o := ⟨some 34, _, _, _, _, _⟩) rfl (fun K hK => ?_) (AllReadyH.nil)
      refine step_copy (by rfl) (.tmp 31) (.tmp 33) (by rfl) G 1 (by rfl) Y1 (c - 8) (by rfl) 72 _ ((bs.take 24).drop 8) BK.out (HY1.out _ (H2.out.below BL.out.drew)) (by rw [net_length zz_sixteen zz_sixteen]; omega) ?_
      rw [net_copy1]
      intro w4 B4 F4
      have E4 : Hid (Below x2.heap.size x2 w4) := below_only BL.out.drew F4.out hG BL.out.drew.size
      have BB4 := Lib.hid (Bod.only (w := wc.drew) BB.out BK.out (by decide) F4.out)
      refine hK.out _ _ trivial (fun hHeld => ?_)
      clear hK K BK BB
      try simp only [Act.put, List.setIfInBounds_toArray, List.set_cons_zero, List.set_cons_succ]
      refine wpAnyH_done (by kernel_rfl) ?_ _
      refine NoPanic.normal ?_
      go_upto_region 8 with (fail)
      refine wp_region_noPanic ?_
      refine wp_region_held_drew (S := fun _ => True) (by kernel_rfl) trivial (fun hHeld => ?_)
      refine wpAnyH_take (i := 0) (oi := ⟨some 35, _, _, _, _, _⟩) (v := .pointer (some ⟨G, 17, none⟩)) rfl (by kernel_rfl) (by kernel_rfl) (by kernel_rfl) (fun _ _ _ h => h) (Or.inl ⟨by rfl, ?_⟩) (by assumption) ?_
      · (intro w hSw; (try dsimp only at hSw); go_simp)
      try simp only [Act.put, List.setIfInBounds_toArray, List.set_cons_zero, List.set_cons_succ]
      refine wpAnyH_take (i := 1) (oi := ⟨some 36, _, _, _, _, _⟩) (v := .slice (some ⟨G, 17, none⟩) 16 16) rfl (by kernel_rfl) (by kernel_rfl) (by kernel_rfl) (fun _ _ _ h => h) (Or.inl ⟨by rfl, ?_⟩) (by assumption) ?_
      · (intro w hSw; (try dsimp only at hSw); go_simp)
      try simp only [Act.put, List.setIfInBounds_toArray, List.set_cons_zero, List.set_cons_succ]
      refine wpAnyH_take (i := 2) (oi := ⟨some 37, _, _, _, _, _⟩) (v := ?_) rfl (by kernel_rfl) (by kernel_rfl) (by kernel_rfl) (fun _ _ _ h => h) (Or.inl ⟨by rfl, ?_⟩) (by assumption) ?_
      rotate_left
      · (intro w hSw; (try dsimp only at hSw); go_simp)
        first | done | (with_reducible rfl)
      try simp only [Act.put, List.setIfInBounds_toArray, List.set_cons_zero, List.set_cons_succ]
      refine wpAnyH_take (i := 3) (oi := ⟨some 38, _, _, _, _, _⟩) (v := .slice Y2 16 (c - 24)) rfl (by kernel_rfl) (by kernel_rfl) (by kernel_rfl) (fun _ _ _ h => h) (Or.inl ⟨by rfl, ?_⟩) (by assumption) ?_
      · (intro w hSw; (try dsimp only at hSw); go_simp)
      try simp only [Act.put, List.setIfInBounds_toArray, List.set_cons_zero, List.set_cons_succ]
      refine wpAnyH_ready (rs := [4]) (by kernel_rfl) (by simp) ?_
      refine AllReadyH.cons (o := ⟨some 39, _, _, _, _, _⟩) rfl (fun K hK => ?_) (AllReadyH.nil)
      refine step_copy (by rfl) (.tmp 36) (.tmp 38) (by rfl) G 17 (by rfl) Y2 (c - 24) (by rfl) 72 _ ((bs.take 40).drop 24) B4.out (HY2.out _ (H2.out.below E4.out.drew)) (by rw [net_length (adr_sixteen (by omega) (by omega)) zz_sixteen]; omega) ?_
      rw [net_copy2 (adr_sixteen (by omega) (by omega))]
      intro w5 B5 F5
      have E5 : Hid (Below x2.heap.size x2 w5) := below_only E4.out.drew F5.out hG E4.out.drew.size
      have BB5 := Lib.hid (Bod.only (w := w4.drew) BB4.out B4.out (by decide) F5.out)
      refine hK.out _ _ trivial (fun hHeld => ?_)
      clear hK K B4 BB4
      try simp only [Act.put, List.setIfInBounds_toArray, List.set_cons_zero, List.set_cons_succ]
      refine wpAnyH_done (by kernel_rfl) ?_ _
      refine NoPanic.normal ?_
      have L3 := Lib.hid (L2.out.far (Far.of_below E5.out nobody) (fun e => e))
      have WW : Hid (Below w.heap.size w w5) := W2.out.trans (E5.out.mono W2.out.size)
      have LV : Hid ((net q (adr bs 8 16) (adr bs 24 16) (.slice A' ks.length c') f).length = 35) := net_length (adr_sixteen (by omega) (by omega)) (adr_sixteen (by omega) (by omega))
      go_wp2_with (first | (refine wpList_load_row rfl 72 (.tmp 5) rfl G rfl 72 _ _ _ B5.out Try.underlying72 rfl (by rw [List.size_toArray, LV.out]; exact size26) ?_) | (refine wpList_put rfl 72 size26 (.tmp 2) (.tmp 40) rfl w.heap.size (net q (adr bs 8 16) (adr bs 24 16) (.slice A' ks.length c') f) rfl rfl 72 (net 0 zz zz (.slice none 0 0) false) L3.out (net_length zz_sixteen zz_sixteen) LV.out (net_one rfl) ?_; intro wf BF FF))
      refine bodyPost_ret (v := .tuple #[.agg (net q (adr bs 8 16) (adr bs 24 16) (.slice A' ks.length c') f).toArray, .int .i64 0]) (by simp [results, Try.results41, asAddr, load26 BF.out LV.out]) rfl ⟨A', c', rfl, below_only WW.out FF.out (Nat.le_refl _) WW.out.size, BB5.out.only L3.out (by decide) FF.out, HCAP.out⟩
    · obtain ⟨rfl, rfl, rfl⟩ := HGN.out hr0
      have hne : ((r : Int) != 0) = true := by simp; omega
      have L3 := Lib.hid (L2.out.far (Far.of_below BL.out nobody) (fun e => e))
      have WW : Hid (Below w.heap.size w wc) := W2.out.trans (BL.out.mono W2.out.size)
      have HSR : Hid (sr bs r = zz) := if_neg hr0
      have HDS : Hid (ds bs r = zz) := if_neg hr0
      go_wp2_with (first | (refine wpList_put rfl 72 size26 (.tmp 2) (.tmp 28) rfl w.heap.size (net 0 zz zz (.slice none 0 0) false) rfl rfl 72 (net 0 zz zz (.slice none 0 0) false) L3.out (net_length zz_sixteen zz_sixteen) (net_length zz_sixteen zz_sixteen) (net_one rfl) ?_; intro wf BF FF))
      refine bodyPost_ret (v := .tuple #[.agg (net 0 zz zz (.slice none 0 0) false).toArray, .int .i64 ((r : Nat) : Int)]) (by simp [results, Try.results41, asAddr, load26 BF.out (net_length zz_sixteen zz_sixteen)]) rfl ⟨none, 0, ?_, below_only WW.out FF.out (Nat.le_refl _) WW.out.size, Bod.none_, Nat.le_refl _⟩
      rw [HSR.out, HDS.out]
      rfl

theorem parse_any (A : Option Addr) (n c r : Nat) (q : Int) (bs ks : List Int) (f : Bool) (w : World) (h : Byts w A n bs) (ho : Octs bs) (hm : n ≤ 9223372036854775807) (hc : n ≤ c) (hR : tel bs = (r, q, ks, f)) :
    Calls Try.prog 41 #[.slice A n c] w (ParOut w bs r q ks f) := by
  unfold tel at hR
  by_cases hw : why bs = 0
  · rw [if_pos hw] at hR
    exact parse_go A n c r q bs ks f w h ho hm hc hw hR
  · rw [if_neg hw] at hR
    simp only [no, Prod.mk.injEq] at hR
    obtain ⟨rfl, rfl, rfl, rfl⟩ := hR
    refine (parse_no A n c _ bs w h ho hm hc rfl hw).mono ?_
    rintro e w' ⟨rfl, hb⟩
    refine ⟨none, 0, ?_, hb, Bod.none_, Nat.le_refl _⟩
    rw [show sr bs (why bs) = zz from if_neg hw, show ds bs (why bs) = zz from if_neg hw]
    rfl
end Go.Proofs.Ytebpemknmcgamaa.six
