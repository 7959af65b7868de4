/- The contract of the document's Parse, of a packet that is fine. Conditions: those of each theorem. -/
import Derived.Test.YtebpemknmcgamaaInetRefNo
namespace Go.Proofs.Ytebpemknmcgamaa.inet
open Go.RowKit

theorem keep9 {wr W : World} {q : Addr} {v : Value} (h : Below wr.heap.size wr W) (hc : wr.cell? q = some v) : W.cell? q = some v := (h.cell (World.block_lt_of_cell? wr _ hc)).trans hc
/-- What a packet tells, its body at B. -/
def toldV (bs : List Int) (B : Value) : List Value := net (bs.getD 9 0) (adr bs 12 4) (adr bs 16 4) B (first bs)
theorem told_length {bs : List Int} {B : Value} (h : 20 ≤ bs.length) : (toldV bs B).length = 35 := net_length (adr_sixteen (by omega) (by omega)) (adr_sixteen (by omega) (by omega))
/-- Where the copying of the addresses stands. -/
def AtK (w : World) (G : Nat) (bs : List Int) (B : Value) (k : Nat) (w' : World) : Prop := Blk w' G 54 (net (bs.getD 9 0) (adr bs 12 k) (adr bs 16 k) B (first bs)) ∧ Below w.heap.size w w'

theorem net_set1 {p : Int} {s d : List Int} {B : Value} {f : Bool} (hs : Sixteen s) {i : Nat} (hi : i < 16) (x : Int) : (net p s d B f).set (1 + i) (.int .u8 x) = net p (s.set i x) d B f := by
  unfold Sixteen at hs
  rw [net, net, Nat.add_comm, List.set_cons_succ, List.set_append_left _ _ (by rw [cel_length]; omega)]
  simp [cel, List.map_set]
theorem net_set2 {p : Int} {s d : List Int} {B : Value} {f : Bool} (hs : Sixteen s) (hd : Sixteen d) {i : Nat} (hi : i < 16) (x : Int) : (net p s d B f).set (17 + i) (.int .u8 x) = net p s (d.set i x) B f := by
  unfold Sixteen at hs hd
  rw [net, net, show 17 + i = (16 + i) + 1 by omega, List.set_cons_succ, List.set_append_right _ _ (by rw [cel_length]; omega), cel_length, hs, show 16 + i - 16 = i by omega, List.set_append_left _ _ (by rw [cel_length]; omega)]
  simp [cel, List.map_set]

set_option maxRecDepth 100000 in
set_option maxHeartbeats 4000000 in
theorem ref_ok (A : Option Addr) (n c : Nat) (bs : List Int) (w : World) (h : Byts w A n bs) (ho : Octs bs) (hm : n ≤ 9223372036854775807) (hc : n ≤ c) (hr : why bs = 0) :
    Calls Try.prog 20 #[.slice A n c] w fun e w' => ∃ A' c', e = .returned (.tuple #[.agg (toldV bs (.slice A' (much bs) c')).toArray, .int .i64 0]) ∧ Below w.heap.size w w' ∧ ∀ W, Byts W A n bs → Byts W A' (much bs) (body bs) := by
  have hbn := h.1
  have b0 := ho.at_ 0
  have b9 := ho.at_ 9
  obtain ⟨f1, f2, f3, f4, f5, f6, f7⟩ := why_fine hr
  have W0 : Hid (Below w.heap.size w (w.alloc (.cells #[.int .u8 0, .int .u8 0, .int .u8 0, .int .u8 0, .int .u8 0, .int .u8 0, .int .u8 0, .int .u8 0, .int .u8 0, .int .u8 0, .int .u8 0, .int .u8 0, .int .u8 0, .int .u8 0, .int .u8 0, .int .u8 0, .int .u8 0, .int .u8 0, .int .u8 0, .int .u8 0, .int .u8 0, .int .u8 0, .int .u8 0, .int .u8 0, .int .u8 0, .int .u8 0, .int .u8 0, .int .u8 0, .int .u8 0, .int .u8 0, .int .u8 0, .int .u8 0, .int .u8 0, .slice none 0 0, .bool false] 54))) := (Below.refl _ w).alloc (Nat.le_refl _) _
  have L0 : Hid (Blk (w.alloc (.cells #[.int .u8 0, .int .u8 0, .int .u8 0, .int .u8 0, .int .u8 0, .int .u8 0, .int .u8 0, .int .u8 0, .int .u8 0, .int .u8 0, .int .u8 0, .int .u8 0, .int .u8 0, .int .u8 0, .int .u8 0, .int .u8 0, .int .u8 0, .int .u8 0, .int .u8 0, .int .u8 0, .int .u8 0, .int .u8 0, .int .u8 0, .int .u8 0, .int .u8 0, .int .u8 0, .int .u8 0, .int .u8 0, .int .u8 0, .int .u8 0, .int .u8 0, .int .u8 0, .int .u8 0, .slice none 0 0, .bool false] 54)) w.heap.size 54 (net 0 zz zz (.slice none 0 0) false)) := Blk.new w 54 (net 0 zz zz (.slice none 0 0) false)
  have H : Hid (Byts (w.alloc (.cells #[.int .u8 0, .int .u8 0, .int .u8 0, .int .u8 0, .int .u8 0, .int .u8 0, .int .u8 0, .int .u8 0, .int .u8 0, .int .u8 0, .int .u8 0, .int .u8 0, .int .u8 0, .int .u8 0, .int .u8 0, .int .u8 0, .int .u8 0, .int .u8 0, .int .u8 0, .int .u8 0, .int .u8 0, .int .u8 0, .int .u8 0, .int .u8 0, .int .u8 0, .int .u8 0, .int .u8 0, .int .u8 0, .int .u8 0, .int .u8 0, .int .u8 0, .int .u8 0, .int .u8 0, .slice none 0 0, .bool false] 54)) A n bs) := h.below W0.out
  have HO := Lib.hid ho
  have HH := Lib.hid h
  clear h ho hr
  obtain ⟨k, hk, hk15⟩ : ∃ k, hd bs = 4 * k ∧ k = (bs.getD 0 0).toNat % 16 := ⟨(bs.getD 0 0).toNat % 16, by unfold hd; omega, rfl⟩
  have hmod : bs.getD 0 0 % 16 = (k : Int) := by omega
  have hv4 : bs.getD 0 0 / 16 = 4 := by omega
  obtain ⟨ad, rfl, hcell⟩ := H.out.2 (by omega)
  have hc0 : (w.alloc (.cells #[.int .u8 0, .int .u8 0, .int .u8 0, .int .u8 0, .int .u8 0, .int .u8 0, .int .u8 0, .int .u8 0, .int .u8 0, .int .u8 0, .int .u8 0, .int .u8 0, .int .u8 0, .int .u8 0, .int .u8 0, .int .u8 0, .int .u8 0, .int .u8 0, .int .u8 0, .int .u8 0, .int .u8 0, .int .u8 0, .int .u8 0, .int .u8 0, .int .u8 0, .int .u8 0, .int .u8 0, .int .u8 0, .int .u8 0, .int .u8 0, .int .u8 0, .int .u8 0, .int .u8 0, .slice none 0 0, .bool false] 54)).cell? ad = some (.int .u8 (bs.getD 0 0)) := by simpa [Addr.add] using hcell 0 (by omega)
  have HB : Hid (body bs = (bs.take (wd bs 2)).drop (4 * k)) := by unfold body; rw [hk]; exact (rfl : _ = _)
  have HM : Hid (much bs = wd bs 2 - 4 * k) := by unfold much; rw [hk]; exact (rfl : _ = _)
  rw [hk] at f2 f3 f4 f6
  rw [show 4 * k / 2 = 2 * k by omega, ← sm_take (bs := bs) (x := 4 * k) (k := 2 * k) (by omega)] at f6
  have HT := Lib.hid (two_b (some ad) n c bs 2 2 _ rfl H.out HO.out (by omega) hm)
  have hwb := wd_bd HO.out 2
  have hcut := fun W => run_upto (A := some ad) (n := n) (c := c) (k := 4 * k) W (by omega)
  have hcut4 : ∀ W, (Instr.slice 22 (.slice (some ad) n c) none (some (.int .i64 (4 * (k : Int)))) none).run Try.prog W = .ok (.slice (some ad) (4 * k) c) W := hcut
  have hne : ((sm (bs.take (4 * k)) (2 * k) : Int) != 65535) = false := by simp; omega
  obtain ⟨Z, hmid, hz⟩ := mid_z (A := some ad) (n := n) (c := c) (p := 4 * k) (q := wd bs 2) (bs := bs) f4 (by omega) hc
  have HZ := Lib.hid hz
  clear hk15 hcell hk f7 hz hcut
  generalize wd bs 2 = t at *
  generalize bs.getD 0 0 = u at *
  go_enter Try.func20, Try.ntmps20
  go_upto_region 1 with (fail)
  generalize w.alloc (.cells #[.int .u8 0, .int .u8 0, .int .u8 0, .int .u8 0, .int .u8 0, .int .u8 0, .int .u8 0, .int .u8 0, .int .u8 0, .int .u8 0, .int .u8 0, .int .u8 0, .int .u8 0, .int .u8 0, .int .u8 0, .int .u8 0, .int .u8 0, .int .u8 0, .int .u8 0, .int .u8 0, .int .u8 0, .int .u8 0, .int .u8 0, .int .u8 0, .int .u8 0, .int .u8 0, .int .u8 0, .int .u8 0, .int .u8 0, .int .u8 0, .int .u8 0, .int .u8 0, .int .u8 0, .slice none 0 0, .bool false] 54) = w0 at *
  go_upto_region 13 with (first | (go_at_call 36; (with_reducible refine HT.out.mono ?_); rintro e x1 ⟨rfl, hb⟩; have W1 : Hid (Below w.heap.size w x1) := W0.out.trans (hb.mono W0.out.size); have L1 := Lib.hid (L0.out.far (Far.of_below hb nobody) (fun e => e)); have H1 := Lib.hid (H.out.below hb); clear hb) | (go_at_call 37; (with_reducible refine (refSum_b (some ad) (4 * k) c (2 * k) (bs.take (4 * k)) _ (H1.out.upto (by omega)) (HO.out.take _) (by omega) (by omega)).mono ?_); rintro e x2 ⟨rfl, hb⟩; have W2 : Hid (Below w.heap.size w x2) := W1.out.trans (hb.mono W1.out.size); have L2 := Lib.hid (L1.out.far (Far.of_below hb nobody) (fun e => e)); have H2 := Lib.hid (H1.out.below hb); clear hb))
  clear HT hc0 hcut4 hne hmod hv4 b0
  have CT : Hid (∀ W, Below x2.heap.size x2 W → Calls Try.prog 36 #[.slice (some ad) n c, .int .i64 6] W fun e w' => e = .returned (.int .i64 ((wd bs 6 : Nat) : Int)) ∧ Below W.heap.size W w') := fun W hW => two_b (some ad) n c bs 6 6 W rfl (H2.out.below hW) HO.out (by omega) hm
  have hqb := wd_bd HO.out 6
  have hrem : ((wd bs 6 : Nat) : Int).tmod 8192 = ((wd bs 6 : Nat) : Int) % 8192 := Int.tmod_eq_emod_of_nonneg (by omega)
  have hfe : (((wd bs 6 : Nat) : Int) % 8192 == 0) = first bs := by unfold first; rw [Bool.eq_iff_iff]; simp; omega
  have hw4 : IntKind.i64.wrap (4 * (k : Int)) = 4 * (k : Int) := by rw [IntKind.wrap_i64]; omega
  have hn9 : (9 : Int) < (n : Int) := by omega
  have hmid4 : ∀ W, (Instr.slice 22 (.slice (some ad) n c) (some (.int .i64 (4 * (k : Int)))) (some (.int .i64 (t : Nat))) none).run Try.prog W = .ok (.slice Z (t - 4 * k) (c - 4 * k)) W := hmid
  clear hmid
  have hc9 : x2.cell? ⟨ad.block, ad.off + 9, none⟩ = some (.int .u8 (bs.getD 9 0)) := by
    obtain ⟨ad', e, hcell⟩ := H2.out.2 (by omega)
    cases e
    simpa [Addr.add] using hcell 9 (by omega)
  have HQ : Hid (wd bs 6 = wd bs 6) := (rfl : _ = _)
  obtain ⟨p0, hp0⟩ : ∃ p0, bs.getD 9 0 = p0 := ⟨_, rfl⟩
  obtain ⟨f, hf⟩ : ∃ f, first bs = f := ⟨_, rfl⟩
  rw [hp0] at hc9
  rw [hf] at hfe
  have HP0 := Lib.hid hp0
  have HF := Lib.hid hf
  clear hp0 hf HQ
  generalize wd bs 6 = q at *
  go_cut [6] from 53 to 65 (fun s wx => ∃ G, s = .pointer (some ⟨G, 0, none⟩) ∧ x2.heap.size ≤ G ∧ Blk wx G 54 (net p0 zz zz (.slice Z (t - 4 * k) (c - 4 * k)) f) ∧ Below x2.heap.size x2 wx)
  case first =>
    generalize x2 = wr at *
    have D0 : Hid (Below wr.heap.size wr wr.drew) := (Below.refl _ _).drew
    refine wp_region_noPanic ?_
    refine wp_region_held_drew (S := fun W => W.cell? ⟨ad.block, ad.off + 9, none⟩ = some (.int .u8 p0)) (by kernel_rfl) ?_ (fun hHeld => ?_)
    · exact keep9 D0.out hc9
    refine wpAnyH_take (i := 0) (oi := ⟨some 53, _, _, _, _, _⟩) (v := ?_) rfl (by kernel_rfl) (by kernel_rfl) (by kernel_rfl) (fun _ _ _ h => h) (Or.inl ⟨by rfl, ?_⟩) (by assumption) ?_
    rotate_left
    · (intro w hSw; (try dsimp only at hSw); go_simp)
      first | done | (with_reducible rfl)
    try simp only [Act.put, List.setIfInBounds_toArray, List.set_cons_zero, List.set_cons_succ]
    refine wpAnyH_take (i := 1) (oi := ⟨some 54, _, _, _, _, _⟩) (v := ?_) rfl (by kernel_rfl) (by kernel_rfl) (by kernel_rfl) (fun _ _ _ h => h) (Or.inl ⟨by rfl, ?_⟩) (by assumption) ?_
    rotate_left
    · (intro w hSw; (try dsimp only at hSw); go_simp)
      first | done | (with_reducible rfl)
    try simp only [Act.put, List.setIfInBounds_toArray, List.set_cons_zero, List.set_cons_succ]
    refine wpAnyH_take (i := 2) (oi := ⟨some 55, _, _, _, _, _⟩) (v := ?_) rfl (by kernel_rfl) (by kernel_rfl) (by kernel_rfl) (fun _ _ _ h => h) (Or.inl ⟨by rfl, ?_⟩) (by assumption) ?_
    rotate_left
    · (intro w hSw; (try dsimp only at hSw); go_simp)
      first | done | (with_reducible rfl)
    try simp only [Act.put, List.setIfInBounds_toArray, List.set_cons_zero, List.set_cons_succ]
    refine wpAnyH_take (i := 3) (oi := ⟨some 56, _, _, _, _, _⟩) (v := ?_) rfl (by kernel_rfl) (by kernel_rfl) (by kernel_rfl) (fun _ _ _ h => h) (Or.inl ⟨by rfl, ?_⟩) (by assumption) ?_
    rotate_left
    · (intro w hSw; (try dsimp only at hSw); go_simp)
      first | done | (with_reducible rfl)
    try simp only [Act.put, List.setIfInBounds_toArray, List.set_cons_zero, List.set_cons_succ]
    refine wpAnyH_take (i := 4) (oi := ⟨some 57, _, _, _, _, _⟩) (v := ?_) rfl (by kernel_rfl) (by kernel_rfl) (by kernel_rfl) (fun _ _ _ h => h) (Or.inl ⟨by rfl, ?_⟩) (by assumption) ?_
    rotate_left
    · (intro w hSw; (try dsimp only at hSw); go_simp)
      first | done | (with_reducible rfl)
    try simp only [Act.put, List.setIfInBounds_toArray, List.set_cons_zero, List.set_cons_succ]
    refine wpAnyH_take (i := 5) (oi := ⟨some 58, _, _, _, _, _⟩) (v := .int .i64 (4 * (k : Int))) rfl (by kernel_rfl) (by kernel_rfl) (by kernel_rfl) (fun _ _ _ h => h) (Or.inl ⟨by rfl, ?_⟩) (by assumption) ?_
    · (intro w hSw; (try dsimp only at hSw); go_simp)
    try simp only [Act.put, List.setIfInBounds_toArray, List.set_cons_zero, List.set_cons_succ]
    refine wpAnyH_take (i := 6) (oi := ⟨some 59, _, _, _, _, _⟩) (v := ?_) rfl (by kernel_rfl) (by kernel_rfl) (by kernel_rfl) (fun _ _ _ h => h) (Or.inl ⟨by rfl, ?_⟩) (by assumption) ?_
    rotate_left
    · (intro w hSw; (try dsimp only at hSw); go_simp)
      first | done | (with_reducible rfl)
    try simp only [Act.put, List.setIfInBounds_toArray, List.set_cons_zero, List.set_cons_succ]
    refine wpAnyH_take (i := 7) (oi := ⟨some 60, _, _, _, _, _⟩) (v := .slice Z (t - 4 * k) (c - 4 * k)) rfl (by kernel_rfl) (by kernel_rfl) (by kernel_rfl) (fun _ _ _ h => h) (Or.inl ⟨by rfl, ?_⟩) (by assumption) ?_
    · (intro w hSw; (try dsimp only at hSw); go_simp)
    try simp only [Act.put, List.setIfInBounds_toArray, List.set_cons_zero, List.set_cons_succ]
    refine wpAnyH_take (i := 8) (oi := ⟨some 61, _, _, _, _, _⟩) (v := ?_) rfl (by kernel_rfl) (by kernel_rfl) (by kernel_rfl) (fun _ _ _ h => h) (Or.inl ⟨by rfl, ?_⟩) (by assumption) ?_
    rotate_left
    · (intro w hSw; (try dsimp only at hSw); go_simp)
      first | done | (with_reducible rfl)
    try simp only [Act.put, List.setIfInBounds_toArray, List.set_cons_zero, List.set_cons_succ]
    refine wpAnyH_ready (rs := [9, 13]) (by kernel_rfl) (by simp) ?_
    refine AllReadyH.cons (o := ⟨some 62, _, _, _, _, _⟩) rfl (fun K hK => ?_) (AllReadyH.cons (o := ⟨some 6, _, _, _, _, _⟩) rfl (fun K hK => ?_) (AllReadyH.nil))
    · go_simp
      refine (CT.out _ D0.out).mono ?_
      rintro e z1 ⟨rfl, hb⟩
      have E1 : Hid (Below wr.heap.size wr z1) := D0.out.trans (hb.mono D0.out.size)
      clear hb
      refine hK.out _ _ ?_ (fun hHeld => ?_)
      · exact keep9 E1.out hc9
      clear hK K
      try simp only [Act.put, List.setIfInBounds_toArray, List.set_cons_zero, List.set_cons_succ]
      refine wpAnyH_take (i := 10) (oi := ⟨some 63, _, _, _, _, _⟩) (v := .int .i64 ((q : Int) % 8192)) rfl (by kernel_rfl) (by kernel_rfl) (by kernel_rfl) (fun _ _ _ h => h) (Or.inl ⟨by rfl, ?_⟩) (by assumption) ?_
      · (intro w hSw; (try dsimp only at hSw); go_simp)
      try simp only [Act.put, List.setIfInBounds_toArray, List.set_cons_zero, List.set_cons_succ]
      refine wpAnyH_take (i := 11) (oi := ⟨some 64, _, _, _, _, _⟩) (v := .bool f) rfl (by kernel_rfl) (by kernel_rfl) (by kernel_rfl) (fun _ _ _ h => h) (Or.inl ⟨by rfl, ?_⟩) (by assumption) ?_
      · (intro w hSw; (try dsimp only at hSw); go_simp)
      try simp only [Act.put, List.setIfInBounds_toArray, List.set_cons_zero, List.set_cons_succ]
      refine wpAnyH_take (i := 12) (oi := ⟨some 65, _, _, _, _, _⟩) (v := .agg #[.int .u8 p0, .int .u8 0, .int .u8 0, .int .u8 0, .int .u8 0, .int .u8 0, .int .u8 0, .int .u8 0, .int .u8 0, .int .u8 0, .int .u8 0, .int .u8 0, .int .u8 0, .int .u8 0, .int .u8 0, .int .u8 0, .int .u8 0, .int .u8 0, .int .u8 0, .int .u8 0, .int .u8 0, .int .u8 0, .int .u8 0, .int .u8 0, .int .u8 0, .int .u8 0, .int .u8 0, .int .u8 0, .int .u8 0, .int .u8 0, .int .u8 0, .int .u8 0, .int .u8 0, .slice Z (t - 4 * k) (c - 4 * k), .bool f]) rfl (by kernel_rfl) (by kernel_rfl) (by kernel_rfl) (fun _ _ _ h => h) (Or.inl ⟨by rfl, ?_⟩) (by assumption) ?_
      · (intro w hSw; (try dsimp only at hSw); go_simp)
      try simp only [Act.put, List.setIfInBounds_toArray, List.set_cons_zero, List.set_cons_succ]
      refine wpAnyH_ready (rs := [13]) (by kernel_rfl) (by simp) ?_
      refine AllReadyH.cons (o := ⟨some 6, _, _, _, _, _⟩) rfl (fun K hK => ?_) (AllReadyH.nil)
      go_simp
      have F1 : Hid (Below wr.heap.size wr (z1.alloc (.cells #[.int .u8 0, .int .u8 0, .int .u8 0, .int .u8 0, .int .u8 0, .int .u8 0, .int .u8 0, .int .u8 0, .int .u8 0, .int .u8 0, .int .u8 0, .int .u8 0, .int .u8 0, .int .u8 0, .int .u8 0, .int .u8 0, .int .u8 0, .int .u8 0, .int .u8 0, .int .u8 0, .int .u8 0, .int .u8 0, .int .u8 0, .int .u8 0, .int .u8 0, .int .u8 0, .int .u8 0, .int .u8 0, .int .u8 0, .int .u8 0, .int .u8 0, .int .u8 0, .int .u8 0, .slice none 0 0, .bool false] 54))) := E1.out.alloc E1.out.size _
      have B1 : Hid (Blk (z1.alloc (.cells #[.int .u8 0, .int .u8 0, .int .u8 0, .int .u8 0, .int .u8 0, .int .u8 0, .int .u8 0, .int .u8 0, .int .u8 0, .int .u8 0, .int .u8 0, .int .u8 0, .int .u8 0, .int .u8 0, .int .u8 0, .int .u8 0, .int .u8 0, .int .u8 0, .int .u8 0, .int .u8 0, .int .u8 0, .int .u8 0, .int .u8 0, .int .u8 0, .int .u8 0, .int .u8 0, .int .u8 0, .int .u8 0, .int .u8 0, .int .u8 0, .int .u8 0, .int .u8 0, .int .u8 0, .slice none 0 0, .bool false] 54)) z1.heap.size 54 (net 0 zz zz (.slice none 0 0) false)) := Blk.new z1 54 (net 0 zz zz (.slice none 0 0) false)
      have hG1 : wr.heap.size ≤ z1.heap.size := E1.out.size
      refine hK.out _ _ ?_ (fun hHeld => ?_)
      · exact keep9 F1.out hc9
      clear hK K
      try simp only [Act.put, List.setIfInBounds_toArray, List.set_cons_zero, List.set_cons_succ]
      generalize z1.alloc (.cells #[.int .u8 0, .int .u8 0, .int .u8 0, .int .u8 0, .int .u8 0, .int .u8 0, .int .u8 0, .int .u8 0, .int .u8 0, .int .u8 0, .int .u8 0, .int .u8 0, .int .u8 0, .int .u8 0, .int .u8 0, .int .u8 0, .int .u8 0, .int .u8 0, .int .u8 0, .int .u8 0, .int .u8 0, .int .u8 0, .int .u8 0, .int .u8 0, .int .u8 0, .int .u8 0, .int .u8 0, .int .u8 0, .int .u8 0, .int .u8 0, .int .u8 0, .int .u8 0, .int .u8 0, .slice none 0 0, .bool false] 54) = V1 at *
      refine wpAnyH_ready (rs := [14]) (by kernel_rfl) (by simp) ?_
      refine AllReadyH.cons (o := ⟨none, _, _, _, _, _⟩) rfl (fun K hK => ?_) (AllReadyH.nil)
      refine step_put (by rfl) 54 size30 (.tmp 6) (.tmp 65) (by rfl) z1.heap.size (net p0 zz zz (.slice Z (t - 4 * k) (c - 4 * k)) f) (by rfl) (by rfl) 54 (net 0 zz zz (.slice none 0 0) false) B1.out (net_length zz_sixteen zz_sixteen) (net_length zz_sixteen zz_sixteen) (net_one rfl) ?_
      intro wf BF FF
      have EF : Hid (Below wr.heap.size wr wf) := below_only F1.out FF.out hG1 F1.out.size
      refine hK.out _ _ ?_ (fun hHeld => ?_)
      · exact keep9 EF.out hc9
      clear hK K
      try simp only [Act.put]
      refine wpAnyH_done (by kernel_rfl) ?_ _
      refine NoPanic.normal ?_
      go_wp2_with fail
      go_meet
      case rel => exact ⟨z1.heap.size, rfl, hG1, BF.out, EF.out⟩
    · go_simp
      have F2 : Hid (Below wr.heap.size wr ((wr.alloc (.cells #[.int .u8 0, .int .u8 0, .int .u8 0, .int .u8 0, .int .u8 0, .int .u8 0, .int .u8 0, .int .u8 0, .int .u8 0, .int .u8 0, .int .u8 0, .int .u8 0, .int .u8 0, .int .u8 0, .int .u8 0, .int .u8 0, .int .u8 0, .int .u8 0, .int .u8 0, .int .u8 0, .int .u8 0, .int .u8 0, .int .u8 0, .int .u8 0, .int .u8 0, .int .u8 0, .int .u8 0, .int .u8 0, .int .u8 0, .int .u8 0, .int .u8 0, .int .u8 0, .int .u8 0, .slice none 0 0, .bool false] 54)).drew)) := D0.out.alloc D0.out.size _
      have B2 : Hid (Blk ((wr.alloc (.cells #[.int .u8 0, .int .u8 0, .int .u8 0, .int .u8 0, .int .u8 0, .int .u8 0, .int .u8 0, .int .u8 0, .int .u8 0, .int .u8 0, .int .u8 0, .int .u8 0, .int .u8 0, .int .u8 0, .int .u8 0, .int .u8 0, .int .u8 0, .int .u8 0, .int .u8 0, .int .u8 0, .int .u8 0, .int .u8 0, .int .u8 0, .int .u8 0, .int .u8 0, .int .u8 0, .int .u8 0, .int .u8 0, .int .u8 0, .int .u8 0, .int .u8 0, .int .u8 0, .int .u8 0, .slice none 0 0, .bool false] 54)).drew) wr.heap.size 54 (net 0 zz zz (.slice none 0 0) false)) := Blk.new wr.drew 54 (net 0 zz zz (.slice none 0 0) false)
      have hG2 : wr.heap.size ≤ wr.heap.size := Nat.le_refl _
      refine hK.out _ _ ?_ (fun hHeld => ?_)
      · exact keep9 F2.out hc9
      clear hK K
      try simp only [Act.put, List.setIfInBounds_toArray, List.set_cons_zero, List.set_cons_succ]
      generalize (wr.alloc (.cells #[.int .u8 0, .int .u8 0, .int .u8 0, .int .u8 0, .int .u8 0, .int .u8 0, .int .u8 0, .int .u8 0, .int .u8 0, .int .u8 0, .int .u8 0, .int .u8 0, .int .u8 0, .int .u8 0, .int .u8 0, .int .u8 0, .int .u8 0, .int .u8 0, .int .u8 0, .int .u8 0, .int .u8 0, .int .u8 0, .int .u8 0, .int .u8 0, .int .u8 0, .int .u8 0, .int .u8 0, .int .u8 0, .int .u8 0, .int .u8 0, .int .u8 0, .int .u8 0, .int .u8 0, .slice none 0 0, .bool false] 54)).drew = x2 at *
      refine wpAnyH_ready (rs := [9]) (by kernel_rfl) (by simp) ?_
      refine AllReadyH.cons (o := ⟨some 62, _, _, _, _, _⟩) rfl (fun K hK => ?_) (AllReadyH.nil)
      go_simp
      refine (CT.out _ F2.out).mono ?_
      rintro e z2 ⟨rfl, hb⟩
      have E2 : Hid (Below wr.heap.size wr z2) := F2.out.trans (hb.mono F2.out.size)
      have B3 := Lib.hid (B2.out.far (Far.of_below hb nobody) (fun e => e))
      clear hb
      refine hK.out _ _ ?_ (fun hHeld => ?_)
      · exact keep9 E2.out hc9
      clear hK K
      try simp only [Act.put, List.setIfInBounds_toArray, List.set_cons_zero, List.set_cons_succ]
      refine wpAnyH_take (i := 10) (oi := ⟨some 63, _, _, _, _, _⟩) (v := .int .i64 ((q : Int) % 8192)) rfl (by kernel_rfl) (by kernel_rfl) (by kernel_rfl) (fun _ _ _ h => h) (Or.inl ⟨by rfl, ?_⟩) (by assumption) ?_
      · (intro w hSw; (try dsimp only at hSw); go_simp)
      try simp only [Act.put, List.setIfInBounds_toArray, List.set_cons_zero, List.set_cons_succ]
      refine wpAnyH_take (i := 11) (oi := ⟨some 64, _, _, _, _, _⟩) (v := .bool f) rfl (by kernel_rfl) (by kernel_rfl) (by kernel_rfl) (fun _ _ _ h => h) (Or.inl ⟨by rfl, ?_⟩) (by assumption) ?_
      · (intro w hSw; (try dsimp only at hSw); go_simp)
      try simp only [Act.put, List.setIfInBounds_toArray, List.set_cons_zero, List.set_cons_succ]
      refine wpAnyH_take (i := 12) (oi := ⟨some 65, _, _, _, _, _⟩) (v := .agg #[.int .u8 p0, .int .u8 0, .int .u8 0, .int .u8 0, .int .u8 0, .int .u8 0, .int .u8 0, .int .u8 0, .int .u8 0, .int .u8 0, .int .u8 0, .int .u8 0, .int .u8 0, .int .u8 0, .int .u8 0, .int .u8 0, .int .u8 0, .int .u8 0, .int .u8 0, .int .u8 0, .int .u8 0, .int .u8 0, .int .u8 0, .int .u8 0, .int .u8 0, .int .u8 0, .int .u8 0, .int .u8 0, .int .u8 0, .int .u8 0, .int .u8 0, .int .u8 0, .int .u8 0, .slice Z (t - 4 * k) (c - 4 * k), .bool f]) rfl (by kernel_rfl) (by kernel_rfl) (by kernel_rfl) (fun _ _ _ h => h) (Or.inl ⟨by rfl, ?_⟩) (by assumption) ?_
      · (intro w hSw; (try dsimp only at hSw); go_simp)
      try simp only [Act.put, List.setIfInBounds_toArray, List.set_cons_zero, List.set_cons_succ]
      refine wpAnyH_ready (rs := [14]) (by kernel_rfl) (by simp) ?_
      refine AllReadyH.cons (o := ⟨none, _, _, _, _, _⟩) rfl (fun K hK => ?_) (AllReadyH.nil)
      refine step_put (by rfl) 54 size30 (.tmp 6) (.tmp 65) (by rfl) wr.heap.size (net p0 zz zz (.slice Z (t - 4 * k) (c - 4 * k)) f) (by rfl) (by rfl) 54 (net 0 zz zz (.slice none 0 0) false) B3.out (net_length zz_sixteen zz_sixteen) (net_length zz_sixteen zz_sixteen) (net_one rfl) ?_
      intro wf BF FF
      have EF : Hid (Below wr.heap.size wr wf) := below_only E2.out FF.out hG2 E2.out.size
      refine hK.out _ _ ?_ (fun hHeld => ?_)
      · exact keep9 EF.out hc9
      clear hK K
      try simp only [Act.put]
      refine wpAnyH_done (by kernel_rfl) ?_ _
      refine NoPanic.normal ?_
      go_wp2_with fail
      go_meet
      case rel => exact ⟨wr.heap.size, rfl, hG2, BF.out, EF.out⟩
  case rest =>
    obtain ⟨G, rfl, hG, hbk, hbl⟩ := hcut
    have BK : Hid (Blk wc G 54 (net p0 (adr bs 12 0) (adr bs 16 0) (.slice Z (t - 4 * k) (c - 4 * k)) f)) := hbk
    have BL := Lib.hid hbl
    have hadG : ad.block < G := Nat.lt_of_lt_of_le (World.block_lt_of_cell? x2 ⟨ad.block, ad.off + 9, none⟩ hc9) hG
    clear hbk hbl hc9 CT hrem hfe hw4 hn9 hmid4
    go_wp2_with fail
    go_loopw [7, 66] (fun _ y w' => ∃ i : Nat, y = .int .i64 (i : Nat) ∧ i ≤ 4 ∧ Blk w' G 54 (net p0 (adr bs 12 i) (adr bs 16 i) (.slice Z (t - 4 * k) (c - 4 * k)) f) ∧ Below x2.heap.size x2 w') (fun _ y _ => 4 - (intOf y).toNat)
    case atStart => exact ⟨0, rfl, by omega, BK.out, BL.out⟩
    case round =>
      obtain ⟨i, rfl, hi4, hbk, hbl⟩ := hrel
      clear BK BL
      have BK := Lib.hid hbk
      have BL := Lib.hid hbl
      clear hbk hbl
      by_cases hlt : i < 4
      · have hd4 : decide ((i : Int) < 4) = true := by simp; omega
        have S1 : Hid (Sixteen (adr bs 12 i)) := adr_sixteen (by omega) (by omega)
        have S2 : Hid (Sixteen (adr bs 16 i)) := adr_sixteen (by omega) (by omega)
        have HW := Lib.hid (H2.out.below BL.out)
        obtain ⟨ad', e, hcell⟩ := HW.out.2 (by omega)
        cases e
        have c1 : wr.cell? (ad.add (12 + i)) = some (.int .u8 (bs.getD (12 + i) 0)) := hcell (12 + i) (by omega)
        have c2 : wr.cell? (ad.add (16 + i)) = some (.int .u8 (bs.getD (16 + i) 0)) := hcell (16 + i) (by omega)
        obtain ⟨v1, d1⟩ : ∃ v, wr.cell? ⟨G, 1 + i, none⟩ = some v := ⟨_, (BK.out.cell (1 + i)).trans (List.getElem?_eq_getElem (by rw [net_length S1.out S2.out]; omega))⟩
        obtain ⟨v2, d2⟩ : ∃ v, wr.cell? ⟨G, 17 + i, none⟩ = some v := ⟨_, (BK.out.cell (17 + i)).trans (List.getElem?_eq_getElem (by rw [net_length S1.out S2.out]; omega))⟩
        have g1 := BK.out.frozen (1 + i)
        have g2 := BK.out.frozen (17 + i)
        have hin1 : 12 + i < n := by omega
        have hin2 : 16 + i < n := by omega
        have hne : ¬ (17 + i = 1 + i) := by omega
        have b1 := HO.out.at_ (12 + i)
        have b2 := HO.out.at_ (16 + i)
        have HX : Hid (adr bs 12 (i + 1) = (adr bs 12 i).set i (bs.getD (12 + i) 0)) := (adr_set (by omega) (by omega)).symm
        have HY : Hid (adr bs 16 (i + 1) = (adr bs 16 i).set i (bs.getD (16 + i) 0)) := (adr_set (by omega) (by omega)).symm
        have S3 : Hid (Sixteen (adr bs 12 (i + 1))) := adr_sixteen (by omega) (by omega)
        clear hcell HW
        generalize bs.getD (12 + i) 0 = y1 at *
        generalize bs.getD (16 + i) 0 = y2 at *
        go_upto_region 17 with (fail)
        have e1 : (wr.setCell ⟨G, 1 + i, none⟩ (.int .u8 y1)).cell? (ad.add (16 + i)) = some (.int .u8 y2) := (World.cell?_of_block (Below.heap_setCell wr ⟨G, 1 + i, none⟩ _ _ (by rw [Addr.block_add]; show ad.block ≠ G; omega))).trans c2
        have q1 : IntKind.i64.wrap (12 + (i : Int)) = 12 + (i : Int) := by rw [IntKind.wrap_i64]; omega
        have q2 : IntKind.i64.wrap (16 + (i : Int)) = 16 + (i : Int) := by rw [IntKind.wrap_i64]; omega
        have q3 : (12 + (i : Int)).toNat = 12 + i := by omega
        have q4 : (16 + (i : Int)).toNat = 16 + i := by omega
        go_region
        clear q1 q2 q3 q4 e1 c1 c2 d1 d2 g1 g2
        go_wp2_with fail
        go_roundw
        case rel =>
          refine ⟨i + 1, by go_num, by omega, ?_, ((BL.out.setCell (p := ⟨G, 1 + i, none⟩) hG _).setCell (p := ⟨G, 17 + i, none⟩) hG _).drew⟩
          have := (BK.out.set_ (1 + i) (.int .u8 y1)).set_ (17 + i) (.int .u8 y2)
          rw [net_set1 S1.out (by omega), ← HX.out, net_set2 S3.out S2.out (by omega), ← HY.out] at this
          exact this
        case measure => simp [intOf]; omega
      · obtain hi : i = 4 := by omega
        have hd4 : decide ((i : Int) < 4) = false := by simp; omega
        have BF0 : Hid (Blk wr G 54 (toldV bs (.slice Z (t - 4 * k) (c - 4 * k)))) := by
          have := BK.out
          rw [hi] at this
          unfold toldV
          rw [HP0.out, HF.out]
          exact this
        have L3 := Lib.hid (L2.out.far (Far.of_below BL.out nobody) (fun e => e))
        have WW : Hid (Below w.heap.size w wr) := W2.out.trans (BL.out.mono W2.out.size)
        go_wp2_with (first | (refine wpList_load_row rfl 54 (.tmp 6) rfl G rfl 54 _ _ _ BF0.out Try.underlying54 rfl (by rw [List.size_toArray, told_length f1]; exact size30) ?_) | (refine wpList_put rfl 54 size30 (.tmp 2) (.tmp 86) rfl w.heap.size (toldV bs (.slice Z (t - 4 * k) (c - 4 * k))) rfl rfl 54 (net 0 zz zz (.slice none 0 0) false) L3.out (net_length zz_sixteen zz_sixteen) (told_length f1) (net_one rfl) ?_; intro wf BF FF))
        refine bodyPost_ret (v := .tuple #[.agg (toldV bs (.slice Z (t - 4 * k) (c - 4 * k))).toArray, .int .i64 0]) (by simp [results, Try.results20, asAddr, load30 BF.out (told_length f1)]) rfl ⟨Z, c - 4 * k, ?_, below_only WW.out FF.out (Nat.le_refl _) WW.out.size, ?_⟩
        · rw [HM.out]
        · intro W hW
          rw [HM.out, HB.out]
          exact HZ.out _ hW
end Go.Proofs.Ytebpemknmcgamaa.inet
