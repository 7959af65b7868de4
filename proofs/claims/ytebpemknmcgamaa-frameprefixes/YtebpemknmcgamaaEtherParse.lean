/- The contract of ether's Parse: for any bytes it answers what they carry. Conditions: those of each theorem. -/
import Derived.Test.YtebpemknmcgamaaEtherRef
import Derived.Deep.CutBlock
import Derived.Deep.DeepCutAuto
namespace Go.Proofs.Ytebpemknmcgamaa.ether
open Go.RowKit

/-- Where the cursor stands ahead of round i: behind so many of the first 22 bytes, or beyond them. -/
def StAt (bs : List Int) (i p : Nat) (bad : Bool) (l : List Int) : Prop :=
  (bad = false ∧ l = (bs.take 22).drop p ∧ p ≤ (bs.take 22).length) ∨ (bad = true ∧ l = [] ∧ (bs.length < p + 2 ∨ i = 3))
theorem take_len (bs : List Int) : (bs.take 22).length = min 22 bs.length := List.length_take
/-- What Raw leaves there. -/
def RawSt (w : World) (g q : Nat) (bs : List Int) (i p : Nat) (e : Ending) (w' : World) : Prop :=
  ∃ d k bad l, e = .returned (.slice (some ⟨d, 0, none⟩) k k) ∧ InAt w' g q bad l ∧ StAt bs i p bad l ∧ Far (only g) w w'
theorem raw_st (g q : Nat) (bs : List Int) (x : Int) (p k z i : Nat) (w : World) (h : InAt w g q false ((bs.take 22).drop p)) (hp : p ≤ (bs.take 22).length) (hx : x = k) (hz : p + k = z) (hs : (bs.take 22).length < z → bs.length < z + 2 ∨ i = 3) :
    Calls Try.prog 27 #[.pointer (some ⟨g, 0, none⟩), .int .i64 x] w (RawSt w g q bs i z) := by
  have hl : ((bs.take 22).drop p).length = (bs.take 22).length - p := List.length_drop
  have ht := take_len bs
  by_cases hk : z ≤ (bs.take 22).length
  · refine (raw_ok g q false _ x k w h hx (by omega) (by omega)).mono ?_
    rintro e w' ⟨d, rfl, _, _, hi, hf⟩
    rw [List.drop_drop, hz] at hi
    exact ⟨d, k, false, _, rfl, hi, .inl ⟨rfl, rfl, hk⟩, hf⟩
  · refine (raw_bad g q false _ x w h (.inr (by omega))).mono ?_
    rintro e w' ⟨d, rfl, _, _, hi, hf⟩
    exact ⟨d, 0, true, [], rfl, hi, .inr ⟨rfl, rfl, hs (by omega)⟩, hf⟩
/-- Ahead of a type that isn't there. -/
theorem StAt.short {bs : List Int} {i p : Nat} {bad : Bool} {l : List Int} (h : StAt bs i p bad l) (hs : bs.length < p + 2) : l.length < 2 := by
  rcases h with ⟨_, rfl, hp⟩ | ⟨_, rfl, _⟩
  · have := take_len bs
    rw [List.length_drop]
    omega
  · simp
/-- Ahead of one that is. -/
theorem StAt.there {bs : List Int} {i p : Nat} {bad : Bool} {l : List Int} (h : StAt bs i p bad l) (hs : p + 2 ≤ bs.length) (hi : i < 3) : bad = false ∧ l = (bs.take 22).drop p := by
  rcases h with ⟨h1, h2, _⟩ | ⟨_, _, h | h⟩
  · exact ⟨h1, h2⟩
  · omega
  · omega
theorem left_is (g q : Nat) (bad : Bool) (l : List Int) (j : Nat) (w : World) (h : InAt w g q bad l) (hj : l.length = j) : Calls Try.prog 32 #[.pointer (some ⟨g, 0, none⟩)] w fun e w' => e = .returned (.int .i64 (j : Nat)) ∧ w = w' := by
  subst hj
  exact left_any g q bad l w h
/-- What Parse answers. -/
def Told (w : World) (b : Bool) (a r : Nat) (e : Ending) (w' : World) : Prop :=
  e = .returned (.tuple #[.agg #[.bool b, .int .i64 (a : Nat)], .int .i64 (r : Nat)]) ∧ Below w.heap.size w w'
/-- What the result's cells are till the end. -/
def NoLink (w : World) (g : Nat) : Prop := Blk w g 46 [.bool false, .int .i64 0]

set_option maxHeartbeats 4000000 in
theorem parse_near (A : Option Addr) (n c : Nat) (bs : List Int) (b : Bool) (a r : Nat) (w : World) (h : Byts w A n bs) (ho : Octs bs) (hc : n ≤ c) (hm : n ≤ 22) (hl : look bs 3 12 = (b, a, r)) :
    Calls Try.prog 16 #[.slice A n c] w (Told w b a r) := by
  have hd : decide ((n : Int) ≤ 22) = true := by simp; omega
  have hcut := fun W => run_upto (A := A) (n := n) (c := c) (k := n) W (by omega)
  have hbn := h.1
  have HH : Hid (Byts (w.alloc (.cells #[.bool false, .int .i64 0] 46)) A n (bs.take 22)) := by
    have hw := h.below ((Below.refl _ _).alloc (Nat.le_refl _) (.cells #[.bool false, .int .i64 0] 46))
    rwa [List.take_of_length_le (by omega)]
  have htl := take_len bs
  have H22 : Hid ((bs.take 22).length = n) := by show _ = _; omega
  have HO := Lib.hid ho
  have HL := Lib.hid hl
  have W0 : Hid (Below w.heap.size w (w.alloc (.cells #[.bool false, .int .i64 0] 46))) := (Below.refl _ w).alloc (Nat.le_refl _) _
  have L0 : Hid (NoLink (w.alloc (.cells #[.bool false, .int .i64 0] 46)) w.heap.size) := Blk.new w 46 [.bool false, .int .i64 0]
  clear h ho hl htl
  go_enter Try.func16, Try.ntmps16
  go_upto_region 2 with (fail)
  clear hcut hd
  go_wp2_with fail
  refine (new_in A n c (bs.take 22) _ (by omega) HH.out).mono ?_
  rintro e w1 ⟨g, q, rfl, hi, hg, _, hb1⟩
  have hgw : w.heap.size < g := by simp at hg; omega
  have HI := Lib.hid hi
  have W1 : Hid (Below w.heap.size w w1) := W0.out.trans (hb1.mono (by simp))
  have L1 : Hid (NoLink w1 w.heap.size) := (hb1.block w.heap.size (by simp)).trans L0.out
  clear hi hb1 hg
  go_wp2_with fail
  refine (raw_st g q bs 12 0 12 12 0 _ HI.out (by omega) rfl rfl (fun h => .inl (by have := take_len bs; omega))).mono ?_
  rintro e w2 ⟨d, k, bad, l, rfl, hi, hst, hf⟩
  have HI2 := Lib.hid hi
  have HS2 := Lib.hid hst
  have W2 : Hid (Below w.heap.size w w2) := below_only W1.out hf (by omega) W1.out.size
  have L2 : Hid (NoLink w2 w.heap.size) := L1.out.far hf (by unfold only; omega)
  clear hi hst hf
  go_wp2_with fail
  go_loopw [16] (fun y w' => ∃ (i p : Nat) (bad : Bool) (l : List Int), y = .int .i64 i ∧ i ≤ 3 ∧ p = 12 + 4 * i ∧ InAt w' g q bad l ∧ StAt bs i p bad l ∧ look bs (3 - i) p = (b, a, r) ∧ NoLink w' w.heap.size ∧ Below w.heap.size w w') (fun y _ => 3 - (intOf y).toNat)
  case atStart => exact ⟨0, 12, bad, l, rfl, by omega, rfl, HI2.out, HS2.out, HL.out, L2.out, W2.out⟩
  case round =>
    clear HI2 HS2 W2 L2 W1 L1 HI
    obtain ⟨i, p, bad, l, rfl, hi3, hp, hi, hst, hk, hnl, hw⟩ := hrel
    have HP := Lib.hid hp
    have HI := Lib.hid hi
    have HS := Lib.hid hst
    have HK := Lib.hid hk
    have HN := Lib.hid hnl
    have HW := Lib.hid hw
    have hws := hw.size
    clear hp hi hst hk hnl hw
    by_cases hlt : i < 3
    · have hd3 : decide ((i : Int) < 3) = true := by simp; omega
      have hp20 : p ≤ 20 := by have := HP.out; omega
      have HE : Hid (look bs (2 - i + 1) p = (b, a, r)) := by
        rw [show 2 - i + 1 = 3 - i by omega]
        exact HK.out
      by_cases hs : n < p + 2
      · have e := (look_short (by omega)).symm.trans HE.out
        obtain ⟨rfl, rfl, rfl⟩ : false = b ∧ 0 = a ∧ 1 = r := by simpa using e
        clear e HE HK
        go_wp2_with fail
        refine (inU16_bad g q bad l _ HI.out (HS.out.short (by omega))).mono ?_
        rintro e w3 ⟨rfl, hi, hf⟩
        have HI3 := Lib.hid hi
        have W3 : Hid (Below w.heap.size w w3) := below_only HW.out hf (by omega) hws
        have L3 : Blk w3 w.heap.size 46 _ := HN.out.far hf (by unfold only; omega)
        clear hi hf
        have hc0 : w3.cell? ⟨w.heap.size, 0, none⟩ = some (.bool false) := L3.cell 0
        have hc1 : w3.cell? ⟨w.heap.size, 1, none⟩ = some (.int .i64 0) := L3.cell 1
        have hf0 := L3.frozen 0
        have hf1 := L3.frozen 1
        have M3 := Lib.hid L3
        clear L3
        go_wp2_with (go_at_call 29; (with_reducible refine (bad_any g q true [] _ HI3.out).mono ?_); rintro e w' ⟨rfl, rfl⟩)
        have LX := (M3.out.set_ 0 (.bool false)).set_ 1 (.int .i64 0)
        have hz0 := LX.cell 0
        have hz1 := LX.cell 1
        refine bodyPost_ret (v := .tuple #[.agg #[.bool false, .int .i64 0], .int .i64 1]) (by simp [results, Try.results16, go_sem, hz0, hz1]) rfl ⟨rfl, ?_⟩
        exact (W3.out.setCell (Nat.le_refl _) _).setCell (Nat.le_refl _) _
      · obtain ⟨rfl, rfl⟩ := HS.out.there (by omega) hlt
        have hp22 : p + 2 ≤ (bs.take 22).length := by have := take_len bs; omega
        obtain ⟨t, ht⟩ : ∃ t, ty bs p = t := ⟨_, rfl⟩
        have HU := Lib.hid (inU16_ok g q false ((bs.take 22).drop p) [bs.getD p 0, bs.getD (p + 1) 0] wr HI.out (by rw [List.length_drop]; omega) (two_of (by omega) (by omega)) (two_octs HO.out p))
        rw [two_num, ht, List.drop_drop] at HU
        have hlt2 : ((bs.take 22).drop (p + 2)).length = n - (p + 2) := by rw [List.length_drop, H22.out]
        have HM2 : Hid (p + 2 ≤ n) := by have := H22.out; show _ ≤ _; omega
        have HLN := Lib.hid hlt2
        have HP22 := Lib.hid hp22
        have HT := Lib.hid ht
        clear HI HS HK hp22 ht hlt2
        by_cases hg : t = 33024 ∨ t = 34984
        · have e := (look_tag (by omega) (by rw [HT.out]; exact hg)).symm.trans HE.out
          have HE2 := Lib.hid e
          have HG := Lib.hid hg
          clear e HE hg
          go_wp2_with fail
          refine HU.out.mono ?_
          rintro e w3 ⟨rfl, hi, hf⟩
          have HI3 := Lib.hid hi
          have W3 : Hid (Below w.heap.size w w3) := below_only HW.out hf (by omega) hws
          have L3 : Hid (NoLink w3 w.heap.size) := HN.out.far hf (by unfold only; omega)
          clear hi hf
          go_wp2_with (first | (go_at_call 29; (with_reducible refine (bad_any g q false _ _ HI3.out).mono ?_); rintro e w' ⟨rfl, rfl⟩) | (go_at_call 30; (with_reducible refine (isTag_yes t _ HG.out).mono ?_); rintro e w' ⟨rfl, rfl⟩) | (go_at_call 27; (with_reducible refine (raw_st g q bs 2 (p + 2) 2 (p + 4) (i + 1) _ HI3.out HP22.out rfl rfl (fun h => by have := take_len bs; have := HP.out; omega)).mono ?_); rintro e w4 ⟨d, k, bad, l, rfl, hi, hst, hf⟩; have HI4 := Lib.hid hi; have HS4 := Lib.hid hst; have W4 : Hid (Below w.heap.size w w4) := below_only W3.out hf (by omega) W3.out.size; have L4 : Hid (NoLink w4 w.heap.size) := L3.out.far hf (by unfold only; omega); clear hi hst hf))
          go_roundw
          case rel =>
            refine ⟨i + 1, p + 4, bad, l, by go_num, by omega, by have := HP.out; omega, HI4.out, HS4.out, ?_, L4.out, W4.out⟩
            rw [← HE2.out]
            congr 1
            omega
          case measure => simp [intOf]; omega
        · by_cases hj : t = 2048 ∨ t = 34525
          · have e := (look_ip (by omega) (by rw [HT.out]; exact hj)).symm.trans HE.out
            rw [HT.out] at e
            simp only [Prod.mk.injEq] at e
            obtain ⟨hv, rfl, rfl⟩ := e
            have HV := Lib.hid hv
            have HG := Lib.hid hg
            have HJ := Lib.hid hj
            clear HE hg hj hv
            go_wp2_with fail
            refine HU.out.mono ?_
            rintro e w3 ⟨rfl, hi, hf⟩
            have HI3 := Lib.hid hi
            have W3 : Hid (Below w.heap.size w w3) := below_only HW.out hf (by omega) hws
            have L3 : Hid (NoLink w3 w.heap.size) := HN.out.far hf (by unfold only; omega)
            clear hi hf
            go_wp2_with (first | (go_at_call 29; (with_reducible refine (bad_any g q false _ _ HI3.out).mono ?_); rintro e w' ⟨rfl, rfl⟩) | (go_at_call 30; (with_reducible refine (isTag_no t _ HG.out).mono ?_); rintro e w' ⟨rfl, rfl⟩) | fail)
            obtain ⟨j, hj⟩ : ∃ j : Nat, j + (p + 2) = n := ⟨n - (p + 2), by have := HM2.out; omega⟩
            refine (left_is g q false _ j _ HI3.out (by rw [HLN.out]; omega)).mono ?_
            rintro e w' ⟨rfl, rfl⟩
            go_wp2_with fail
            refine (carried_yes t _ b (p + 2) _ (by omega) HV.out HJ.out).mono ?_
            rintro e w4 ⟨rfl, hb⟩
            have W4 : Hid (Below w.heap.size w w4) := W3.out.trans (hb.mono W3.out.size)
            have L4 : Blk w4 w.heap.size 46 _ := (hb.block w.heap.size (L3.out.lt)).trans L3.out
            clear hb
            have hc0 : w4.cell? ⟨w.heap.size, 0, none⟩ = some (.bool false) := L4.cell 0
            have hc1 : w4.cell? ⟨w.heap.size, 1, none⟩ = some (.int .i64 0) := L4.cell 1
            have hf0 := L4.frozen 0
            have hf1 := L4.frozen 1
            have M4 := Lib.hid L4
            clear L4
            go_wp2_with fail
            have LX := (M4.out.set_ 0 (.bool b)).set_ 1 (.int .i64 ((p : Int) + 2))
            have hz0 := LX.cell 0
            have hz1 := LX.cell 1
            refine bodyPost_ret (v := .tuple #[.agg #[(.bool b), (.int .i64 ((p : Int) + 2))], .int .i64 0]) (by simp [results, Try.results16, go_sem, hz0, hz1]) rfl ⟨rfl, ?_⟩
            exact (W4.out.setCell (Nat.le_refl _) _).setCell (Nat.le_refl _) _
          · have e := (look_no (by omega) (by rw [HT.out]; exact hg) (by rw [HT.out]; exact hj)).symm.trans HE.out
            obtain ⟨rfl, rfl, rfl⟩ : false = b ∧ 0 = a ∧ 2 = r := by simpa using e
            have HG := Lib.hid hg
            have HJ := Lib.hid hj
            clear HE hg hj e
            go_wp2_with fail
            refine HU.out.mono ?_
            rintro e w3 ⟨rfl, hi, hf⟩
            have HI3 := Lib.hid hi
            have W3 : Hid (Below w.heap.size w w3) := below_only HW.out hf (by omega) hws
            have L3 : Hid (NoLink w3 w.heap.size) := HN.out.far hf (by unfold only; omega)
            clear hi hf
            go_wp2_with (first | (go_at_call 29; (with_reducible refine (bad_any g q false _ _ HI3.out).mono ?_); rintro e w' ⟨rfl, rfl⟩) | (go_at_call 30; (with_reducible refine (isTag_no t _ HG.out).mono ?_); rintro e w' ⟨rfl, rfl⟩) | fail)
            obtain ⟨j, hj⟩ : ∃ j : Nat, j + (p + 2) = n := ⟨n - (p + 2), by have := HM2.out; omega⟩
            refine (left_is g q false _ j _ HI3.out (by rw [HLN.out]; omega)).mono ?_
            rintro e w' ⟨rfl, rfl⟩
            go_wp2_with fail
            refine (carried_no t _ _ HJ.out).mono ?_
            rintro e w4 ⟨rfl, hb⟩
            have W4 : Hid (Below w.heap.size w w4) := W3.out.trans (hb.mono W3.out.size)
            have L4 : Blk w4 w.heap.size 46 _ := (hb.block w.heap.size (L3.out.lt)).trans L3.out
            clear hb
            have hc0 : w4.cell? ⟨w.heap.size, 0, none⟩ = some (.bool false) := L4.cell 0
            have hc1 : w4.cell? ⟨w.heap.size, 1, none⟩ = some (.int .i64 0) := L4.cell 1
            have hf0 := L4.frozen 0
            have hf1 := L4.frozen 1
            have M4 := Lib.hid L4
            clear L4
            go_wp2_with fail
            have LX := (M4.out.set_ 0 (.bool false)).set_ 1 (.int .i64 0)
            have hz0 := LX.cell 0
            have hz1 := LX.cell 1
            refine bodyPost_ret (v := .tuple #[.agg #[(.bool false), (.int .i64 0)], .int .i64 2]) (by simp [results, Try.results16, go_sem, hz0, hz1]) rfl ⟨rfl, ?_⟩
            exact (W4.out.setCell (Nat.le_refl _) _).setCell (Nat.le_refl _) _
    · have hd3 : decide ((i : Int) < 3) = false := by simp; omega
      have e : look bs 0 p = (b, a, r) := by rw [← HK.out, show 3 - i = 0 by omega]
      obtain ⟨rfl, rfl, rfl⟩ : false = b ∧ 0 = a ∧ 6 = r := by simpa [look] using e
      have L4 : Blk wr w.heap.size 46 _ := HN.out
      have hc0 : wr.cell? ⟨w.heap.size, 0, none⟩ = some (.bool false) := L4.cell 0
      have hc1 : wr.cell? ⟨w.heap.size, 1, none⟩ = some (.int .i64 0) := L4.cell 1
      have hf0 := L4.frozen 0
      have hf1 := L4.frozen 1
      clear e L4
      go_wp2_with fail
      have LX := (HN.out.set_ 0 (.bool false)).set_ 1 (.int .i64 0)
      have hz0 := LX.cell 0
      have hz1 := LX.cell 1
      refine bodyPost_ret (v := .tuple #[.agg #[.bool false, .int .i64 0], .int .i64 6]) (by simp [results, Try.results16, go_sem, hz0, hz1]) rfl ⟨rfl, ?_⟩
      exact (HW.out.setCell (Nat.le_refl _) _).setCell (Nat.le_refl _) _

set_option maxHeartbeats 4000000 in
theorem parse_far (A : Option Addr) (n c : Nat) (bs : List Int) (b : Bool) (a r : Nat) (w : World) (h : Byts w A n bs) (ho : Octs bs) (hc : n ≤ c) (hm : 22 < n) (hl : look bs 3 12 = (b, a, r)) :
    Calls Try.prog 16 #[.slice A n c] w (Told w b a r) := by
  have hd : decide ((n : Int) ≤ 22) = false := by simp; omega
  have hcut := fun W => run_upto (A := A) (n := n) (c := c) (k := 22) W (by omega)
  have hbn := h.1
  have HH : Hid (Byts (w.alloc (.cells #[.bool false, .int .i64 0] 46)) A 22 (bs.take 22)) := by
    have hw := h.below ((Below.refl _ _).alloc (Nat.le_refl _) (.cells #[.bool false, .int .i64 0] 46))
    exact hw.upto (by omega)
  have htl := take_len bs
  have H22 : Hid ((bs.take 22).length = 22) := by show _ = _; omega
  have HO := Lib.hid ho
  have HL := Lib.hid hl
  have W0 : Hid (Below w.heap.size w (w.alloc (.cells #[.bool false, .int .i64 0] 46))) := (Below.refl _ w).alloc (Nat.le_refl _) _
  have L0 : Hid (NoLink (w.alloc (.cells #[.bool false, .int .i64 0] 46)) w.heap.size) := Blk.new w 46 [.bool false, .int .i64 0]
  clear h ho hl htl
  go_enter Try.func16, Try.ntmps16
  go_upto_region 2 with (fail)
  clear hcut hd
  go_wp2_with fail
  refine (new_in A 22 c (bs.take 22) _ (by omega) HH.out).mono ?_
  rintro e w1 ⟨g, q, rfl, hi, hg, _, hb1⟩
  have hgw : w.heap.size < g := by simp at hg; omega
  have HI := Lib.hid hi
  have W1 : Hid (Below w.heap.size w w1) := W0.out.trans (hb1.mono (by simp))
  have L1 : Hid (NoLink w1 w.heap.size) := (hb1.block w.heap.size (by simp)).trans L0.out
  clear hi hb1 hg
  go_wp2_with fail
  refine (raw_st g q bs 12 0 12 12 0 _ HI.out (by omega) rfl rfl (fun h => .inl (by have := take_len bs; omega))).mono ?_
  rintro e w2 ⟨d, k, bad, l, rfl, hi, hst, hf⟩
  have HI2 := Lib.hid hi
  have HS2 := Lib.hid hst
  have W2 : Hid (Below w.heap.size w w2) := below_only W1.out hf (by omega) W1.out.size
  have L2 : Hid (NoLink w2 w.heap.size) := L1.out.far hf (by unfold only; omega)
  clear hi hst hf
  go_wp2_with fail
  go_loopw [16] (fun y w' => ∃ (i p : Nat) (bad : Bool) (l : List Int), y = .int .i64 i ∧ i ≤ 3 ∧ p = 12 + 4 * i ∧ InAt w' g q bad l ∧ StAt bs i p bad l ∧ look bs (3 - i) p = (b, a, r) ∧ NoLink w' w.heap.size ∧ Below w.heap.size w w') (fun y _ => 3 - (intOf y).toNat)
  case atStart => exact ⟨0, 12, bad, l, rfl, by omega, rfl, HI2.out, HS2.out, HL.out, L2.out, W2.out⟩
  case round =>
    clear HI2 HS2 W2 L2 W1 L1 HI
    obtain ⟨i, p, bad, l, rfl, hi3, hp, hi, hst, hk, hnl, hw⟩ := hrel
    have HP := Lib.hid hp
    have HI := Lib.hid hi
    have HS := Lib.hid hst
    have HK := Lib.hid hk
    have HN := Lib.hid hnl
    have HW := Lib.hid hw
    have hws := hw.size
    clear hp hi hst hk hnl hw
    by_cases hlt : i < 3
    · have hd3 : decide ((i : Int) < 3) = true := by simp; omega
      have hp20 : p ≤ 20 := by have := HP.out; omega
      have HE : Hid (look bs (2 - i + 1) p = (b, a, r)) := by
        rw [show 2 - i + 1 = 3 - i by omega]
        exact HK.out
      by_cases hs : n < p + 2
      · omega
      · obtain ⟨rfl, rfl⟩ := HS.out.there (by omega) hlt
        have hp22 : p + 2 ≤ (bs.take 22).length := by have := take_len bs; omega
        obtain ⟨t, ht⟩ : ∃ t, ty bs p = t := ⟨_, rfl⟩
        have HU := Lib.hid (inU16_ok g q false ((bs.take 22).drop p) [bs.getD p 0, bs.getD (p + 1) 0] wr HI.out (by rw [List.length_drop]; omega) (two_of (by omega) (by omega)) (two_octs HO.out p))
        rw [two_num, ht, List.drop_drop] at HU
        have hlt2 : ((bs.take 22).drop (p + 2)).length = 22 - (p + 2) := by rw [List.length_drop, H22.out]
        have HM2 : Hid (p + 2 ≤ 22) := by have := H22.out; show _ ≤ _; omega
        have HLN := Lib.hid hlt2
        have HP22 := Lib.hid hp22
        have HT := Lib.hid ht
        clear HI HS HK hp22 ht hlt2
        by_cases hg : t = 33024 ∨ t = 34984
        · have e := (look_tag (by omega) (by rw [HT.out]; exact hg)).symm.trans HE.out
          have HE2 := Lib.hid e
          have HG := Lib.hid hg
          clear e HE hg
          go_wp2_with fail
          refine HU.out.mono ?_
          rintro e w3 ⟨rfl, hi, hf⟩
          have HI3 := Lib.hid hi
          have W3 : Hid (Below w.heap.size w w3) := below_only HW.out hf (by omega) hws
          have L3 : Hid (NoLink w3 w.heap.size) := HN.out.far hf (by unfold only; omega)
          clear hi hf
          go_wp2_with (first | (go_at_call 29; (with_reducible refine (bad_any g q false _ _ HI3.out).mono ?_); rintro e w' ⟨rfl, rfl⟩) | (go_at_call 30; (with_reducible refine (isTag_yes t _ HG.out).mono ?_); rintro e w' ⟨rfl, rfl⟩) | (go_at_call 27; (with_reducible refine (raw_st g q bs 2 (p + 2) 2 (p + 4) (i + 1) _ HI3.out HP22.out rfl rfl (fun h => by have := take_len bs; have := HP.out; omega)).mono ?_); rintro e w4 ⟨d, k, bad, l, rfl, hi, hst, hf⟩; have HI4 := Lib.hid hi; have HS4 := Lib.hid hst; have W4 : Hid (Below w.heap.size w w4) := below_only W3.out hf (by omega) W3.out.size; have L4 : Hid (NoLink w4 w.heap.size) := L3.out.far hf (by unfold only; omega); clear hi hst hf))
          go_roundw
          case rel =>
            refine ⟨i + 1, p + 4, bad, l, by go_num, by omega, by have := HP.out; omega, HI4.out, HS4.out, ?_, L4.out, W4.out⟩
            rw [← HE2.out]
            congr 1
            omega
          case measure => simp [intOf]; omega
        · by_cases hj : t = 2048 ∨ t = 34525
          · have e := (look_ip (by omega) (by rw [HT.out]; exact hj)).symm.trans HE.out
            rw [HT.out] at e
            simp only [Prod.mk.injEq] at e
            obtain ⟨hv, rfl, rfl⟩ := e
            have HV := Lib.hid hv
            have HG := Lib.hid hg
            have HJ := Lib.hid hj
            clear HE hg hj hv
            go_wp2_with fail
            refine HU.out.mono ?_
            rintro e w3 ⟨rfl, hi, hf⟩
            have HI3 := Lib.hid hi
            have W3 : Hid (Below w.heap.size w w3) := below_only HW.out hf (by omega) hws
            have L3 : Hid (NoLink w3 w.heap.size) := HN.out.far hf (by unfold only; omega)
            clear hi hf
            go_wp2_with (first | (go_at_call 29; (with_reducible refine (bad_any g q false _ _ HI3.out).mono ?_); rintro e w' ⟨rfl, rfl⟩) | (go_at_call 30; (with_reducible refine (isTag_no t _ HG.out).mono ?_); rintro e w' ⟨rfl, rfl⟩) | fail)
            obtain ⟨j, hj⟩ : ∃ j : Nat, j + (p + 2) = 22 := ⟨22 - (p + 2), by have := HM2.out; omega⟩
            refine (left_is g q false _ j _ HI3.out (by rw [HLN.out]; omega)).mono ?_
            rintro e w' ⟨rfl, rfl⟩
            go_wp2_with fail
            refine (carried_yes t _ b (p + 2) _ (by omega) HV.out HJ.out).mono ?_
            rintro e w4 ⟨rfl, hb⟩
            have W4 : Hid (Below w.heap.size w w4) := W3.out.trans (hb.mono W3.out.size)
            have L4 : Blk w4 w.heap.size 46 _ := (hb.block w.heap.size (L3.out.lt)).trans L3.out
            clear hb
            have hc0 : w4.cell? ⟨w.heap.size, 0, none⟩ = some (.bool false) := L4.cell 0
            have hc1 : w4.cell? ⟨w.heap.size, 1, none⟩ = some (.int .i64 0) := L4.cell 1
            have hf0 := L4.frozen 0
            have hf1 := L4.frozen 1
            have M4 := Lib.hid L4
            clear L4
            go_wp2_with fail
            have LX := (M4.out.set_ 0 (.bool b)).set_ 1 (.int .i64 ((p : Int) + 2))
            have hz0 := LX.cell 0
            have hz1 := LX.cell 1
            refine bodyPost_ret (v := .tuple #[.agg #[(.bool b), (.int .i64 ((p : Int) + 2))], .int .i64 0]) (by simp [results, Try.results16, go_sem, hz0, hz1]) rfl ⟨rfl, ?_⟩
            exact (W4.out.setCell (Nat.le_refl _) _).setCell (Nat.le_refl _) _
          · have e := (look_no (by omega) (by rw [HT.out]; exact hg) (by rw [HT.out]; exact hj)).symm.trans HE.out
            obtain ⟨rfl, rfl, rfl⟩ : false = b ∧ 0 = a ∧ 2 = r := by simpa using e
            have HG := Lib.hid hg
            have HJ := Lib.hid hj
            clear HE hg hj e
            go_wp2_with fail
            refine HU.out.mono ?_
            rintro e w3 ⟨rfl, hi, hf⟩
            have HI3 := Lib.hid hi
            have W3 : Hid (Below w.heap.size w w3) := below_only HW.out hf (by omega) hws
            have L3 : Hid (NoLink w3 w.heap.size) := HN.out.far hf (by unfold only; omega)
            clear hi hf
            go_wp2_with (first | (go_at_call 29; (with_reducible refine (bad_any g q false _ _ HI3.out).mono ?_); rintro e w' ⟨rfl, rfl⟩) | (go_at_call 30; (with_reducible refine (isTag_no t _ HG.out).mono ?_); rintro e w' ⟨rfl, rfl⟩) | fail)
            obtain ⟨j, hj⟩ : ∃ j : Nat, j + (p + 2) = 22 := ⟨22 - (p + 2), by have := HM2.out; omega⟩
            refine (left_is g q false _ j _ HI3.out (by rw [HLN.out]; omega)).mono ?_
            rintro e w' ⟨rfl, rfl⟩
            go_wp2_with fail
            refine (carried_no t _ _ HJ.out).mono ?_
            rintro e w4 ⟨rfl, hb⟩
            have W4 : Hid (Below w.heap.size w w4) := W3.out.trans (hb.mono W3.out.size)
            have L4 : Blk w4 w.heap.size 46 _ := (hb.block w.heap.size (L3.out.lt)).trans L3.out
            clear hb
            have hc0 : w4.cell? ⟨w.heap.size, 0, none⟩ = some (.bool false) := L4.cell 0
            have hc1 : w4.cell? ⟨w.heap.size, 1, none⟩ = some (.int .i64 0) := L4.cell 1
            have hf0 := L4.frozen 0
            have hf1 := L4.frozen 1
            have M4 := Lib.hid L4
            clear L4
            go_wp2_with fail
            have LX := (M4.out.set_ 0 (.bool false)).set_ 1 (.int .i64 0)
            have hz0 := LX.cell 0
            have hz1 := LX.cell 1
            refine bodyPost_ret (v := .tuple #[.agg #[(.bool false), (.int .i64 0)], .int .i64 2]) (by simp [results, Try.results16, go_sem, hz0, hz1]) rfl ⟨rfl, ?_⟩
            exact (W4.out.setCell (Nat.le_refl _) _).setCell (Nat.le_refl _) _
    · have hd3 : decide ((i : Int) < 3) = false := by simp; omega
      have e : look bs 0 p = (b, a, r) := by rw [← HK.out, show 3 - i = 0 by omega]
      obtain ⟨rfl, rfl, rfl⟩ : false = b ∧ 0 = a ∧ 6 = r := by simpa [look] using e
      have L4 : Blk wr w.heap.size 46 _ := HN.out
      have hc0 : wr.cell? ⟨w.heap.size, 0, none⟩ = some (.bool false) := L4.cell 0
      have hc1 : wr.cell? ⟨w.heap.size, 1, none⟩ = some (.int .i64 0) := L4.cell 1
      have hf0 := L4.frozen 0
      have hf1 := L4.frozen 1
      clear e L4
      go_wp2_with fail
      have LX := (HN.out.set_ 0 (.bool false)).set_ 1 (.int .i64 0)
      have hz0 := LX.cell 0
      have hz1 := LX.cell 1
      refine bodyPost_ret (v := .tuple #[.agg #[.bool false, .int .i64 0], .int .i64 6]) (by simp [results, Try.results16, go_sem, hz0, hz1]) rfl ⟨rfl, ?_⟩
      exact (HW.out.setCell (Nat.le_refl _) _).setCell (Nat.le_refl _) _

/-- For any bytes. -/
theorem parse_any (A : Option Addr) (n c : Nat) (bs : List Int) (b : Bool) (a r : Nat) (w : World) (h : Byts w A n bs) (ho : Octs bs) (hc : n ≤ c) (hl : look bs 3 12 = (b, a, r)) : Calls Try.prog 16 #[.slice A n c] w (Told w b a r) := by
  by_cases hm : n ≤ 22
  · exact parse_near A n c bs b a r w h ho hc hm hl
  · exact parse_far A n c bs b a r w h ho hc (by omega) hl
end Go.Proofs.Ytebpemknmcgamaa.ether
