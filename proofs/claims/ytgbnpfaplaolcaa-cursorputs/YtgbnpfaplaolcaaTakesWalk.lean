/- The walk of the law CursorTakes: for any bytes and any kinds it returns true and turns nothing that was there. -/
import Derived.Test.YtgbnpfaplaolcaaSteps
import Derived.Deep.RegionWith
import Derived.IntWalk
import Derived.Deep.DeepCutAuto
import Derived.Deep.CutBlock
import Derived.Deep.QuietTactic
import Derived.BigQuiet
namespace Go.Proofs.Ytgbnpfaplaolcaa
open Go.RowKit

set_option maxHeartbeats 400000 in
theorem takes_far (A K : Option Addr) (n c nk ck : Nat) (w : World) (hn : n ≤ 9223372036854775807) (hk : nk ≤ 9223372036854775807) (h : 300 < n ∨ 60 < nk) :
    Calls Try.prog 4 #[.slice A n c, .slice K nk ck] w fun e w' => e = .returned (.bool true) ∧ Below w.heap.size w w' := by
  by_cases h1 : 300 < n
  · have hd : decide ((300 : Int) < (n : Int)) = true := by simp; omega
    clear h
    go_enter Try.func4, Try.ntmps4
    go_wp2_with fail
    refine (awake_any _).mono ?_
    rintro e w1 ⟨rfl, hb⟩
    have HB := Lib.hid hb
    clear hb
    go_wp2_with fail
    refine (awake_any _).mono ?_
    rintro e w2 ⟨rfl, hb⟩
    have HC := Lib.hid hb
    clear hb
    go_wp2
    go_ret
    exact ⟨rfl, HB.out.trans (HC.out.mono HB.out.size)⟩
  · have hd : decide ((300 : Int) < (n : Int)) = false := by simp; omega
    have hd2 : decide ((60 : Int) < (nk : Int)) = true := by simp; omega
    clear h
    go_enter Try.func4, Try.ntmps4
    go_wp2_with fail
    refine (awake_any _).mono ?_
    rintro e w1 ⟨rfl, hb⟩
    have HB := Lib.hid hb
    clear hb
    go_wp2_with fail
    refine (awake_any _).mono ?_
    rintro e w2 ⟨rfl, hb⟩
    have HC := Lib.hid hb
    clear hb
    go_wp2
    go_ret
    exact ⟨rfl, HB.out.trans (HC.out.mono HB.out.size)⟩

/-- Where the loop stands: the In and the document's one say the same. -/
def TakesRel (w : World) (g q d : Nat) (w' : World) : Prop :=
  ∃ (bad : Bool) (bs : List Int) (A : Option Addr) (n c : Nat), InAt w' g q bad bs ∧ Blk w' d 41 [.slice A n c, .bool bad] ∧ n ≤ c ∧ n ≤ 300 ∧ (bad = false → Byts w A n bs) ∧ (bad = true → bs = []) ∧ Octs bs ∧ Below w.heap.size w w'

theorem raw_no (g q : Nat) (bad : Bool) (bs : List Int) (x : Int) (w : World) (h : InAt w g q bad bs) (hb : bad = true → bs = []) (hx : NoRaw bad bs.length x) :
    Calls Try.prog 20 #[.pointer (some ⟨g, 0, none⟩), .int .i64 x] w (RawPost w g q true [] 0) := by
  by_cases h0 : x < 0 ∨ (bs.length : Int) < x
  · exact raw_bad g q bad bs x w h h0
  · have hbad : bad = true := by
      rcases hx with hx | hx | hx
      · exact hx
      · exact absurd (.inl hx) h0
      · exact absurd (.inr hx) h0
    obtain rfl := hb hbad
    subst hbad
    exact raw_ok g q true [] x 0 w h (by simp at h0; omega) (Nat.zero_le _) (by decide)

theorem below_of_drew {B : Nat} {w w' : World} (h : Below B w.drew w') : Below B w w' := ⟨h.os, h.tape, h.output, h.size, h.block⟩

/-- Both have taken: where the loop stands then. -/
theorem takes_end {w w3 w4 : World} {g q d : Nat} {bad : Bool} {l : List Int} {u v : Value} {A : Option Addr} {n c : Nat} (hi : InAt w3 g q bad l) (hb : Blk w3 d 41 [u, v]) (h4 : Below w3.heap.size w3 w4) (hg : d ≠ g) (hq : d ≠ q)
    (hw : Below w.heap.size w w3) (hd : w.heap.size ≤ d) (hc : n ≤ c) (hn : n ≤ 300) (hy : bad = false → Byts w A n l) (he : bad = true → l = []) (ho : Octs l) :
    TakesRel w g q d ((w4.setCell ⟨d, 0, none⟩ (.slice A n c)).setCell ⟨d, 1, none⟩ (.bool bad)) := by
  have hf : Far (only d) w3 ((w4.setCell ⟨d, 0, none⟩ (.slice A n c)).setCell ⟨d, 1, none⟩ (.bool bad)) := ((Far.of_below h4 (only d)).set_ (p := ⟨d, 0, none⟩) (fun _ => rfl) _).set_ (p := ⟨d, 1, none⟩) (fun _ => rfl) _
  exact ⟨bad, l, A, n, c, hi.far hf (Ne.symm hg) (Ne.symm hq), ((hb.far (Far.of_below h4 nobody) (fun e => e)).set_ 0 _).set_ 1 _, hc, hn, hy, he, ho, below_only hw hf hd hw.size⟩
/-- What neither touches stays as it was. -/
theorem takes_keep {w3 w4 : World} {d b : Nat} {t : TypeId} {cs : List Value} (u v : Value) (hb : Blk w3 b t cs) (h4 : Below w3.heap.size w3 w4) (hd : b ≠ d) : Blk ((w4.setCell ⟨d, 0, none⟩ u).setCell ⟨d, 1, none⟩ v) b t cs :=
  ((hb.far (Far.of_below h4 nobody) (fun e => e)).other hd u).other hd v

theorem fail_in (g q : Nat) (bad : Bool) (bs : List Int) (w : World) (h : InAt w g q bad bs) :
    Calls Try.prog 23 #[.pointer (some ⟨g, 0, none⟩)] w fun e w' => e = .returned (.tuple #[]) ∧ BadPost w g q w' := by
  have h2 := h.failed
  obtain ⟨A, h1, _⟩ := h
  refine (fail_any g _ _ w h1).mono ?_
  rintro e w' ⟨rfl, rfl⟩
  exact ⟨rfl, h2⟩

theorem TakesRel.drewN {w w' : World} {g q d : Nat} (h : TakesRel w g q d w') (k : Nat) : TakesRel w g q d (w'.drewN k) := by
  obtain ⟨bad, l, A, n, c, hi, hb, h1, h2, h3, h4, h5, hw⟩ := h
  exact ⟨bad, l, A, n, c, hi, hb, h1, h2, h3, h4, h5, hw.os, hw.tape, hw.output, hw.size, hw.block⟩
/-- The same contracts, said for a region whose operations only read. -/
theorem bad_q (g q : Nat) (bad : Bool) (bs : List Int) (w : World) (h : InAt w g q bad bs) (n : Nat) :
    Calls Try.prog 25 #[.pointer (some ⟨g, 0, none⟩)] (w.drewN n) fun e w' => e = .returned (.bool bad) ∧ ∃ m, w' = w.drewN m :=
  (bad_any g q bad bs (w.drewN n) h).mono fun _ _ ⟨h1, h2⟩ => ⟨h1, n, h2.symm⟩
theorem left_q (g q : Nat) (bad : Bool) (bs : List Int) (k : Nat) (w : World) (h : InAt w g q bad bs) (hk : bs.length = k) (n : Nat) :
    Calls Try.prog 21 #[.pointer (some ⟨g, 0, none⟩)] (w.drewN n) fun e w' => e = .returned (.int .i64 k) ∧ ∃ m, w' = w.drewN m := by
  subst hk
  exact (left_any g q bad bs (w.drewN n) h).mono fun _ _ ⟨h1, h2⟩ => ⟨h1, n, h2.symm⟩
theorem done_q (g q : Nat) (bad : Bool) (bs : List Int) (d : Bool) (w : World) (h : InAt w g q bad bs) (hd : (!bad && decide (bs.length = 0)) = d) (n : Nat) :
    Calls Try.prog 22 #[.pointer (some ⟨g, 0, none⟩)] (w.drewN n) fun e w' => e = .returned (.bool d) ∧ ∃ m, w' = w.drewN m :=
  (done_any g q bad bs d (w.drewN n) h hd).mono fun _ _ ⟨h1, h2⟩ => ⟨h1, n, h2.symm⟩

set_option maxRecDepth 100000 in
set_option maxHeartbeats 8000000 in
theorem takes_near (A K : Option Addr) (n c nk ck : Nat) (bs ks : List Int) (w : World) (h : n ≤ 300) (hc : n ≤ c) (hk : nk ≤ 60) (ha : Byts w A n bs) (ho : Octs bs) (hks : Byts w K nk ks) (hko : Octs ks) :
    Calls Try.prog 4 #[.slice A n c, .slice K nk ck] w fun e w' => e = .returned (.bool true) ∧ Below w.heap.size w w' := by
  have HA := Lib.hid ha
  have HO := Lib.hid ho
  have HK := Lib.hid hks
  have HKO := Lib.hid hko
  clear ha ho hks hko
  have hd : decide ((300 : Int) < (n : Int)) = false := by simp; omega
  have hd2 : decide ((60 : Int) < (nk : Int)) = false := by simp; omega
  go_enter Try.func4, Try.ntmps4
  go_wp2_with (first | (go_at_call 8; (with_reducible refine (awake_any _).mono ?_); rintro e w1 ⟨rfl, hb1⟩; have W1 := Lib.hid hb1; clear hb1) | (go_at_call 17; (with_reducible refine (new_in A n c bs _ (by omega) (HA.out.below W1.out)).mono ?_); rintro e w2 ⟨g, q, rfl, hi, hg, hq, hb2⟩; have I2 := Lib.hid hi; have hlt := hi.lt; have W2 : Hid (Below w.heap.size w w2) := W1.out.trans (hb2.mono W1.out.size); have hsz1 := W1.out.size; clear hi hb2))
  have hsz2 := W2.out.size
  go_loopw [7, 32] (fun _ i w' => ∃ k : Nat, k ≤ nk ∧ i = .int .i64 k ∧ TakesRel w g q w2.heap.size w') (fun _ i _ => nk - (intOf i).toNat)
  case atStart => exact ⟨0, Nat.zero_le _, rfl, false, bs, A, n, c, I2.out.alloc _, Blk.new w2 41 [.slice A n c, .bool false], hc, h, fun _ => HA.out, (fun e => by cases e), HO.out, W2.out.alloc W2.out.size _⟩
  case round =>
    obtain ⟨k, hk, rfl, hrel⟩ := hrel
    by_cases hlt : k < nk
    · obtain ⟨ad, rfl, hcell⟩ := HK.out.at_ hlt
      have hkb := HKO.out.at_ k
      obtain ⟨kz, hkz⟩ : ∃ kz : Nat, ks.getD k 0 = kz := ⟨(ks.getD k 0).toNat, by omega⟩
      have hkz2 : kz ≤ 255 := by omega
      rw [hkz] at hcell
      clear hkb hkz
      have HR := Lib.hid hrel
      have hw : Below w.heap.size w wr := by obtain ⟨_, _, _, _, _, _, _, _, _, _, _, _, hb⟩ := hrel; exact hb
      have hcw : wr.cell? (ad.add k) = some (.int .u8 kz) := (hw.cell (World.block_lt_of_cell? w _ hcell)).trans hcell
      have HW := Lib.hid hw
      clear hrel hw
      have hgd : w2.heap.size ≠ g := by omega
      have hqd : w2.heap.size ≠ q := by omega
      have hgw : w.heap.size ≤ g := by omega
      go_upto_block 2 with fail
      go_cut [8] (fun _ wx => TakesRel w g q w2.heap.size wx)
      case first =>
        obtain ⟨bad, l, A', n', c', hi, hb, hnc, hn3, hby, hbe, hoc, _⟩ := HR.out
        have HI := Lib.hid hi
        have HB := Lib.hid hb
        have HY := Lib.hid hby
        have HE := Lib.hid hbe
        have HC := Lib.hid hoc
        clear hi hb hby hbe hoc HR
        by_cases h200 : kz = 200
        · have e1 : ((kz : Int) == 200) = true := by simp; omega
          clear h200
          go_wp2_with (go_at_call 23; (with_reducible refine (fail_in g q bad l _ HI.out).mono ?_); rintro e w3 ⟨rfl, hp⟩; have HP := Lib.hid hp; have hb3 := HB.out.far hp.2 hgd; have HB3 := Lib.hid hb3; have c1 : w3.cell? ⟨w2.heap.size, 1, none⟩ = some (.bool bad) := hb3.cell 1; have f1 := hb3.frozen 1; clear hp hb3)
          go_meet
          case rel =>
            have hf := HP.out.2
            have hx : Far (only w2.heap.size) w3 (w3.setCell ⟨w2.heap.size, 1, none⟩ (.bool true)) := (Far.refl (only w2.heap.size) w3).set_ (p := ⟨w2.heap.size, 1, none⟩) (fun _ => rfl) _
            exact ⟨true, [], A', n', c', HP.out.1.far hx (Ne.symm hgd) (Ne.symm hqd), HB3.out.set_ 1 _, hnc, hn3, (fun e => by cases e), fun _ => rfl, Octs.nil, below_only (below_only HW.out hf hgw HW.out.size) hx hsz2 (below_only HW.out hf hgw HW.out.size).size⟩
        · have e1 : ((kz : Int) == 200) = false := by simp; omega
          by_cases hgt : 200 < kz
          · have e2 : decide ((200 : Int) < (kz : Int)) = true := by simp; omega
            by_cases hno : NoRaw bad l.length ((kz : Int) - 203)
            · have HNO := Lib.hid hno
              have HNW : Hid (NoRaw bad n' (IntKind.i64.wrap (IntKind.i64.wrap (kz : Int) - 203))) := by
                rw [IntWalk.i64_in (kz : Int) (by omega), IntWalk.i64_in _ (by omega)]
                cases bad
                · rw [← (HY.out rfl).1]; exact hno
                · exact .inl rfl
              clear hno h200
              go_wp2_with (go_at_call 20; (with_reducible refine (raw_no g q bad l _ _ HI.out HE.out HNO.out).mono ?_); rintro e w3 ⟨bx, rfl, hbx, hkb, hi3, hf3⟩; have HI3 := Lib.hid hi3; have HF3 := Lib.hid hf3; have hb3 := HB.out.far hf3 hgd; have HB3 := Lib.hid hb3; have c0 : w3.cell? ⟨w2.heap.size, 0, none⟩ = some (.slice A' n' c') := hb3.cell 0; have c1 : w3.cell? ⟨w2.heap.size, 1, none⟩ = some (.bool bad) := hb3.cell 1; have W3 := Lib.hid (below_only HW.out hf3 hgw HW.out.size); have hcw3 : w3.cell? (ad.add k) = some (.int .u8 kz) := (W3.out.cell (World.block_lt_of_cell? w _ hcell)).trans hcell; clear hkb hi3 hf3 hb3)
              go_region_with (first | (go_at_call 24; (with_reducible refine (refRaw_bad A' n' c' bad _ _ HNW.out).mono ?_); rintro e w4 ⟨rfl, hb4⟩; have W4 := Lib.hid (below_of_drew hb4); have hb4' := HB3.out.far (Far.of_below W4.out nobody) (fun e => e); have d0 : w4.cell? ⟨w2.heap.size, 0, none⟩ = some (.slice A' n' c') := hb4'.cell 0; have d1 : w4.cell? ⟨w2.heap.size, 1, none⟩ = some (.bool bad) := hb4'.cell 1; have g0 := hb4'.frozen 0; have g1 := hb4'.frozen 1; clear hb4 hb4'))
              all_goals
                have HF := Lib.hid (takes_end (w := w) (A := none) (n := 0) (c := 0) HI3.out HB3.out W4.out hgd hqd W3.out hsz2 (Nat.le_refl _) (by omega) (fun e => by cases e) (fun _ => rfl) Octs.nil)
                have t1 := text_is (w := (w4.setCell ⟨w2.heap.size, 0, none⟩ (.slice none 0 0)).setCell ⟨w2.heap.size, 1, none⟩ (.bool true)) (A := some ⟨bx, 0, none⟩) 0 Byts.none_
                have t2 := text_is (w := (w4.setCell ⟨w2.heap.size, 0, none⟩ (.slice none 0 0)).setCell ⟨w2.heap.size, 1, none⟩ (.bool true)) (A := none) 0 Byts.none_
                go_wp2
                go_meet
                case rel => exact HF.out
            · have hbf : bad = false := by cases bad <;> first | rfl | exact absurd (.inl rfl) hno
              subst hbf
              obtain ⟨kx, hkx⟩ : ∃ kx : Nat, (kz : Int) - 203 = kx := ⟨kz - 203, by
                have : ¬ ((kz : Int) - 203 < 0) := fun h => hno (.inr (.inl h))
                omega⟩
              have hkl : kx ≤ l.length := by
                have : ¬ ((l.length : Int) < (kz : Int) - 203) := fun h => hno (.inr (.inr h))
                omega
              have HYB := Lib.hid (HY.out rfl)
              have hll : l.length = n' := HYB.out.1
              have HLL := Lib.hid hll
              have hkn : kx ≤ n' := by omega
              have hl3 : l.length ≤ 1000000 := by omega
              obtain ⟨Z, hZ⟩ : ∃ Z, CutAt A' c' kx Z := ⟨_, rfl⟩
              have HZ := Lib.hid hZ
              have HKX := Lib.hid hkx
              have HKW : Hid (IntKind.i64.wrap (IntKind.i64.wrap (kz : Int) - 203) = kx) := by
                rw [IntWalk.i64_in (kz : Int) (by omega), IntWalk.i64_in _ (by omega)]
                exact hkx
              clear hno hll hZ hkx h200
              go_wp2_with (go_at_call 20; (with_reducible refine (raw_ok g q false l _ kx _ HI.out HKX.out hkl hl3).mono ?_); rintro e w3 ⟨bx, rfl, hbx, hkb, hi3, hf3⟩; have HX3 := Lib.hid hkb; have HI3 := Lib.hid hi3; have HF3 := Lib.hid hf3; have hb3 := HB.out.far hf3 hgd; have HB3 := Lib.hid hb3; have c0 : w3.cell? ⟨w2.heap.size, 0, none⟩ = some (.slice A' n' c') := hb3.cell 0; have c1 : w3.cell? ⟨w2.heap.size, 1, none⟩ = some (.bool false) := hb3.cell 1; have W3 := Lib.hid (below_only HW.out hf3 hgw HW.out.size); have hcw3 : w3.cell? (ad.add k) = some (.int .u8 kz) := (W3.out.cell (World.block_lt_of_cell? w _ hcell)).trans hcell; have hd3 := hb3.lt; clear hkb hi3 hf3 hb3)
              go_region_with (first | (go_at_call 24; (with_reducible refine (refRaw_ok A' Z n' c' _ kx _ HKW.out hkn hnc HZ.out).mono ?_); rintro e w4 ⟨rfl, hb4⟩; have W4 := Lib.hid (below_of_drew hb4); have hb4' := HB3.out.far (Far.of_below W4.out nobody) (fun e => e); have HB4 := Lib.hid hb4'; have d0 : w4.cell? ⟨w2.heap.size, 0, none⟩ = some (.slice A' n' c') := hb4'.cell 0; have d1 : w4.cell? ⟨w2.heap.size, 1, none⟩ = some (.bool false) := hb4'.cell 1; have g0 := hb4'.frozen 0; have g1 := hb4'.frozen 1; clear hb4 hb4'))
              all_goals
                have HE := Lib.hid (takes_end (A := Z) (n := n' - kx) (c := c' - kx) HI3.out HB3.out W4.out hgd hqd W3.out hsz2 (by omega) (by omega) (fun _ => by have := HYB.out.from_ hkn hnc; rw [show (if c' = kx then A' else A'.map (·.add kx)) = Z from HZ.out.symm] at this; exact this) (fun e => by cases e) (HC.out.drop kx))
                have hwE : Below w.heap.size w ((w4.setCell ⟨w2.heap.size, 0, none⟩ (.slice Z (n' - kx) (c' - kx))).setCell ⟨w2.heap.size, 1, none⟩ (.bool false)) := by obtain ⟨_, _, _, _, _, _, _, _, _, _, _, _, hb⟩ := HE.out; exact hb
                have hbd : bx ≠ w2.heap.size := by have := HB.out.lt; omega
                have hlk : (l.take kx).length = kx := by simp; omega
                have t1 := text_is kx (Byts.of_all (takes_keep (.slice Z (n' - kx) (c' - kx)) (.bool false) HX3.out W4.out hbd) hlk)
                have t2 := text_is c' ((HYB.out.upto hkn).below hwE)
                clear hwE hlk
                go_wp2
                go_meet
                case rel => exact HE.out
          · have e2 : decide ((200 : Int) < (kz : Int)) = false := by simp; omega
            obtain ⟨m, hm⟩ : ∃ m, manyF kz = m := ⟨_, rfl⟩
            have hm8 : 1 ≤ m ∧ m ≤ 8 := by have := manyF_cases kz; omega
            have HM := Lib.hid hm
            clear hm h200
            by_cases hml : m ≤ l.length
            · have hbf : bad = false := by
                cases bad
                · rfl
                · have := HE.out rfl; subst this; simp at hml; omega
              subst hbf
              have HYB := Lib.hid (HY.out rfl)
              have hll : l.length = n' := HYB.out.1
              have hkn : m ≤ n' := by omega
              obtain ⟨Z, hZ⟩ : ∃ Z, CutAt A' c' m Z := ⟨_, rfl⟩
              have HZ := Lib.hid hZ
              obtain ⟨lt, hlt2⟩ : ∃ lt, l.take m = lt := ⟨_, rfl⟩
              have HT := Lib.hid hlt2
              have HTO : Hid (Octs lt) := hlt2 ▸ HC.out.take m
              clear hll hZ hlt2
              go_wp2_with (go_at_call 19; (with_reducible refine (one_ok g q false l lt kz m _ HI.out hkz2 HM.out hml HT.out HTO.out).mono ?_); rintro e w3 ⟨rfl, hi3, hf3⟩; have HI3 := Lib.hid hi3; have HF3 := Lib.hid hf3; have hb3 := HB.out.far hf3 hgd; have HB3 := Lib.hid hb3; have c0 : w3.cell? ⟨w2.heap.size, 0, none⟩ = some (.slice A' n' c') := hb3.cell 0; have c1 : w3.cell? ⟨w2.heap.size, 1, none⟩ = some (.bool false) := hb3.cell 1; have W3 := Lib.hid (below_only HW.out hf3 hgw HW.out.size); have hcw3 : w3.cell? (ad.add k) = some (.int .u8 kz) := (W3.out.cell (World.block_lt_of_cell? w _ hcell)).trans hcell; clear hi3 hf3 hb3)
              go_region_with (first | (go_at_call 9; (with_reducible refine (many_is kz m _ hkz2 HM.out).mono ?_); rintro e w' ⟨rfl, rfl⟩) | (go_at_call 18; (with_reducible refine (refTake_ok A' Z n' c' l lt _ m _ rfl hkn hnc HZ.out (by exact HYB.out.below W3.out.drew) HT.out HTO.out hm8.2).mono ?_); rintro e w4 ⟨rfl, hb4⟩; have W4 := Lib.hid (below_of_drew hb4); have hb4' := HB3.out.far (Far.of_below W4.out nobody) (fun e => e); have d0 : w4.cell? ⟨w2.heap.size, 0, none⟩ = some (.slice A' n' c') := hb4'.cell 0; have d1 : w4.cell? ⟨w2.heap.size, 1, none⟩ = some (.bool false) := hb4'.cell 1; have g0 := hb4'.frozen 0; have g1 := hb4'.frozen 1; clear hb4 hb4'))
              all_goals
                have HF := Lib.hid (takes_end (A := Z) (n := n' - m) (c := c' - m) HI3.out HB3.out W4.out hgd hqd W3.out hsz2 (by omega) (by omega) (fun _ => by have := HYB.out.from_ hkn hnc; rw [show (if c' = m then A' else A'.map (·.add m)) = Z from HZ.out.symm] at this; exact this) (fun e => by cases e) (HC.out.drop m))
                go_wp2
                go_meet
                case rel => exact HF.out
            · have hml2 : l.length < m := by omega
              have HNW : Hid (NoRaw bad n' (m : Int)) := by
                cases bad
                · have := (HY.out rfl).1; exact .inr (.inr (by omega))
                · exact .inl rfl
              clear hml
              go_wp2_with (go_at_call 19; (with_reducible refine (one_bad g q bad l kz m _ HI.out hkz2 HM.out hml2).mono ?_); rintro e w3 ⟨rfl, hi3, hf3⟩; have HI3 := Lib.hid hi3; have HF3 := Lib.hid hf3; have hb3 := HB.out.far hf3 hgd; have HB3 := Lib.hid hb3; have c0 : w3.cell? ⟨w2.heap.size, 0, none⟩ = some (.slice A' n' c') := hb3.cell 0; have c1 : w3.cell? ⟨w2.heap.size, 1, none⟩ = some (.bool bad) := hb3.cell 1; have W3 := Lib.hid (below_only HW.out hf3 hgw HW.out.size); have hcw3 : w3.cell? (ad.add k) = some (.int .u8 kz) := (W3.out.cell (World.block_lt_of_cell? w _ hcell)).trans hcell; clear hi3 hf3 hb3)
              go_region_with (first | (go_at_call 9; (with_reducible refine (many_is kz m _ hkz2 HM.out).mono ?_); rintro e w' ⟨rfl, rfl⟩) | (go_at_call 18; (with_reducible refine (refTake_bad A' n' c' bad _ _ HNW.out).mono ?_); rintro e w4 ⟨rfl, hb4⟩; have W4 := Lib.hid (below_of_drew hb4); have hb4' := HB3.out.far (Far.of_below W4.out nobody) (fun e => e); have d0 : w4.cell? ⟨w2.heap.size, 0, none⟩ = some (.slice A' n' c') := hb4'.cell 0; have d1 : w4.cell? ⟨w2.heap.size, 1, none⟩ = some (.bool bad) := hb4'.cell 1; have g0 := hb4'.frozen 0; have g1 := hb4'.frozen 1; clear hb4 hb4'))
              all_goals
                have HF := Lib.hid (takes_end (w := w) (A := none) (n := 0) (c := 0) HI3.out HB3.out W4.out hgd hqd W3.out hsz2 (Nat.le_refl _) (by omega) (fun e => by cases e) (fun _ => rfl) Octs.nil)
                go_wp2
                go_meet
                case rel => exact HF.out
      case rest =>
        have HT := Lib.hid hcut
        obtain ⟨bad, l, A', n', c', hi, hb, hnc, hn3, hby, hbe, hoc, hbw⟩ := hcut
        have c0 : wc.cell? ⟨w2.heap.size, 0, none⟩ = some (.slice A' n' c') := hb.cell 0
        have c1 : wc.cell? ⟨w2.heap.size, 1, none⟩ = some (.bool bad) := hb.cell 1
        have HI := Lib.hid hi
        have HB := Lib.hid hb
        have HC := Lib.hid hoc
        have HV := Lib.hid hbw
        cases bad
        · have HY := Lib.hid (hby rfl)
          have hll : l.length = n' := HY.out.1
          have HLL := Lib.hid hll
          clear hi hb hby hbe hoc hbw HR hcw HW hll
          by_cases h0 : n' = 0
          · subst h0
            go_wp2
            go_quiet ((first | (go_at_call 25; exact bad_q g q false l _ HI.out _) | (go_at_call 21; exact left_q g q false l _ _ HI.out HLL.out _) | (go_at_call 22; exact done_q g q false l true _ HI.out (by have := HLL.out; simp [this]) _)))
            go_wp2
            go_roundw
            case rel => exact ⟨k + 1, by omega, by go_num, HT.out.drewN _⟩
            case measure => simp [intOf]; omega
          · have e0 : ((n' : Int) == 0) = false := by simp; omega
            go_wp2
            go_quiet ((first | (go_at_call 25; exact bad_q g q false l _ HI.out _) | (go_at_call 21; exact left_q g q false l _ _ HI.out HLL.out _) | (go_at_call 22; exact done_q g q false l false _ HI.out (by have := HLL.out; simp [this, h0]) _)))
            go_wp2
            go_roundw
            case rel => exact ⟨k + 1, by omega, by go_num, HT.out.drewN _⟩
            case measure => simp [intOf]; omega
        · have hle := hbe rfl
          subst hle
          clear hi hb hby hbe hoc hbw HR hcw HW
          go_wp2
          go_quiet ((first | (go_at_call 25; exact bad_q g q true [] _ HI.out _) | (go_at_call 21; exact left_q g q true [] _ _ HI.out rfl _) | (go_at_call 22; exact done_q g q true [] false _ HI.out rfl _)))
          go_wp2
          go_roundw
          case rel => exact ⟨k + 1, by omega, by go_num, HT.out.drewN _⟩
          case measure => simp [intOf]; omega
    · go_wp2
      go_ret
      obtain ⟨_, _, _, _, _, _, _, _, _, _, _, _, hb⟩ := hrel
      exact ⟨rfl, hb⟩
end Go.Proofs.Ytgbnpfaplaolcaa
