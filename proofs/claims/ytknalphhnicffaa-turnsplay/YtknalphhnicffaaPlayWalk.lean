/- The walk of the law TurnsPlay over the program's contracts. -/
import Derived.Test.YtknalphhnicffaaPlayMem
namespace Go.Proofs.Ytknalphhnicffaa
open Go.RowKit
theorem len_self {α : Type} (l : List α) : l.length = l.length := rfl
section
variable {At : (Nat → Prop) → World → Nat → Nat → Nat → List Cls → Prop}
set_option maxRecDepth 100000 in
set_option maxHeartbeats 16000000 in
theorem play_near (P : Prog At) (n Q : Nat) (x y : Int) (A0 : Option Addr) (r cc : Nat) (T : Nat → ActIn) (w : World) (hx : x = n) (hy : y = Q) (h1 : 1 ≤ n) (h2 : n ≤ 129) (hQ0 : 100 ≤ Q) (hQ : Q ≤ 1073741824) (hfew : fewOf r T = true) (ha : ActsIn w A0 r T) :
    Calls Try.prog 3 #[.int .i64 x, .int .i64 y, .slice A0 r cc] w fun e w' => e = .returned (.bool true) ∧ Below w.heap.size w w' := by
  subst hx hy
  have HP := Lib.hid P
  have HA := Lib.hid ha
  have hr60 := few_n hfew
  have HFW := Lib.hid (fun W (hB : Below w.heap.size w W) => few_ A0 r cc T W (Nat.le_trans hr60 (by decide)) (acts_below ha hB))
  rw [hfew] at HFW
  clear P ha hfew
  have hQ1 : 1 ≤ Q := by omega
  have d1 : decide ((n : Int) < 1) = false := by simp; omega
  have d2 : decide ((129 : Int) < (n : Int)) = false := by simp; omega
  have d3 : decide ((Q : Int) < 1) = false := by simp; omega
  have d4 : decide ((1073741824 : Int) < (Q : Int)) = false := by simp; omega
  have d5 : decide ((Q : Int) < 100) = false := by simp; omega
  go_enter Try.func3, Try.ntmps3
  go_wp2_with (first | (go_at_call 8; (with_reducible refine (awake_any HP.out _).mono ?_); rintro e w1 ⟨rfl, hb1⟩; have W1 := Lib.hid hb1; clear hb1) | (go_at_call 9; (with_reducible refine (HFW.out _ W1.out).mono ?_); rintro e w' ⟨rfl, rfl⟩) | (go_at_call 10; (with_reducible refine (HP.out.new n Q _ _ _ rfl rfl h1 h2 hQ1 hQ).mono ?_); rintro e w2 ⟨g, rfl, hr, hb⟩; have W2 : Hid (Below w.heap.size w w2) := W1.out.trans (hb.mono W1.out.size); have R2 : Hid (PR At w g w2.heap.size n Q [] (w2.alloc (boxOf none 0 0 n Q))) := PR.first HP.out (HP.out.weak hr (fun k hk h => Nat.le_trans W1.out.size h)) W2.out; clear hr hb))
  clear W1 W2 HFW
  generalize w2.heap.size = h at *
  go_loopw [10, 11, 12, 13, 14, 15, 16, 69] (fun _ _ _ _ _ _ _ i w' => ∃ (k : Nat) (L : List Cls), k ≤ r ∧ i = .int .i64 k ∧ PR At w g h n Q L w') (fun _ _ _ _ _ _ _ i _ => r - (intOf i).toNat)
  case atStart => exact ⟨0, _, by omega, rfl, R2.out⟩
  case round =>
    clear R2
    obtain ⟨k, L, hk, rfl, hrel'⟩ := hrel
    have R3 := Lib.hid hrel'
    have W3 := Lib.hid hrel'.be
    clear hrel'
    by_cases hlt : k < r
    · have hd5 : decide ((k : Int) < (r : Int)) = true := by simp; omega
      obtain ⟨a, rfl, hca, hcb, hcc, hv, hbl, hx0, hx1, hy0, hy1, _⟩ := HA.out k hlt
      have hca' := keep9 W3.out hca
      have hcb' := keep9 W3.out hcb
      have hcc' := keep9 W3.out hcc
      have V3 := Lib.hid (hv.below W3.out)
      have HV0 := Lib.hid hv
      have HCB := Lib.hid hcb
      have HCC := Lib.hid hcc
      have HBL := Lib.hid hbl
      rw [addr_one] at hcb'
      rw [addr_two] at hcc'
      clear hca hcb hcc hv hbl
      generalize (T k).x = X0 at *
      generalize (T k).y = Y0 at *
      generalize (T k).b = B0 at *
      generalize (T k).c = C0 at *
      generalize (T k).hs = hs at *
      obtain ⟨t, ht⟩ : ∃ t : Nat, X0 % 5 = t := ⟨(X0 % 5).toNat, by omega⟩
      have ht5 : t < 5 := by omega
      have HWY : Hid (IntKind.i64.wrap Y0 = Y0) := by show _ = _; rw [IntKind.wrap_i64]; omega
      obtain ⟨b, A, c, hat, hrm, hlo, hc, hmid⟩ := R3.out.ask HP.out
      have AT := Lib.hid hat
      have RM := Lib.hid hrm
      have HM := Lib.hid hmid
      have HOK := Lib.hid (HP.out.ok hat)
      have hll : L.length ≤ 129 := Nat.le_trans (names_lt HOK.out) h2
      have HNB : Hid (∀ ad, B0 = some ad → 0 < hs.length → ¬ more b wr ad.block) := fun ad e h0 hm => by
        have h3 := hlo _ hm
        have h4 := HBL.out ad e h0
        omega
      clear hat hrm hlo hmid
      go_upto_block 2 with fail
      go_cut [11, 12, 13, 14, 15, 77] from 78 to 152 (fun o i _ _ _ _ wx => ∃ (bo : Bool) (L' : List Cls), o = .bool bo ∧ i = .bool bo ∧ PR At w g h n Q L' wx)
      case first =>
        by_cases ht2 : t < 2
        · have hts : t = 0 ∨ t = 1 := by omega
          rcases hts with rfl | rfl
          · go_upto_region 22 with (go_at_call 11; (with_reducible refine (HP.out.wake _ g n Q _ L _ AT.out RM.out).mono ?_); rintro e5 w5 ⟨rfl, hr5, hf5⟩; obtain ⟨d, m1, m2, m3, m4, m5⟩ := HM.out _ w5 hr5 hf5; have BX5 := Lib.hid m1; have D5 : Hid (DocAt d w5.drew A L) := m2.below ((Below.refl _ _).drew); have RD5 : Hid (∀ k, w5.drew.heap.size ≤ k → d k) := m3; have W5 := Lib.hid m4; have HPUT := Lib.hid m5; have hcb5 := keep9 m4 HCB.out; obtain ⟨q0, q1, q2⟩ := m1.cells; clear hr5 hf5 m1 m2 m3 m4 m5)
            rw [addr_one] at hcb5
            go_region_with (go_at_call 13; rw [HWY.out]; (with_reducible refine (docWake_ d L.length c n Q A _ L _ D5.out (len_self L) hc hll RD5.out).mono ?_); rintro e6 w6 ⟨⟨A6, c6, hc6, rfl, hd6⟩, hb6⟩; have B6 : Hid (Below w5.heap.size w5 w6) := ((Below.refl _ _).drew).trans hb6; obtain ⟨p0, p1, p2⟩ := (BX5.out.below B6.out).cells; have f0 := Blk.frozen (BX5.out.below B6.out) 0; have f1 := Blk.frozen (BX5.out.below B6.out) 1; have f2 := Blk.frozen (BX5.out.below B6.out) 2; have PR6 := Lib.hid (HPUT.out A6 c6 w6 B6.out hc6 hd6); clear hb6 hd6)
            all_goals
              go_wp2_with fail
              go_meet
              case rel => exact ⟨_, _, rfl, rfl, PR6.out⟩
          · go_upto_region 22 with (go_at_call 11; (with_reducible refine (HP.out.wake _ g n Q _ L _ AT.out RM.out).mono ?_); rintro e5 w5 ⟨rfl, hr5, hf5⟩; obtain ⟨d, m1, m2, m3, m4, m5⟩ := HM.out _ w5 hr5 hf5; have BX5 := Lib.hid m1; have D5 : Hid (DocAt d w5.drew A L) := m2.below ((Below.refl _ _).drew); have RD5 : Hid (∀ k, w5.drew.heap.size ≤ k → d k) := m3; have W5 := Lib.hid m4; have HPUT := Lib.hid m5; have hcb5 := keep9 m4 HCB.out; obtain ⟨q0, q1, q2⟩ := m1.cells; clear hr5 hf5 m1 m2 m3 m4 m5)
            rw [addr_one] at hcb5
            go_region_with (go_at_call 13; rw [HWY.out]; (with_reducible refine (docWake_ d L.length c n Q A _ L _ D5.out (len_self L) hc hll RD5.out).mono ?_); rintro e6 w6 ⟨⟨A6, c6, hc6, rfl, hd6⟩, hb6⟩; have B6 : Hid (Below w5.heap.size w5 w6) := ((Below.refl _ _).drew).trans hb6; obtain ⟨p0, p1, p2⟩ := (BX5.out.below B6.out).cells; have f0 := Blk.frozen (BX5.out.below B6.out) 0; have f1 := Blk.frozen (BX5.out.below B6.out) 1; have f2 := Blk.frozen (BX5.out.below B6.out) 2; have PR6 := Lib.hid (HPUT.out A6 c6 w6 B6.out hc6 hd6); clear hb6 hd6)
            all_goals
              go_wp2_with fail
              go_meet
              case rel => exact ⟨_, _, rfl, rfl, PR6.out⟩
        · by_cases ht3 : t = 2
          · subst ht3
            go_upto_region 25 with (go_at_call 14; (with_reducible refine (HP.out.sleep _ g n Q _ L _ AT.out RM.out).mono ?_); rintro e5 w5 ⟨rfl, hr5, hf5⟩; obtain ⟨d, m1, m2, m3, m4, m5⟩ := HM.out _ w5 hr5 hf5; have BX5 := Lib.hid m1; have D5 : Hid (DocAt d w5.drew A L) := m2.below ((Below.refl _ _).drew); have RD5 : Hid (∀ k, w5.drew.heap.size ≤ k → d k) := m3; have W5 := Lib.hid m4; have HPUT := Lib.hid m5; have hcb5 := keep9 m4 HCB.out; obtain ⟨q0, q1, q2⟩ := m1.cells; clear hr5 hf5 m1 m2 m3 m4 m5)
            rw [addr_one] at hcb5
            go_region_with (go_at_call 15; rw [HWY.out]; (with_reducible refine (docSleep_ d L.length c n Q A _ L _ D5.out (len_self L) hc hll HOK.out RD5.out).mono ?_); rintro e6 w6 ⟨⟨A6, c6, hc6, rfl, hd6⟩, hb6⟩; have B6 : Hid (Below w5.heap.size w5 w6) := ((Below.refl _ _).drew).trans hb6; obtain ⟨p0, p1, p2⟩ := (BX5.out.below B6.out).cells; have f0 := Blk.frozen (BX5.out.below B6.out) 0; have f1 := Blk.frozen (BX5.out.below B6.out) 1; have f2 := Blk.frozen (BX5.out.below B6.out) 2; have PR6 := Lib.hid (HPUT.out A6 c6 w6 B6.out hc6 hd6); clear hb6 hd6)
            all_goals
              go_wp2_with fail
              go_meet
              case rel => exact ⟨_, _, rfl, rfl, PR6.out⟩
          · have hts : t = 3 ∨ t = 4 := by omega
            rcases hts with rfl | rfl
            · obtain ⟨L2, o, hp⟩ := picks_any (show 1 ≤ Q by omega) (hdOf hs) L
              have HPK := Lib.hid hp
              clear hp
              rcases o with _ | kk
              · go_upto_region 16 with (go_at_call 16; (with_reducible refine (HP.out.pick _ g n Q B0 hs.length C0 hs L L2 none _ AT.out RM.out (len_self hs) V3.out HNB.out HPK.out).mono ?_); rintro e5 w5 ⟨rfl, hr5, hf5⟩; obtain ⟨d, m1, m2, m3, m4, m5⟩ := HM.out _ w5 hr5 hf5; have BX5 := Lib.hid m1; have D5 : Hid (DocAt d w5.drew A L) := m2.below ((Below.refl _ _).drew); have RD5 : Hid (∀ k, w5.drew.heap.size ≤ k → d k) := m3; have W5 := Lib.hid m4; have V5 : Hid (Vals w5.drew B0 hs.length (ints hs)) := HV0.out.below m4.drew; have HPUT := Lib.hid m5; have hcc5 := keep9 m4 HCC.out; obtain ⟨q0, q1, q2⟩ := m1.cells; clear hr5 hf5 m1 m2 m3 m4 m5)
                rw [addr_two] at hcc5
                go_region_with (go_at_call 17; (with_reducible refine (docPick_ d L.length c n Q A B0 hs.length C0 hs L L2 none _ D5.out (len_self L) hc HOK.out h2 hQ hQ1 (len_self hs) V5.out HPK.out RD5.out).mono ?_); rintro e6 w6 ⟨⟨A6, c6, hc6, rfl, hd6⟩, hb6⟩; have B6 : Hid (Below w5.heap.size w5 w6) := ((Below.refl _ _).drew).trans hb6; obtain ⟨p0, p1, p2⟩ := (BX5.out.below B6.out).cells; have f0 := Blk.frozen (BX5.out.below B6.out) 0; have f1 := Blk.frozen (BX5.out.below B6.out) 1; have f2 := Blk.frozen (BX5.out.below B6.out) 2; have PR6 := Lib.hid (HPUT.out A6 c6 w6 B6.out hc6 hd6); clear hb6 hd6)
                all_goals
                  simp only [told, toldI]
                  go_wp2_with fail
                  go_meet
                  case rel => exact ⟨_, _, rfl, rfl, PR6.out⟩
              · go_upto_region 16 with (go_at_call 16; (with_reducible refine (HP.out.pick _ g n Q B0 hs.length C0 hs L L2 (some kk) _ AT.out RM.out (len_self hs) V3.out HNB.out HPK.out).mono ?_); rintro e5 w5 ⟨rfl, hr5, hf5⟩; obtain ⟨d, m1, m2, m3, m4, m5⟩ := HM.out _ w5 hr5 hf5; have BX5 := Lib.hid m1; have D5 : Hid (DocAt d w5.drew A L) := m2.below ((Below.refl _ _).drew); have RD5 : Hid (∀ k, w5.drew.heap.size ≤ k → d k) := m3; have W5 := Lib.hid m4; have V5 : Hid (Vals w5.drew B0 hs.length (ints hs)) := HV0.out.below m4.drew; have HPUT := Lib.hid m5; have hcc5 := keep9 m4 HCC.out; obtain ⟨q0, q1, q2⟩ := m1.cells; clear hr5 hf5 m1 m2 m3 m4 m5)
                rw [addr_two] at hcc5
                go_region_with (go_at_call 17; (with_reducible refine (docPick_ d L.length c n Q A B0 hs.length C0 hs L L2 (some kk) _ D5.out (len_self L) hc HOK.out h2 hQ hQ1 (len_self hs) V5.out HPK.out RD5.out).mono ?_); rintro e6 w6 ⟨⟨A6, c6, hc6, rfl, hd6⟩, hb6⟩; have B6 : Hid (Below w5.heap.size w5 w6) := ((Below.refl _ _).drew).trans hb6; obtain ⟨p0, p1, p2⟩ := (BX5.out.below B6.out).cells; have f0 := Blk.frozen (BX5.out.below B6.out) 0; have f1 := Blk.frozen (BX5.out.below B6.out) 1; have f2 := Blk.frozen (BX5.out.below B6.out) 2; have PR6 := Lib.hid (HPUT.out A6 c6 w6 B6.out hc6 hd6); clear hb6 hd6)
                all_goals
                  simp only [told, toldI]
                  go_wp2_with fail
                  go_meet
                  case rel => exact ⟨_, _, rfl, rfl, PR6.out⟩
            · obtain ⟨L2, o, hp⟩ := picks_any (show 1 ≤ Q by omega) (hdOf hs) L
              have HPK := Lib.hid hp
              clear hp
              rcases o with _ | kk
              · go_upto_region 16 with (go_at_call 16; (with_reducible refine (HP.out.pick _ g n Q B0 hs.length C0 hs L L2 none _ AT.out RM.out (len_self hs) V3.out HNB.out HPK.out).mono ?_); rintro e5 w5 ⟨rfl, hr5, hf5⟩; obtain ⟨d, m1, m2, m3, m4, m5⟩ := HM.out _ w5 hr5 hf5; have BX5 := Lib.hid m1; have D5 : Hid (DocAt d w5.drew A L) := m2.below ((Below.refl _ _).drew); have RD5 : Hid (∀ k, w5.drew.heap.size ≤ k → d k) := m3; have W5 := Lib.hid m4; have V5 : Hid (Vals w5.drew B0 hs.length (ints hs)) := HV0.out.below m4.drew; have HPUT := Lib.hid m5; have hcc5 := keep9 m4 HCC.out; obtain ⟨q0, q1, q2⟩ := m1.cells; clear hr5 hf5 m1 m2 m3 m4 m5)
                rw [addr_two] at hcc5
                go_region_with (go_at_call 17; (with_reducible refine (docPick_ d L.length c n Q A B0 hs.length C0 hs L L2 none _ D5.out (len_self L) hc HOK.out h2 hQ hQ1 (len_self hs) V5.out HPK.out RD5.out).mono ?_); rintro e6 w6 ⟨⟨A6, c6, hc6, rfl, hd6⟩, hb6⟩; have B6 : Hid (Below w5.heap.size w5 w6) := ((Below.refl _ _).drew).trans hb6; obtain ⟨p0, p1, p2⟩ := (BX5.out.below B6.out).cells; have f0 := Blk.frozen (BX5.out.below B6.out) 0; have f1 := Blk.frozen (BX5.out.below B6.out) 1; have f2 := Blk.frozen (BX5.out.below B6.out) 2; have PR6 := Lib.hid (HPUT.out A6 c6 w6 B6.out hc6 hd6); clear hb6 hd6)
                all_goals
                  simp only [told, toldI]
                  go_wp2_with fail
                  go_meet
                  case rel => exact ⟨_, _, rfl, rfl, PR6.out⟩
              · go_upto_region 16 with (go_at_call 16; (with_reducible refine (HP.out.pick _ g n Q B0 hs.length C0 hs L L2 (some kk) _ AT.out RM.out (len_self hs) V3.out HNB.out HPK.out).mono ?_); rintro e5 w5 ⟨rfl, hr5, hf5⟩; obtain ⟨d, m1, m2, m3, m4, m5⟩ := HM.out _ w5 hr5 hf5; have BX5 := Lib.hid m1; have D5 : Hid (DocAt d w5.drew A L) := m2.below ((Below.refl _ _).drew); have RD5 : Hid (∀ k, w5.drew.heap.size ≤ k → d k) := m3; have W5 := Lib.hid m4; have V5 : Hid (Vals w5.drew B0 hs.length (ints hs)) := HV0.out.below m4.drew; have HPUT := Lib.hid m5; have hcc5 := keep9 m4 HCC.out; obtain ⟨q0, q1, q2⟩ := m1.cells; clear hr5 hf5 m1 m2 m3 m4 m5)
                rw [addr_two] at hcc5
                go_region_with (go_at_call 17; (with_reducible refine (docPick_ d L.length c n Q A B0 hs.length C0 hs L L2 (some kk) _ D5.out (len_self L) hc HOK.out h2 hQ hQ1 (len_self hs) V5.out HPK.out RD5.out).mono ?_); rintro e6 w6 ⟨⟨A6, c6, hc6, rfl, hd6⟩, hb6⟩; have B6 : Hid (Below w5.heap.size w5 w6) := ((Below.refl _ _).drew).trans hb6; obtain ⟨p0, p1, p2⟩ := (BX5.out.below B6.out).cells; have f0 := Blk.frozen (BX5.out.below B6.out) 0; have f1 := Blk.frozen (BX5.out.below B6.out) 1; have f2 := Blk.frozen (BX5.out.below B6.out) 2; have PR6 := Lib.hid (HPUT.out A6 c6 w6 B6.out hc6 hd6); clear hb6 hd6)
                all_goals
                  simp only [told, toldI]
                  go_wp2_with fail
                  go_meet
                  case rel => exact ⟨_, _, rfl, rfl, PR6.out⟩
      case rest =>
        obtain ⟨bo, L', rfl, rfl, hr'⟩ := hcut
        have P9 := Lib.hid hr'
        obtain ⟨b2, d2, A2, c2, hat2, hbx2, hdoc2⟩ := hr'.read
        have AT9 : Hid (At b2 wc.drew g n Q L') := HP.out.below hat2 ((Below.refl _ _).drew)
        have BX9 := Lib.hid hbx2
        have DC9 := Lib.hid hdoc2
        have hll2 : L'.length ≤ 129 := Nat.le_trans (names_lt (HP.out.ok hat2)) h2
        clear hr' hat2 hbx2 hdoc2 AT RM HM HOK hll HNB HWY V3 HV0 HCB HCC HBL R3 W3 hca' hcb' hcc'
        go_wp2_with fail
        go_region_held3 (fun W => W.cell? ⟨h, 0, none⟩ = some (.int .i64 (n : Nat)) ∧ W.cell? ⟨h, 1, none⟩ = some (.int .i64 (Q : Nat)) ∧ W.cell? ⟨h, 2, none⟩ = some (.slice A2 L'.length c2))
          (first | exact BX9.out.kept ((Below.refl _ _).drew) | exact BX9.out.kept D3.out | exact BX9.out.kept D2.out | exact BX9.out.kept D1.out)
          (first | (go_at_call 12; (with_reducible refine (HP.out.awake b2 g n Q L' _ AT9.out).mono ?_); rintro e5 w9 ⟨⟨A9, c9, rfl, hv9, _⟩, hb⟩; have V9 := Lib.hid hv9; have D1 : Hid (Below wc.heap.size wc w9) := ((Below.refl _ _).drew).trans hb; clear hb hv9) | (go_at_call 19; (with_reducible refine (docAwake_ d2 L'.length c2 n Q A2 L' _ (DC9.out.below D1.out) (len_self L') hll2).mono ?_); rintro e6 w10 ⟨⟨Z10, c10, rfl, hv10⟩, hb⟩; have V10 := Lib.hid hv10; have V9' := Lib.hid (V9.out.below hb); have D2 : Hid (Below wc.heap.size wc w10) := D1.out.trans (hb.mono D1.out.size); clear hb hv10) | (go_at_call 18; (with_reducible refine (ints_alike A9 Z10 L'.length _ _ (who L') _ (by omega) V9'.out V10.out).mono ?_); rintro e7 w11 ⟨rfl, hb⟩; have D3 : Hid (Below wc.heap.size wc w11) := D2.out.trans (hb.mono D2.out.size); clear hb))
        have P10 := Lib.hid (P9.out.below HP.out D3.out)
        clear P9 BX9 DC9 AT9 V9 V9' V10 D1 D2 D3
        go_wp2_with fail
        go_loopw [16] (fun v w' => ∃ ci : Int, -1 ≤ ci ∧ ci ≤ 21 ∧ v = .int .i64 ci ∧ PR At w g h n Q L' w') (fun v _ => ((22 : Int) - intOf v).toNat)
        case atStart => exact ⟨-1, by omega, by omega, rfl, P10.out⟩
        case round =>
          clear P10
          obtain ⟨ci, hc0, hc1, rfl, hr'⟩ := hrel
          have P11 := Lib.hid hr'
          obtain ⟨b2, d2, A2, c2, hat2, hbx2, hdoc2⟩ := hr'.read
          have AT11 : Hid (At b2 wr.drew g n Q L') := HP.out.below hat2 ((Below.refl _ _).drew)
          have BX11 := Lib.hid hbx2
          have DC11 := Lib.hid hdoc2
          clear hr' hat2 hbx2 hdoc2
          by_cases hle : ci ≤ min (n : Int) 20
          · have hd7 : decide (ci ≤ min (n : Int) 20) = true := by simpa using hle
            have hle2 : ci ≤ 20 := by omega
            go_wp2_with fail
            go_region_held3 (fun W => W.cell? ⟨h, 0, none⟩ = some (.int .i64 (n : Nat)) ∧ W.cell? ⟨h, 1, none⟩ = some (.int .i64 (Q : Nat)) ∧ W.cell? ⟨h, 2, none⟩ = some (.slice A2 L'.length c2))
              (first | exact BX11.out.kept ((Below.refl _ _).drew) | exact BX11.out.kept D2.out | exact BX11.out.kept D1.out)
              (first | (go_at_call 20; (with_reducible refine (HP.out.deficit b2 g n Q _ L' _ AT11.out).mono ?_); rintro e5 w9 ⟨rfl, hb⟩; have D1 : Hid (Below wr.heap.size wr w9) := ((Below.refl _ _).drew).trans hb; clear hb) | (go_at_call 21; (with_reducible refine (docDef_ d2 L'.length c2 n Q A2 _ L' _ (DC11.out.below D1.out) (len_self L') hll2).mono ?_); rintro e6 w10 ⟨rfl, hb⟩; have D2 : Hid (Below wr.heap.size wr w10) := D1.out.trans (hb.mono D1.out.size); clear hb))
            have P12 := Lib.hid (P11.out.below HP.out D2.out)
            go_wp2_with fail
            go_roundw
            case rel => exact ⟨ci + 1, by omega, by omega, by go_num, P12.out⟩
            case measure => simp [intOf]; omega
          · have hd7 : decide (ci ≤ min (n : Int) 20) = false := by simpa using hle
            clear hle
            go_wp2_with fail
            go_roundw
            case rel => exact ⟨k + 1, L', by omega, by go_num, P11.out⟩
            case measure => simp [intOf]; omega
    · obtain rfl : k = r := by omega
      have hd5 : decide ((k : Int) < (k : Int)) = false := by simp
      go_wp2_with fail
      go_ret
      exact ⟨rfl, W3.out⟩
end
end Go.Proofs.Ytknalphhnicffaa
