/- The walk of TablePlays where there is such a room. Conditions: the program's contracts. -/
import Derived.Test.YteddnbabgahhfaaPlaysBad
import Derived.Test.YteddnbabgahhfaaPlayMem
import Derived.Test.YteddnbabgahhfaaDel
import Derived.Test.YteddnbabgahhfaaKs
namespace Go.Proofs.Yteddnbabgahhfaa
open Go.RowKit

theorem size38 (O : Int) (p : Pre) (X : Int) : (Try.prog.info? 38).map (·.size) = some (ac O p X).length := by kernel_rfl
theorem ac_pre {W : World} {bx : Nat} {O X : Int} {p : Pre} (h : Blk W bx 38 (ac O p X)) : W.rangeAt bx 1 p.cs := act_pre (o := 0) (whole_at h)
theorem ac_num {W : World} {bx : Nat} {O X : Int} {p : Pre} (h : Blk W bx 38 (ac O p X)) : W.cell? ⟨bx, 9, none⟩ = some (.int .i64 X) := act_num (o := 0) (whole_at h)
theorem ac_kind {W : World} {bx : Nat} {O X : Int} {p : Pre} (h : Blk W bx 38 (ac O p X)) : W.cell? ⟨bx, 0, none⟩ = some (.int .u8 O) := act_kind (o := 0) (whole_at h)
/-- What Find and Get tell of p. -/
structure Told (L : List Ent) (p : Pre) (f v : Int) (t : Bool) : Prop where
  fd : fnd L p = f
  vl : val L p = v
  hs : has L p = t
  ge : decide (0 ≤ f) = t
  no : t = false → f = -1 ∧ v = 0
  yes : t = true → ∃ j : Nat, f = j ∧ j < L.length ∧ v = (at_ L j).v
theorem told_ (L : List Ent) (p : Pre) : ∃ f v t, Told L p f v t := by
  refine ⟨_, _, _, rfl, rfl, rfl, ?_, fun h => ⟨fnd_not h, val_not h⟩, fun h => ⟨idx L p, fnd_has h, has_iff.1 h, by simp [val, h]⟩⟩
  rcases h : has L p with _ | _
  · rw [fnd_not h]; rfl
  · rw [fnd_has h]; simp
set_option maxRecDepth 100000 in
set_option maxHeartbeats 8000000 in
theorem plays_near (hA : ∀ W, Calls Try.prog 7 #[] W (Ans (.bool true) W)) (T : (Nat → Prop) → World → Nat → Int → List Ent → Prop) (P : ProgT T) (r : Int) (A0 : Option Addr) (n c0 : Nat) (O : Nat → Int) (Pf : Nat → Pre) (X : Nat → Int) (w : World) (h1 : 1 ≤ r) (h64 : r ≤ 64) (hn : n ≤ 200) (hin : ActsIn w A0 n O Pf X) :
    Calls Try.prog 3 #[.int .i64 r, .slice A0 n c0] w (Ans (.bool true) w) := by
  have HA := Lib.hid hA
  have HP := Lib.hid P
  have HIN := Lib.hid hin
  have hr1 : ¬ r < 1 := by omega
  have hr2 : ¬ 64 < r := by omega
  clear hA P hin
  go_enter Try.func3, Try.ntmps3
  go_upto_region 4 with (first
    | (go_at_call 7; (with_reducible refine (HA.out w).mono ?_); rintro e w1 ⟨rfl, hb⟩; have B1 := Lib.hid hb; clear hb)
    | (go_at_call 8; (with_reducible refine (At.new HP.out B1.out h1 h64).mono ?_); rintro e w2 ⟨g, rfl, ha⟩; have A2 := Lib.hid ha; clear ha))
  clear B1 HA
  have R0 : Hid (PR T w g r [] none 0 nobody w2) := ⟨Els.nil, Nat.le_refl _, A2.out.less (fun j e => by
    rcases e with ⟨_, e, _⟩ | e
    · cases e
    · exact e), Oks.nil, Uni.nil, by simp; omega⟩
  clear A2
  go_wp2_with fail
  go_loopw [7, 8, 9, 10, 11, 12, 13, 14, 15, 16, 17, 68] (fun v _ _ _ _ _ _ _ _ _ _ i w' => ∃ (k : Nat) (L : List Ent) (A : Option Addr) (c : Nat), k ≤ n ∧ i = .int .i64 k ∧ v = .slice A L.length c ∧ PR T w g r L A c nobody w') (fun _ _ _ _ _ _ _ _ _ _ _ i _ => n - (intOf i).toNat)
  case atStart => exact ⟨0, [], none, 0, by omega, rfl, rfl, R0.out⟩
  case round =>
    clear R0
    obtain ⟨k, L, A, c, hk, rfl, rfl, hpr⟩ := hrel
    have R1 := Lib.hid hpr
    clear hpr
    by_cases hlt : k < n
    · obtain ⟨b, o, hA0, hs0, hp, hO, hX⟩ := HIN.out k hlt
      subst hA0
      have hs1 : w.rangeAt b (o + k * 10) (ac (O k) (Pf k) (X k)) := hs0
      have HS : Hid (wr.rangeAt b (o + k * 10) (ac (O k) (Pf k) (X k))) := range_below hs1 (Nat.le_refl _) R1.out.tab.be
      generalize Pf k = p at *
      generalize O k = K0 at *
      generalize X k = N0 at *
      have HOK := Lib.hid (And.intro hp hX)
      have HV : Hid (i64 N0) := hX
      have hb0 : Hid (Blk (wr.alloc (.cells (ac 0 pre0 0).toArray 38)) wr.heap.size 38 (ac 0 pre0 0)) := Blk.new wr 38 _
      have hall : (ac K0 p N0).toArray.all (·.oneCell') = true := all_oneCell_toArray (ac_each _ _ _)
      have hbx := R1.out.tab.be.size
      clear hs0 hs1 hp hX
      go_upto_region 10 with fail
      go_upto_region 11 with (first | (refine wpList_loadE (by rfl) 38 _ Try.underlying38 rfl (.tmp 73) rfl b (o + k * 10) rfl _ HS.out (size38 _ _ _) ?_) | (refine wpList_lay rfl 38 10 (size38 K0 p N0) (.tmp 9) (.tmp 74) rfl _ (ac K0 p N0) rfl rfl 38 (ac 0 pre0 0) hb0.out rfl rfl hall ?_; intro w4 hB4 hF4; have X4 : Hid (Blk w4 wr.heap.size 38 (ac K0 p N0)) := hB4; have R4 : Hid (PR T w g r L A c (only wr.heap.size) w4) := R1.out.more HP.out (below_only ((Below.refl _ wr).alloc (Nat.le_refl _) _) hF4.out (Nat.le_refl _) (by simp)) hB4.out.lt; clear hB4 hF4))
      clear hb0 hall HS R1
      generalize wr.heap.size = bx at *
      obtain ⟨f, v0, t, htd⟩ := told_ L p
      have TD := Lib.hid htd
      have hsz := R4.out.size h64
      clear htd
      go_upto_region 13 with (first
        | (refine wpList_pre (by rfl) (.tmp 76) rfl bx 1 rfl p (ac_pre X4.out) ?_)
        | (go_at_call 13; (with_reducible refine (find_ A c L p _ R4.out.els R4.out.ok HOK.out.1 (by omega)).mono ?_); rintro e w5 ⟨rfl, hb⟩; rw [TD.out.fd]; have R5 := Lib.hid (R4.out.below HP.out hb); have X5 := Lib.hid (X4.out.below hb); clear hb)
        | (refine wpList_pre (by rfl) (.tmp 81) rfl bx 1 rfl p (ac_pre X5.out) ?_)
        | (go_at_call 14; (with_reducible refine (R5.out.tab.get HP.out R5.out.ok HOK.out.1).mono ?_); rintro e w6 ⟨rfl, ha, hf⟩; rw [TD.out.vl, TD.out.hs]; have R6 : Hid (PR T w g r L A c (only bx) w6) := ⟨els_act R5.out.els hf, R5.out.cap, ha, R5.out.ok, R5.out.uni, R5.out.fit⟩; have X6 := Lib.hid (blk_act X5.out hf); clear ha hf))
      clear X4 R4 X5 R5
      have hge := TD.out.ge
      go_cut [109] from 86 to 109 (fun u wx => u = .bool false ∧ wx = w6)
      case first =>
        rcases ht : t with _ | _
        · obtain ⟨hf, hv⟩ := TD.out.no ht
          subst hf hv ht
          clear hge
          go_wp2_with fail
          go_meet
          case rel => exact ⟨rfl, rfl⟩
        · obtain ⟨j, hf, hj, hv⟩ := TD.out.yes ht
          obtain ⟨q, o', hA, hs0⟩ := R6.out.els j _ (at_some hj)
          subst hA
          have c8 : w6.cell? ⟨q, o' + j * 9 + 8, none⟩ = some (.int .i64 v0) := hv ▸ range_num (s := at_ L j) hs0
          subst hf ht
          clear hge hs0 hv
          generalize L.length = l at *
          go_wp2_with fail
          go_meet
          case rel => exact ⟨rfl, rfl⟩
      case rest =>
        obtain ⟨rfl, rfl⟩ := hcut
        have c6 := ac_kind X6.out
        go_upto_if 113 with (fail)
        go_cut [7, 13, 14, 113] from 114 to 139 (fun v o i _ wx => ∃ (bo : Bool) (L' : List Ent) (A' : Option Addr) (c' : Nat), v = .slice A' L'.length c' ∧ o = .bool bo ∧ i = .bool bo ∧ PR T w g r L' A' c' (only bx) wx ∧ Blk wx bx 38 (ac K0 p N0))
        case first =>
          clear hO
          by_cases hkd : K0 % 3 < 2
          · have c9 := ac_num X6.out
            go_wp2_with (first
              | (refine wpList_pre (by rfl) (.tmp 115) rfl bx 1 rfl p (ac_pre X6.out) ?_)
              | (go_at_call 9; (with_reducible refine (R6.out.tab.put HP.out R6.out.ok HOK.out.1 (v := N0) HV.out).mono ?_); rintro e w7 ⟨rfl, ha, hf⟩; have T7 := Lib.hid ha; have E7 := Lib.hid (els_act R6.out.els hf); have X7 := Lib.hid (blk_act X6.out hf); have d9 := ac_num X7.out; clear ha hf)
              | (refine wpList_pre (by rfl) (.tmp 123) rfl bx 1 rfl p (ac_pre X7.out) ?_)
              | (go_at_call 15; (with_reducible refine (put_ A c L r N0 p _ E7.out R6.out.ok HOK.out.1 R6.out.cap (by omega)).mono ?_); rintro e w8 ⟨A', c', rfl, hc', hE', hb', hfr⟩; have R8 := Lib.hid (PR.next HP.out T7.out hb' hE' hc' hfr (R6.out.ok.put_ HOK.out.1 HOK.out.2) R6.out.uni.put_ (put_length R6.out.fit)); have X8 := Lib.hid (X7.out.below hb'); clear hc' hE' hb' hfr))
            go_meet
            case rel => exact ⟨_, _, _, _, rfl, rfl, rfl, R8.out, X8.out⟩
          · have hge := TD.out.ge
            go_wp2_with (first
              | (refine wpList_pre (by rfl) (.tmp 131) rfl bx 1 rfl p (ac_pre X6.out) ?_)
              | (go_at_call 12; (with_reducible refine (R6.out.tab.del HP.out R6.out.ok HOK.out.1).mono ?_); rintro e w7 ⟨rfl, ha, hf⟩; rw [TD.out.hs]; have T7 := Lib.hid ha; have E7 := Lib.hid (els_act R6.out.els hf); have X7 := Lib.hid (blk_act X6.out hf); clear ha hf)
              | (refine wpList_pre (by rfl) (.tmp 137) rfl bx 1 rfl p (ac_pre X7.out) ?_)
              | (go_at_call 16; (with_reducible refine (del_ A c L p _ E7.out R6.out.ok HOK.out.1 R6.out.cap (by omega)).mono ?_); rintro e w8 ⟨A', c', rfl, hc', hE', hb', hfr⟩; have R8 := Lib.hid (PR.next HP.out T7.out hb' hE' hc' hfr R6.out.ok.del_ R6.out.uni.del_ (by have := del_length (L := L) (p := p); have := R6.out.fit; omega)); have X8 := Lib.hid (X7.out.below hb'); clear hc' hE' hb' hfr))
            go_meet
            case rel => exact ⟨_, _, _, _, rfl, rfl, rfl, R8.out, X8.out⟩
        case rest =>
          obtain ⟨bo, L', A', c', rfl, rfl, rfl, hr8, hx8⟩ := hcut
          have R8 := Lib.hid hr8
          clear hr8 hx8 R6 X6 TD c6 hsz hge
          have hsz := R8.out.size h64
          have HSM := Lib.hid (fun A1 A2 c1 c2 W h h' => same_ A1 A2 c1 c2 (pres L') (pres L') W h h' (fun q hq => by obtain ⟨s, hs, rfl⟩ := List.mem_map.1 hq; exact (R8.out.ok s hs).1) (fun q hq => by obtain ⟨s, hs, rfl⟩ := List.mem_map.1 hq; exact (R8.out.ok s hs).1) (by simp [pres]; omega))
          rw [decide_eq_true (rfl : pres L' = pres L')] at HSM
          go_upto_region 23 with (first
            | (go_at_call 10; (with_reducible refine (R8.out.tab.len HP.out).mono ?_); rintro e w9 ⟨rfl, ha, hf⟩; have R9 : Hid (PR T w g r L' A' c' (only bx) w9) := ⟨els_act R8.out.els hf, R8.out.cap, ha, R8.out.ok, R8.out.uni, R8.out.fit⟩; clear ha hf)
            | (go_at_call 11; (with_reducible refine (R9.out.tab.all HP.out R9.out.ok).mono ?_); rintro e w10 ⟨⟨A1, c1, rfl, _, hE1, hb1⟩, _⟩; have R10 := Lib.hid (R9.out.below HP.out hb1); have E10 := Lib.hid hE1; clear hE1 hb1)
            | (go_at_call 18; (with_reducible refine (prefixes_ A' c' L' _ R10.out.els (by omega)).mono ?_); rintro e w11 ⟨A2, c2, rfl, _, hE2, hb2⟩; have R11 := Lib.hid (R10.out.below HP.out hb2); have E11 := Lib.hid (E10.out.below hb2); have G11 := Lib.hid hE2; clear hE2 hb2)
            | (go_at_call 17; (with_reducible refine (HSM.out _ _ _ _ _ E11.out G11.out).mono ?_); rintro e w12 ⟨rfl, hb3⟩; have R12 := Lib.hid (R11.out.below HP.out hb3); clear hb3))
          clear R8 R9 R10 R11 E10 E11 G11 HSM
          go_wp2_with fail
          go_loopw [15, 16, 17, 160] (fun _ _ _ i w' => ∃ j : Nat, j ≤ L'.length ∧ i = .int .i64 j ∧ PR T w g r L' A' c' (only bx) w') (fun _ _ _ i _ => L'.length - (intOf i).toNat)
          case atStart => exact ⟨0, by omega, rfl, R12.out⟩
          case round =>
            clear R12
            obtain ⟨j, hj, rfl, hpr⟩ := hrel
            have R1 := Lib.hid hpr
            clear hpr
            by_cases hjl : j < L'.length
            · obtain ⟨q, o', hA', hs0⟩ := R1.out.els j _ (at_some hjl)
              subst hA'
              have HPJ := Lib.hid (range_pre hs0)
              have HNJ : Hid (∀ W, Els kEnt W (some ⟨q, o', none⟩) L' → W.cell? ⟨q, o' + j * 9 + 8, none⟩ = some (.int .i64 (at_ L' j).v)) := fun W hW => by
                have := els_val (K := kEnt) rfl hW hjl (u := .int .i64 (at_ L' j).v) rfl
                exact this
              have HU := Lib.hid (R1.out.uni.val_ hjl)
              have HJO := Lib.hid (R1.out.ok.at_ hjl)
              obtain ⟨u, hu⟩ : ∃ u, (at_ L' j).v = u := ⟨_, rfl⟩
              rw [hu] at HU HNJ
              generalize (at_ L' j).p = pj at *
              clear hs0 hu
              obtain ⟨m, hm⟩ : ∃ m, L'.length = m := ⟨_, rfl⟩
              have hjm : j < m := hm ▸ hjl
              have HM := Lib.hid hm
              rw [hm]
              clear hm hjl
              go_wp2_with (first
                | (refine wpList_pre (by rfl) (.tmp 168) rfl q (o' + j * 9) rfl pj HPJ.out ?_)
                | (go_at_call 14; (with_reducible refine (R1.out.tab.get HP.out R1.out.ok HJO.out).mono ?_); rintro e w2 ⟨rfl, ha, hf⟩; rw [HU.out.1, HU.out.2]; have R2 : Hid (PR T w g r L' _ c' (only bx) w2) := ⟨els_act R1.out.els hf, R1.out.cap, ha, R1.out.ok, R1.out.uni, R1.out.fit⟩; have d8 := HNJ.out _ R2.out.els; clear ha hf))
              go_roundw
              case rel => exact ⟨j + 1, by omega, by go_num, R2.out⟩
              case measure => simp [intOf]; omega
            · go_wp2_with fail
              go_roundw
              case rel => exact ⟨k + 1, L', A', c', by omega, by go_num, rfl, R1.out.fewer⟩
              case measure => simp [intOf]; omega
    · have BE := Lib.hid R1.out.tab.be
      go_wp2
      go_ret
      exact ⟨rfl, BE.out⟩
end Go.Proofs.Yteddnbabgahhfaa
