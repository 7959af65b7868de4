/- The walk of BoxPlays where there is such a box. Conditions: the program's contracts. -/
import Derived.Test.YtpjeeccgpnpokaaPlayAll
import Derived.Test.YtpjeeccgpnpokaaDrop
import Derived.Deep.CutBlock
namespace Go.Proofs.Ytpjeeccgpnpokaa
open Go.RowKit

theorem run_box (C : Cfg) (w : World) : (Instr.build 37 #[(1, .int .i64 C.room), (2, .int .i64 C.term), (3, .int .i64 C.r), (4, .int .i64 C.b)]).run Try.prog w = .ok (.agg (bcs none 0 0 C).toArray) w := run_build w 37 _ _ (by kernel_rfl)
set_option maxRecDepth 100000 in
set_option maxHeartbeats 16000000 in
theorem plays_near (T : Tbl) (P : ProgB T) (C : Cfg) (A0 : Option Addr) (len c0 : Nat) (O : Nat → Int) (Pf : Nat → Pre) (X Y : Nat → Int) (w : World) (hC : C.Ok) (hn : len ≤ 100) (hin : ActsIn w A0 len O Pf X Y) :
    Calls Try.prog 3 #[.int .i64 C.room, .int .i64 C.term, .int .i64 C.r, .int .i64 C.b, .slice A0 len c0] w (Ans (.bool true) w) := by
  have HA := Lib.hid (fun W => awake_ T P W)
  have HP := Lib.hid P
  have HIN := Lib.hid hin
  have HC := Lib.hid hC
  have g1 := hC.room
  have g2 := hC.term
  have g3 := hC.r
  have g4 := hC.b
  have h1 : ¬ C.room < 1 := by omega
  have h2 : ¬ 64 < C.room := by omega
  have h3 : ¬ C.term < 1 := by omega
  have h4 : ¬ 4611686018427387903 < C.term := by omega
  have h5 : ¬ C.r < 0 := by omega
  have h6 : ¬ 1073741824 < C.r := by omega
  have h7 : ¬ C.b < 1 := by omega
  have h8 : ¬ 1073741824 < C.b := by omega
  have HBX := Lib.hid (fun W => run_box C W)
  clear P hin hC g1 g2 g3 g4
  go_enter Try.func3, Try.ntmps3
  go_upto_region 3 with (go_at_call 6; (with_reducible refine (HA.out w).mono ?_); rintro e w1 ⟨rfl, hb⟩; have B1 := Lib.hid hb; clear hb)
  go_upto_region 4 with (go_at_call 7; (with_reducible refine (At.new HP.out B1.out HC.out).mono ?_); rintro e w2 ⟨g, rfl, ha⟩; have A2 := Lib.hid ha; clear ha)
  clear B1
  have hb0 : Hid (Blk (w2.alloc (.cells (bcs none 0 0 ⟨0, 0, 0, 0⟩).toArray 37)) w2.heap.size 37 (bcs none 0 0 ⟨0, 0, 0, 0⟩)) := Blk.new w2 37 _
  go_upto_region 6 with fail
  go_upto_region 7 with (first
    | (refine wpList_build rfl 37 [(1, .tmp 89), (2, .tmp 90), (3, .tmp 91), (4, .tmp 92)] rfl [(1, .int .i64 C.room), (2, .int .i64 C.term), (3, .int .i64 C.r), (4, .int .i64 C.b)] (by rfl) (bcs none 0 0 C) HBX.out ?_)
    | (refine wpList_lay rfl 37 5 size37 (.tmp 13) (.tmp 93) rfl _ (bcs none 0 0 C) rfl rfl 37 _ hb0.out rfl rfl (all_oneCell_toArray (bcs_each _ _ _ _)) ?_; intro w3 hB3 hF3))
  have hz : w2.heap.size < w3.heap.size := hB3.out.lt
  have R0 : Hid (PB T w g w2.heap.size C [] [] none 0 nobody w3) := ⟨(((A2.out.grow HP.out ((Below.refl _ w2).alloc (Nat.le_refl _) (.cells (bcs none 0 0 ⟨0, 0, 0, 0⟩).toArray 37))).far HP.out (S := only w2.heap.size) hF3.out (fun j e => ⟨.inr (by unfold only at e; simp; omega), by have := A2.out.be.size; unfold only at e; omega⟩)).less (fun j e => by
    rcases e with e | e | e
    · exact .inr (by simp; omega)
    · simp at e
    · exact False.elim e)), hB3.out, Els.nil, A2.out.be.size, fun ad e => by simp at e, fun _ h => (by cases h), by have := HC.out.room; simp; omega⟩
  clear hb0 hB3 hF3 A2 HA HBX hz
  generalize w2.heap.size = z at *
  go_wp2_with fail
  go_loopw [12, 14, 15, 16, 17, 18, 96] (fun _ _ _ _ _ _ i w' => ∃ (k : Nat) (L : List Ent) (A : Option Addr) (c : Nat), k ≤ len ∧ i = .int .i64 k ∧ PB T w g z C L L A c nobody w') (fun _ _ _ _ _ _ i _ => len - (intOf i).toNat)
  case atStart => exact ⟨0, [], none, 0, by omega, rfl, R0.out⟩
  case round =>
    clear R0
    obtain ⟨k, L, A, c, hk, rfl, hpb⟩ := hrel
    have R1 := Lib.hid hpb
    clear hpb
    by_cases hlt : k < len
    · obtain ⟨b, o, hA0, hs0, hp, hO, hX, hY⟩ := HIN.out k hlt
      subst hA0
      have hs1 : w.rangeAt b (o + k * 11) (ac (O k) (Pf k) (X k) (Y k)) := hs0
      have HS : Hid (wr.rangeAt b (o + k * 11) (ac (O k) (Pf k) (X k) (Y k))) := range_below hs1 (Nat.le_refl _) R1.out.be
      generalize Pf k = p at *
      generalize O k = K0 at *
      generalize X k = x at *
      generalize Y k = y at *
      have HOK := Lib.hid hp
      have HX : Hid (i64 x) := hX
      have HX2 : Hid (x ≤ 9223372036854775807) := hX.2
      have HY : Hid (i64 y) := hY
      have hb0 : Hid (Blk (wr.alloc (.cells (ac 0 pre0 0 0).toArray 39)) wr.heap.size 39 (ac 0 pre0 0 0)) := Blk.new wr 39 _
      have hall : (ac K0 p x y).toArray.all (·.oneCell') = true := all_oneCell_toArray (ac_each _ _ _ _)
      clear hs0 hs1 hp
      go_upto_region 10 with fail
      go_upto_region 11 with (first | (refine wpList_loadE (by rfl) 39 _ Try.underlying39 rfl (.tmp 101) rfl b (o + k * 11) rfl _ HS.out (size39 _ _ _ _) ?_) | (refine wpList_lay rfl 39 11 (size39 K0 p x y) (.tmp 15) (.tmp 102) rfl _ (ac K0 p x y) rfl rfl 39 (ac 0 pre0 0 0) hb0.out rfl rfl hall ?_; intro w4 hB4 hF4; have X4 : Hid (Blk w4 wr.heap.size 39 (ac K0 p x y)) := hB4; have R4 : Hid (PB T w g z C L L A c (only wr.heap.size) w4) := R1.out.more HP.out (below_only ((Below.refl _ wr).alloc (Nat.le_refl _) _) hF4.out (Nat.le_refl _) (by simp)) hB4.out.lt; clear hB4 hF4))
      clear hb0 hall HS R1
      generalize wr.heap.size = bx at *
      have c0 := ac_kind X4.out
      have c1 := ac_now X4.out
      have c2 := ac_num X4.out
      obtain ⟨r, hr⟩ : ∃ r, K0 % 7 = r := ⟨_, rfl⟩
      have hr7 : K0.tmod 7 = r := by rw [Int.tmod_eq_emod_of_nonneg hO.1, hr]
      have hrb : 0 ≤ r ∧ r < 7 := by omega
      have HXZ0 : bx ≠ z := by
        show ¬ _
        rintro rfl
        have h1 : w4.heap[bx]? = _ := R4.out.box
        have h2 : w4.heap[bx]? = _ := X4.out
        rw [h1] at h2
        injection h2 with h2
        injection h2 with _ h2
        cases h2
      have HXZ := Lib.hid HXZ0
      clear hr HXZ0
      go_upto_block 2 with fail
      go_cut [12, 16, 17, 18, 105] from 106 to 182 (fun _ o i _ _ wx => ∃ (bo : Bool) (L' : List Ent) (A' : Option Addr) (c' : Nat), o = .bool bo ∧ i = .bool bo ∧ (r = 6 → bo = true) ∧ PB T w g z C L' L' A' c' (only bx) wx ∧ Blk wx bx 39 (ac K0 p x y))
      case first =>
        rcases (show (r = 0 ∨ r = 1) ∨ r = 2 ∨ (r = 3 ∨ r = 4) ∨ r = 5 ∨ r = 6 by omega) with h01 | rfl | h01 | rfl | rfl
        · go_upto_if 106 with fail
          go_cut [106] from 107 to 108 (fun v wx => v = .bool true ∧ w4 = wx)
          case first =>
            rcases h01 with rfl | rfl
            · go_wp2_with fail
              go_meet
              case rel => exact ⟨rfl, rfl⟩
            · go_wp2_with fail
              go_meet
              case rel => exact ⟨rfl, rfl⟩
          case rest =>
          obtain ⟨rfl, rfl⟩ := hcut
          obtain ⟨pe, hpe⟩ : ∃ u, putE C (swp L x) p = u := ⟨_, rfl⟩
          go_upto_region 17 with (first
            | (refine wpList_pre (by rfl) (.tmp 110) rfl bx 1 rfl p (ac_pre X4.out) ?_)
            | (go_at_call 8; (with_reducible refine (R4.out.tab.put HP.out HC.out R4.out.ok HOK.out HX.out).mono ?_); rintro e w5 hact; have R5 := Lib.hid (R4.out.act hact); obtain ⟨rfl, _, hf⟩ := hact; rw [hpe]; have X5 := Lib.hid (PB.blk X4.out hf); clear hf))
          clear c0 c1 c2 R4 X4
          have c1 := ac_now X5.out
          go_upto_region 18 with (first
            | (refine wpList_loadE (by rfl) 37 _ Try.underlying37 rfl (.tmp 13) rfl z 0 rfl _ (whole_at R5.out.box) size37 ?_)
            | (refine wpList_pre (by rfl) (.tmp 117) rfl bx 1 rfl p (ac_pre X5.out) ?_)
            | (go_at_call 11; (with_reducible refine (put_ A c L C p x _ R5.out.els R5.out.ok HOK.out HC.out (R5.out.small HC.out)).mono ?_); rintro e w6 ⟨A', c', rfl, hc', hE', hb', hfr'⟩; rw [hpe])
            | (refine wpList_lay rfl 37 5 size37 (.tmp 13) (.tmp 122) rfl _ (bcs A' (putS C (swp L x) p x).length c' C) rfl rfl 37 _ (R5.out.box.below hb') rfl rfl (all_oneCell_toArray (bcs_each _ _ _ _)) ?_; intro w7 hB7 hF7; have X7 := Lib.hid ((X5.out.below hb').far hF7.out (fun e => HXZ.out e)); have R7 := Lib.hid (R5.out.doc HP.out hE' hb' hfr' hB7.out hF7.out ((R5.out.ok.swp x).put HC.out HOK.out HX.out) (putS_len (by have := swp_len L x; have := R5.out.len; omega))); clear hE' hb' hfr' hc' hB7 hF7))
          clear R5 X5 hpe c1
          go_wp2_with fail
          go_meet
          case rel => exact ⟨true, (putS C (swp L x) p x), A', c', rfl, rfl, (fun h => by omega), R7.out, X7.out⟩
        · obtain ⟨kb, hh⟩ : ∃ b, has (swp L x) p = b := ⟨_, rfl⟩
          go_upto_region 21 with (first
            | (refine wpList_pre (by rfl) (.tmp 130) rfl bx 1 rfl p (ac_pre X4.out) ?_)
            | (go_at_call 9; (with_reducible refine (R4.out.tab.inn HP.out HC.out R4.out.ok HOK.out HX.out).mono ?_); rintro e w5 hact; have R5 := Lib.hid (R4.out.act hact); obtain ⟨rfl, _, hf⟩ := hact; rw [hh]; have X5 := Lib.hid (PB.blk X4.out hf); clear hf))
          clear c0 c1 c2 R4 X4
          have c1 := ac_now X5.out
          go_upto_region 22 with (first
            | (refine wpList_loadE (by rfl) 37 _ Try.underlying37 rfl (.tmp 13) rfl z 0 rfl _ (whole_at R5.out.box) size37 ?_)
            | (go_at_call 12; (with_reducible refine (sweep_ A c L C x _ R5.out.els (R5.out.small HC.out)).mono ?_); rintro e w6 ⟨A', c', rfl, hc', hE', hb', hfr'⟩)
            | (refine wpList_lay rfl 37 5 size37 (.tmp 13) (.tmp 138) rfl _ (bcs A' (swp L x).length c' C) rfl rfl 37 _ (R5.out.box.below hb') rfl rfl (all_oneCell_toArray (bcs_each _ _ _ _)) ?_; intro w7 hB7 hF7; have X7 := Lib.hid ((X5.out.below hb').far hF7.out (fun e => HXZ.out e)); have R7 := Lib.hid (R5.out.doc HP.out hE' hb' hfr' hB7.out hF7.out ((R5.out.ok.swp x)) (by have := swp_len L x; have := R5.out.len; skip; omega)); clear hE' hb' hfr' hc' hB7 hF7))
          clear R5 X5 c1
          rcases kb with _ | _
          · have hfd := fnd_not hh
            clear hh
            go_upto_region 23 with (first
              | (refine wpList_loadE (by rfl) 37 _ Try.underlying37 rfl (.tmp 13) rfl z 0 rfl _ (whole_at R7.out.box) size37 ?_)
              | (refine wpList_pre (by rfl) (.tmp 140) rfl bx 1 rfl p (ac_pre X7.out) ?_)
              | (go_at_call 13; (with_reducible refine (find_ A' c' (swp L x) C p _ R7.out.els R7.out.ok HOK.out (R7.out.small HC.out)).mono ?_); rintro e w8 ⟨rfl, hb8⟩; rw [hfd]; have R8 := Lib.hid (R7.out.below HP.out hb8); have X8 := Lib.hid (X7.out.below hb8); clear hb8))
            clear R7 X7 hfd
            go_wp2_with fail
            go_meet
            case rel => exact ⟨false, (swp L x), A', c', rfl, rfl, (fun h => by omega), R8.out, X8.out⟩
          · have hfd := fnd_has hh
            clear hh
            go_upto_region 23 with (first
              | (refine wpList_loadE (by rfl) 37 _ Try.underlying37 rfl (.tmp 13) rfl z 0 rfl _ (whole_at R7.out.box) size37 ?_)
              | (refine wpList_pre (by rfl) (.tmp 140) rfl bx 1 rfl p (ac_pre X7.out) ?_)
              | (go_at_call 13; (with_reducible refine (find_ A' c' (swp L x) C p _ R7.out.els R7.out.ok HOK.out (R7.out.small HC.out)).mono ?_); rintro e w8 ⟨rfl, hb8⟩; rw [hfd]; have R8 := Lib.hid (R7.out.below HP.out hb8); have X8 := Lib.hid (X7.out.below hb8); clear hb8))
            clear R7 X7 hfd
            go_wp2_with fail
            go_meet
            case rel => exact ⟨true, (swp L x), A', c', rfl, rfl, (fun h => by omega), R8.out, X8.out⟩
        · have e0 : (r == 0) = false := by simp; omega
          have e1 : (r == 1) = false := by simp; omega
          have e2 : (r == 2) = false := by simp; omega
          go_upto_if 144 with fail
          go_cut [144] from 145 to 146 (fun v wx => v = .bool true ∧ w4 = wx)
          case first =>
            rcases h01 with rfl | rfl
            · go_wp2_with fail
              go_meet
              case rel => exact ⟨rfl, rfl⟩
            · go_wp2_with fail
              go_meet
              case rel => exact ⟨rfl, rfl⟩
          case rest =>
          obtain ⟨rfl, rfl⟩ := hcut
          obtain ⟨kb, hh⟩ : ∃ b, takeK C (swp L x) p x y = b := ⟨_, rfl⟩
          go_upto_region 26 with (first
            | (refine wpList_pre (by rfl) (.tmp 148) rfl bx 1 rfl p (ac_pre X4.out) ?_)
            | (go_at_call 14; (with_reducible refine (R4.out.tab.take HP.out HC.out R4.out.ok HOK.out HX.out HY.out).mono ?_); rintro e w5 hact; have R5 := Lib.hid (R4.out.act hact); obtain ⟨rfl, _, hf⟩ := hact; rw [hh]; have X5 := Lib.hid (PB.blk X4.out hf); clear hf))
          clear c0 c1 c2 R4 X4
          have c1 := ac_now X5.out
          have c2 := ac_num X5.out
          go_upto_region 27 with (first
            | (refine wpList_loadE (by rfl) 37 _ Try.underlying37 rfl (.tmp 13) rfl z 0 rfl _ (whole_at R5.out.box) size37 ?_)
            | (refine wpList_pre (by rfl) (.tmp 157) rfl bx 1 rfl p (ac_pre X5.out) ?_)
            | (go_at_call 15; (with_reducible refine (take_ A c L C p x y _ R5.out.els R5.out.ok HOK.out HC.out HX2.out (R5.out.small HC.out)).mono ?_); rintro e w6 ⟨A', c', rfl, hc', hE', hb', hfr'⟩; rw [hh])
            | (refine wpList_lay rfl 37 5 size37 (.tmp 13) (.tmp 164) rfl _ (bcs A' (takeS C (swp L x) p x y).length c' C) rfl rfl 37 _ (R5.out.box.below hb') rfl rfl (all_oneCell_toArray (bcs_each _ _ _ _)) ?_; intro w7 hB7 hF7; have X7 := Lib.hid ((X5.out.below hb').far hF7.out (fun e => HXZ.out e)); have R7 := Lib.hid (R5.out.doc HP.out hE' hb' hfr' hB7.out hF7.out ((R5.out.ok.swp x).take HX.out p y) (by have := swp_len L x; have := R5.out.len; rw [takeS_len]; omega)); clear hE' hb' hfr' hc' hB7 hF7))
          clear R5 X5 c1 c2 hh
          go_wp2_with fail
          go_meet
          case rel => exact ⟨kb, (takeS C (swp L x) p x y), A', c', rfl, rfl, (fun h => by omega), R7.out, X7.out⟩
        · obtain ⟨kb, hh⟩ : ∃ b, has (swp L x) p = b := ⟨_, rfl⟩
          go_upto_region 29 with (first
            | (refine wpList_pre (by rfl) (.tmp 169) rfl bx 1 rfl p (ac_pre X4.out) ?_)
            | (go_at_call 16; (with_reducible refine (R4.out.tab.drop HP.out HC.out R4.out.ok HOK.out HX.out).mono ?_); rintro e w5 hact; have R5 := Lib.hid (R4.out.act hact); obtain ⟨rfl, _, hf⟩ := hact; rw [hh]; have X5 := Lib.hid (PB.blk X4.out hf); clear hf))
          clear c0 c1 c2 R4 X4
          have c1 := ac_now X5.out
          have c2 := ac_num X5.out
          go_upto_region 30 with (first
            | (refine wpList_loadE (by rfl) 37 _ Try.underlying37 rfl (.tmp 13) rfl z 0 rfl _ (whole_at R5.out.box) size37 ?_)
            | (refine wpList_pre (by rfl) (.tmp 176) rfl bx 1 rfl p (ac_pre X5.out) ?_)
            | (go_at_call 17; (with_reducible refine (drop_ A c L C p x _ R5.out.els R5.out.ok HOK.out (R5.out.small HC.out)).mono ?_); rintro e w6 ⟨A', c', rfl, hc', hE', hb', hfr'⟩; rw [hh])
            | (refine wpList_lay rfl 37 5 size37 (.tmp 13) (.tmp 181) rfl _ (bcs A' (del (swp L x) p).length c' C) rfl rfl 37 _ (R5.out.box.below hb') rfl rfl (all_oneCell_toArray (bcs_each _ _ _ _)) ?_; intro w7 hB7 hF7; have X7 := Lib.hid ((X5.out.below hb').far hF7.out (fun e => HXZ.out e)); have R7 := Lib.hid (R5.out.doc HP.out hE' hb' hfr' hB7.out hF7.out ((R5.out.ok.swp x).del p) (by have := swp_len L x; have := R5.out.len; have := del_length (L := swp L x) (p := p); omega)); clear hE' hb' hfr' hc' hB7 hF7))
          clear R5 X5 c1 c2 hh
          go_wp2_with fail
          go_meet
          case rel => exact ⟨kb, (del (swp L x) p), A', c', rfl, rfl, (fun h => by omega), R7.out, X7.out⟩
        · go_wp2_with fail
          go_meet
          case rel => exact ⟨true, L, A, c, rfl, rfl, (fun _ => rfl), R4.out, X4.out⟩
      case rest =>
      obtain ⟨bo, L', A', c', rfl, rfl, hbo, hr9, hx9⟩ := hcut
      have R9 := Lib.hid hr9
      have X9 := Lib.hid hx9
      clear hr9 hx9 R4 X4 c0 c1 c2 hO hX hY
      by_cases h6 : r = 6
      · have hbt := hbo h6
        subst hbt
        subst h6
        clear hbo
        have X0 : Hid (Blk wc.drew bx 39 (ac K0 p x y)) := X9.out
        have Q0 : Hid (PB T w g z C L' L' A' c' (only bx) wc.drew) := R9.out.below HP.out (below_drewN (Below.refl _ _) 1)
        have HPS : Hid (∀ p ∈ pres (swp L' x), p.Ok) := pres_oks (R9.out.ok.swp x)
        have HPN : Hid ((pres (swp L' x)).length ≤ 100000) := by
          have h1 := R9.out.small HC.out
          have h2 := swp_len L' x
          show _ ≤ _
          simp only [pres, List.length_map]
          omega
        clear R9 X9
        have HS0 : Hid (Blk wc.drew bx 39 (ac K0 p x y) ∧ Blk wc.drew z 37 (bcs A' L'.length c' C)) := ⟨X0.out, Q0.out.box⟩
        go_wp2_with fail
        refine wp_region_held_drew (S := fun W => Blk W bx 39 (ac K0 p x y) ∧ Blk W z 37 (bcs A' L'.length c' C)) (by kernel_rfl) ?_ (fun _ => ?_)
        · exact HS0.out
        generalize wc.drew = x0 at *
        refine wpAnyH_take (i := 0) (oi := ⟨some 183, _, _, _, _, _⟩) (v := ?_) rfl (by kernel_rfl) (by kernel_rfl) (by kernel_rfl) (fun _ _ _ h => h) (Or.inl ⟨by rfl, ?_⟩) HS0.out ?_
        rotate_left
        · (intro W hSW; clear hSW; go_simp)
          first | done | (with_reducible rfl)
        try simp only [Act.put, List.setIfInBounds_toArray, List.set_cons_zero, List.set_cons_succ]
        refine wpAnyH_take (i := 1) (oi := ⟨some 184, _, _, _, _, _⟩) (v := ?_) rfl (by kernel_rfl) (by kernel_rfl) (by kernel_rfl) (fun _ _ _ h => h) (Or.inl ⟨by rfl, ?_⟩) HS0.out ?_
        rotate_left
        · (intro W hSW; clear hSW; go_simp)
          first | done | (with_reducible rfl)
        try simp only [Act.put, List.setIfInBounds_toArray, List.set_cons_zero, List.set_cons_succ]
        refine wpAnyH_take (i := 2) (oi := ⟨some 185, _, _, _, _, _⟩) (v := .bool false) rfl (by kernel_rfl) (by kernel_rfl) (by kernel_rfl) (fun _ _ _ h => h) (Or.inl ⟨by rfl, ?_⟩) HS0.out ?_
        · (intro W hSW; clear hSW; go_simp)
        try simp only [Act.put, List.setIfInBounds_toArray, List.set_cons_zero, List.set_cons_succ]
        refine wpAnyH_take (i := 3) (oi := ⟨some 186, _, _, _, _, _⟩) (v := ?_) rfl (by kernel_rfl) (by kernel_rfl) (by kernel_rfl) (fun _ _ _ h => h) (Or.inl ⟨by rfl, ?_⟩) HS0.out ?_
        rotate_left
        · (intro W hSW; clear hSW; go_simp)
          first | done | (with_reducible rfl)
        try simp only [Act.put, List.setIfInBounds_toArray, List.set_cons_zero, List.set_cons_succ]
        refine wpAnyH_take (i := 4) (oi := ⟨some 187, _, _, _, _, _⟩) (v := ?_) rfl (by kernel_rfl) (by kernel_rfl) (by kernel_rfl) (fun _ _ _ h => h) (Or.inl ⟨by rfl, ?_⟩) HS0.out ?_
        rotate_left
        · (intro W hSW; clear hSW; go_simp)
          first | done | (with_reducible rfl)
        try simp only [Act.put, List.setIfInBounds_toArray, List.set_cons_zero, List.set_cons_succ]
        refine wpAnyH_take (i := 5) (oi := ⟨some 188, _, _, _, _, _⟩) (v := .int .u8 K0) rfl (by kernel_rfl) (by kernel_rfl) (by kernel_rfl) (fun _ _ _ h => h) (Or.inl ⟨by rfl, ?_⟩) HS0.out ?_
        · (intro W hSW; have hc := ac_kind hSW.1; clear hSW; go_simp)
        try simp only [Act.put, List.setIfInBounds_toArray, List.set_cons_zero, List.set_cons_succ]
        refine wpAnyH_take (i := 6) (oi := ⟨some 189, _, _, _, _, _⟩) (v := .int .u8 6) rfl (by kernel_rfl) (by kernel_rfl) (by kernel_rfl) (fun _ _ _ h => h) (Or.inl ⟨by rfl, ?_⟩) HS0.out ?_
        · (intro W hSW; clear hSW; go_simp)
        try simp only [Act.put, List.setIfInBounds_toArray, List.set_cons_zero, List.set_cons_succ]
        refine wpAnyH_take (i := 7) (oi := ⟨some 190, _, _, _, _, _⟩) (v := .bool true) rfl (by kernel_rfl) (by kernel_rfl) (by kernel_rfl) (fun _ _ _ h => h) (Or.inl ⟨by rfl, ?_⟩) HS0.out ?_
        · (intro W hSW; clear hSW; go_simp)
        try simp only [Act.put, List.setIfInBounds_toArray, List.set_cons_zero, List.set_cons_succ]
        refine wpAnyH_take (i := 8) (oi := ⟨some 191, _, _, _, _, _⟩) (v := ?_) rfl (by kernel_rfl) (by kernel_rfl) (by kernel_rfl) (fun _ _ _ h => h) (Or.inl ⟨by rfl, ?_⟩) HS0.out ?_
        rotate_left
        · (intro W hSW; clear hSW; go_simp)
          first | done | (with_reducible rfl)
        try simp only [Act.put, List.setIfInBounds_toArray, List.set_cons_zero, List.set_cons_succ]
        refine wpAnyH_take (i := 9) (oi := ⟨some 192, _, _, _, _, _⟩) (v := ?_) rfl (by kernel_rfl) (by kernel_rfl) (by kernel_rfl) (fun _ _ _ h => h) (Or.inl ⟨by rfl, ?_⟩) HS0.out ?_
        rotate_left
        · (intro W hSW; clear hSW; go_simp)
          first | done | (with_reducible rfl)
        try simp only [Act.put, List.setIfInBounds_toArray, List.set_cons_zero, List.set_cons_succ]
        refine wpAnyH_take (i := 10) (oi := ⟨some 193, _, _, _, _, _⟩) (v := ?_) rfl (by kernel_rfl) (by kernel_rfl) (by kernel_rfl) (fun _ _ _ h => h) (Or.inl ⟨by rfl, ?_⟩) HS0.out ?_
        rotate_left
        · (intro W hSW; clear hSW; go_simp)
          first | done | (with_reducible rfl)
        try simp only [Act.put, List.setIfInBounds_toArray, List.set_cons_zero, List.set_cons_succ]
        refine wpAnyH_take (i := 11) (oi := ⟨some 194, _, _, _, _, _⟩) (v := .int .i64 x) rfl (by kernel_rfl) (by kernel_rfl) (by kernel_rfl) (fun _ _ _ h => h) (Or.inl ⟨by rfl, ?_⟩) HS0.out ?_
        · (intro W hSW; have hc := ac_now hSW.1; clear hSW; go_simp)
        try simp only [Act.put, List.setIfInBounds_toArray, List.set_cons_zero, List.set_cons_succ]
        refine wpAnyH_take (i := 13) (oi := ⟨some 196, _, _, _, _, _⟩) (v := Ytpjeeccgpnpokaa.bx A' L'.length c' C) rfl (by kernel_rfl) (by kernel_rfl) (by kernel_rfl) (fun _ _ _ h => h) (yields_loadE (by rfl) 37 _ Try.underlying37 rfl (.tmp 13) rfl z 0 rfl (bcs A' L'.length c' C) (fun _ h => whole_at h.2) size37) HS0.out ?_
        try simp only [Act.put, List.setIfInBounds_toArray, List.set_cons_zero, List.set_cons_succ]
        refine wpAnyH_take (i := 14) (oi := ⟨some 197, _, _, _, _, _⟩) (v := ?_) rfl (by kernel_rfl) (by kernel_rfl) (by kernel_rfl) (fun _ _ _ h => h) (Or.inl ⟨by rfl, ?_⟩) HS0.out ?_
        rotate_left
        · (intro W hSW; clear hSW; go_simp)
          first | done | (with_reducible rfl)
        try simp only [Act.put, List.setIfInBounds_toArray, List.set_cons_zero, List.set_cons_succ]
        refine wpAnyH_take (i := 15) (oi := ⟨some 198, _, _, _, _, _⟩) (v := .int .i64 x) rfl (by kernel_rfl) (by kernel_rfl) (by kernel_rfl) (fun _ _ _ h => h) (Or.inl ⟨by rfl, ?_⟩) HS0.out ?_
        · (intro W hSW; have hc := ac_now hSW.1; clear hSW; go_simp)
        try simp only [Act.put, List.setIfInBounds_toArray, List.set_cons_zero, List.set_cons_succ]
        refine wpAnyH_ready (rs := [12]) (by kernel_rfl) (by simp) ?_
        refine AllReadyH.cons (o := ⟨some 195, _, _, _, _, _⟩) rfl (fun K hK => ?_) (AllReadyH.nil)
        go_simp
        refine (Q0.out.all HP.out HC.out HX.out).mono ?_
        rintro e x1 ⟨A1, c1, rfl, hE, hq, hk, -⟩
        have Q1 := Lib.hid hq
        have X1 := Lib.hid (hk bx 39 _ rfl X0.out)
        have E1 := Lib.hid hE
        have HS1 : Hid (Blk x1 bx 39 (ac K0 p x y) ∧ Blk x1 z 37 (bcs A' L'.length c' C)) := ⟨X1.out, Q1.out.box⟩
        clear hE hq hk Q0 X0 HS0
        go_simp
        refine hK.out _ _ ?_ (fun _ => ?_)
        · exact HS1.out
        clear hK K
        try simp only [Act.put, List.setIfInBounds_toArray, List.set_cons_zero, List.set_cons_succ]
        refine wpAnyH_ready (rs := [16]) (by kernel_rfl) (by simp) ?_
        refine AllReadyH.cons (o := ⟨some 199, _, _, _, _, _⟩) rfl (fun K hK => ?_) (AllReadyH.nil)
        go_simp
        refine (Q1.out.dall HP.out HC.out).mono ?_
        rintro e x2 ⟨A2, c2, rfl, hE, hq, -, hb⟩
        have Q2 : Hid (PB T w g z C (swp L' x) L' A' c' (only bx) x2) := hq.less (fun j e => .inl e)
        have E2 := Lib.hid hE
        have E1' := Lib.hid (E1.out.below hb)
        have X2 := Lib.hid (X1.out.below hb)
        have HS2 : Hid (Blk x2 bx 39 (ac K0 p x y) ∧ Blk x2 z 37 (bcs A' L'.length c' C)) := ⟨X2.out, Q2.out.box⟩
        clear hE hq hb Q1 X1 E1 HS1
        go_simp
        refine hK.out _ _ ?_ (fun _ => ?_)
        · exact HS2.out
        clear hK K
        try simp only [Act.put, List.setIfInBounds_toArray, List.set_cons_zero, List.set_cons_succ]
        refine wpAnyH_ready (rs := [17]) (by kernel_rfl) (by simp) ?_
        refine AllReadyH.cons (o := ⟨some 200, _, _, _, _, _⟩) rfl (fun K hK => ?_) (AllReadyH.nil)
        go_simp
        refine (same_ A1 A2 c1 c2 (pres (swp L' x)) (pres (swp L' x)) _ E1'.out E2.out HPS.out HPS.out HPN.out).mono ?_
        rintro e x3 ⟨rfl, hb⟩
        rw [decide_eq_true (rfl : pres (swp L' x) = pres (swp L' x))]
        have Q3 := Lib.hid (Q2.out.below HP.out hb)
        have X3 := Lib.hid (X2.out.below hb)
        have HS3 : Hid (Blk x3 bx 39 (ac K0 p x y) ∧ Blk x3 z 37 (bcs A' L'.length c' C)) := ⟨X3.out, Q3.out.box⟩
        clear hb Q2 X2 E1' E2 HS2
        go_simp
        refine hK.out _ _ ?_ (fun _ => ?_)
        · exact HS3.out
        clear hK K
        try simp only [Act.put, List.setIfInBounds_toArray, List.set_cons_zero, List.set_cons_succ]
        refine wpAnyH_take (i := 18) (oi := ⟨some 201, _, _, _, _, _⟩) (v := ?_) rfl (by kernel_rfl) (by kernel_rfl) (by kernel_rfl) (fun _ _ _ h => h) (Or.inl ⟨by rfl, ?_⟩) HS3.out ?_
        rotate_left
        · (intro W hSW; clear hSW; go_simp)
          first | done | (with_reducible rfl)
        try simp only [Act.put, List.setIfInBounds_toArray, List.set_cons_zero, List.set_cons_succ]
        refine wpAnyH_take (i := 19) (oi := ⟨some 202, _, _, _, _, _⟩) (v := .bool false) rfl (by kernel_rfl) (by kernel_rfl) (by kernel_rfl) (fun _ _ _ h => h) (Or.inl ⟨by rfl, ?_⟩) HS3.out ?_
        · (intro W hSW; clear hSW; go_simp)
        try simp only [Act.put, List.setIfInBounds_toArray, List.set_cons_zero, List.set_cons_succ]
        refine wpAnyH_take (i := 20) (oi := ⟨some 203, _, _, _, _, _⟩) (v := .bool false) rfl (by kernel_rfl) (by kernel_rfl) (by kernel_rfl) (fun _ _ _ h => h) (Or.inl ⟨by rfl, ?_⟩) HS3.out ?_
        · (intro W hSW; clear hSW; go_simp)
        try simp only [Act.put, List.setIfInBounds_toArray, List.set_cons_zero, List.set_cons_succ]
        refine wpAnyH_done (by kernel_rfl) ?_ _
        clear HS3 HPS HPN
        have c0 := ac_kind X3.out
        have c1 := ac_now X3.out
        go_upto_region 33 with fail
        go_upto_region 34 with (first
          | (refine wpList_loadE (by rfl) 37 _ Try.underlying37 rfl (.tmp 13) rfl z 0 rfl _ (whole_at Q3.out.box) size37 ?_)
          | (go_at_call 12; (with_reducible refine (sweep_ A' c' L' C x _ Q3.out.els (Q3.out.small HC.out)).mono ?_); rintro e w6 ⟨A'', c'', rfl, hc', hE', hb', hfr'⟩)
          | (refine wpList_lay rfl 37 5 size37 (.tmp 13) (.tmp 211) rfl _ (bcs A'' (swp L' x).length c'' C) rfl rfl 37 _ (Q3.out.box.below hb') rfl rfl (all_oneCell_toArray (bcs_each _ _ _ _)) ?_; intro w7 hB7 hF7; have R7 := Lib.hid (Q3.out.doc HP.out hE' hb' hfr' hB7.out hF7.out (Q3.out.ok.swp x) (by have := swp_len L' x; have := Q3.out.len; omega)); clear hE' hb' hfr' hc' hB7 hF7))
        clear Q3 X3 c0 c1
        go_wp2_with fail
        go_roundw
        case rel => exact ⟨k + 1, _, A'', c'', by omega, by go_num, R7.out.fewer⟩
        case measure => simp [intOf]; omega
      · clear hbo
        go_upto_region 30 with fail
        have c3 : ∀ N, (wc.drewN N).cell? ⟨bx, 0, none⟩ = some (.int .u8 K0) := fun N => ac_kind X9.out
        have h6' : (r == 6) = false := by simp; exact h6
        clear h6
        go_quiet (fail)
        have R10 : Hid (PB T w g z C L' L' A' c' nobody (wc.drewN nq)) := R9.out.fewer.below HP.out (below_drewN (Below.refl _ _) nq)
        clear R9 X9
        go_wp2_with fail
        go_roundw
        case rel => exact ⟨k + 1, _, A', c', by omega, by go_num, R10.out⟩
        case measure => simp [intOf]; omega
    · have hkl : k = len := by omega
      subst hkl
      have hx0 : Hid (i64 0) := (by constructor <;> decide)
      obtain ⟨L', hL'⟩ : ∃ L', L = L' := ⟨_, rfl⟩
      obtain ⟨A', hA'⟩ : ∃ A', A = A' := ⟨_, rfl⟩
      obtain ⟨c', hc'⟩ : ∃ c', c = c' := ⟨_, rfl⟩
      subst hL' hA' hc'
      have Q0 : Hid (PB T w g z C L L A c nobody wr.drew) := R1.out.below HP.out (below_drewN (Below.refl _ _) 1)
      have HPS : Hid (∀ p ∈ pres (swp L 0), p.Ok) := pres_oks (R1.out.ok.swp 0)
      have HPN : Hid ((pres (swp L 0)).length ≤ 100000) := by
        have h1 := R1.out.small HC.out
        have h2 := swp_len L 0
        show _ ≤ _
        simp only [pres, List.length_map]
        omega
      clear R1 HIN
      have HS0 : Hid (Blk wr.drew z 37 (bcs A L.length c C)) := Q0.out.box
      go_wp2_with fail
      refine wp_region_held_drew (S := fun W => Blk W z 37 (bcs A L.length c C)) (by kernel_rfl) ?_ (fun _ => ?_)
      · exact HS0.out
      generalize wr.drew = x0 at *
      refine wpAnyH_take (i := 0) (oi := ⟨some 213, _, _, _, _, _⟩) (v := ?_) rfl (by kernel_rfl) (by kernel_rfl) (by kernel_rfl) (fun _ _ _ h => h) (Or.inl ⟨by rfl, ?_⟩) HS0.out ?_
      rotate_left
      · (intro W hSW; clear hSW; go_simp)
        first | done | (with_reducible rfl)
      try simp only [Act.put, List.setIfInBounds_toArray, List.set_cons_zero, List.set_cons_succ]
      refine wpAnyH_take (i := 2) (oi := ⟨some 215, _, _, _, _, _⟩) (v := Ytpjeeccgpnpokaa.bx A L.length c C) rfl (by kernel_rfl) (by kernel_rfl) (by kernel_rfl) (fun _ _ _ h => h) (yields_loadE (by rfl) 37 _ Try.underlying37 rfl (.tmp 13) rfl z 0 rfl (bcs A L.length c C) (fun _ h => whole_at h) size37) HS0.out ?_
      try simp only [Act.put, List.setIfInBounds_toArray, List.set_cons_zero, List.set_cons_succ]
      refine wpAnyH_ready (rs := [1]) (by kernel_rfl) (by simp) ?_
      refine AllReadyH.cons (o := ⟨some 214, _, _, _, _, _⟩) rfl (fun K hK => ?_) (AllReadyH.nil)
      go_simp
      refine (Q0.out.all HP.out HC.out hx0.out).mono ?_
      rintro e x1 ⟨A1, c1, rfl, hE, hq, hk, -⟩
      have Q1 := Lib.hid hq
      
      have E1 := Lib.hid hE
      have HS1 : Hid (Blk x1 z 37 (bcs A L.length c C)) := Q1.out.box
      clear hE hq hk Q0 HS0
      go_simp
      refine hK.out _ _ ?_ (fun _ => ?_)
      · exact HS1.out
      clear hK K
      try simp only [Act.put, List.setIfInBounds_toArray, List.set_cons_zero, List.set_cons_succ]
      refine wpAnyH_ready (rs := [3]) (by kernel_rfl) (by simp) ?_
      refine AllReadyH.cons (o := ⟨some 216, _, _, _, _, _⟩) rfl (fun K hK => ?_) (AllReadyH.nil)
      go_simp
      refine (Q1.out.dall HP.out HC.out).mono ?_
      rintro e x2 ⟨A2, c2, rfl, hE, hq, -, hb⟩
      have Q2 : Hid (PB T w g z C (swp L 0) L A c nobody x2) := hq.less (fun j e => .inl e)
      have E2 := Lib.hid hE
      have E1' := Lib.hid (E1.out.below hb)
      
      have HS2 : Hid (Blk x2 z 37 (bcs A L.length c C)) := Q2.out.box
      clear hE hq hb Q1 E1 HS1
      go_simp
      refine hK.out _ _ ?_ (fun _ => ?_)
      · exact HS2.out
      clear hK K
      try simp only [Act.put, List.setIfInBounds_toArray, List.set_cons_zero, List.set_cons_succ]
      refine wpAnyH_ready (rs := [4]) (by kernel_rfl) (by simp) ?_
      refine AllReadyH.cons (o := ⟨some 217, _, _, _, _, _⟩) rfl (fun K hK => ?_) (AllReadyH.nil)
      go_simp
      refine (same_ A1 A2 c1 c2 (pres (swp L 0)) (pres (swp L 0)) _ E1'.out E2.out HPS.out HPS.out HPN.out).mono ?_
      rintro e x3 ⟨rfl, hb⟩
      rw [decide_eq_true (rfl : pres (swp L 0) = pres (swp L 0))]
      have Q3 := Lib.hid (Q2.out.below HP.out hb)
      
      have HS3 : Hid (Blk x3 z 37 (bcs A L.length c C)) := Q3.out.box
      clear hb Q2 E1' E2 HS2
      go_simp
      refine hK.out _ _ ?_ (fun _ => ?_)
      · exact HS3.out
      clear hK K
      try simp only [Act.put, List.setIfInBounds_toArray, List.set_cons_zero, List.set_cons_succ]
      refine wpAnyH_take (i := 5) (oi := ⟨some 10, _, _, _, _, _⟩) (v := ?_) rfl (by kernel_rfl) (by kernel_rfl) (by kernel_rfl) (fun _ _ _ h => h) (Or.inl ⟨by rfl, ?_⟩) HS3.out ?_
      rotate_left
      · (intro W hSW; clear hSW; go_simp)
        first | done | (with_reducible rfl)
      try simp only [Act.put, List.setIfInBounds_toArray, List.set_cons_zero, List.set_cons_succ]
      refine wpAnyH_done (by kernel_rfl) ?_ _
      have FIN : Hid (Ans (.bool true) w (.returned (.bool true)) x3) := ⟨rfl, Q3.out.be⟩
      clear Q3 HS3
      go_wp2_with fail
      go_ret
      exact FIN.out
end Go.Proofs.Ytpjeeccgpnpokaa
