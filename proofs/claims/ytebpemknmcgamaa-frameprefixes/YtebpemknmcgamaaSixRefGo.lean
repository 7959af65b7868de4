/- The contract of the document's Parse. Conditions: those of each theorem. -/
import Derived.Test.YtebpemknmcgamaaSixRefNo
namespace Go.Proofs.Ytebpemknmcgamaa.six
open Go.RowKit

/-- What the document's Parse leaves. -/
def RefOut (I : Option Addr) (n : Nat) (w : World) (bs : List Int) (r : Nat) (q : Int) (ks : List Int) (f : Bool) (e : Ending) (w' : World) : Prop :=
  ∃ A c, e = .returned (.tuple #[.agg (net q (sr bs r) (ds bs r) (.slice A ks.length c) f).toArray, .int .i64 ((r : Nat) : Int)]) ∧ Below w.heap.size w w' ∧ ∀ W, Byts W I n bs → Byts W A ks.length ks
/-- Where the heads stand. -/
def HedAt (x : World) (G : Nat) (R : Ans) (s d ls : List Int) (E : Nat) (w' : World) (q : Int) (f : Bool) (o k : Nat) : Prop :=
  Blk w' G 54 (net q s d (.slice none 0 0) f) ∧ Below x.heap.size x w' ∧ goes (8 - k) f q (ls.drop o) = R ∧ k ≤ 8 ∧ 40 ≤ o ∧ o ≤ E ∧ 0 ≤ q ∧ q ≤ 255
theorem net_set33 {p : Int} {s d : List Int} {B C : Value} {f : Bool} (hs : Sixteen s) (hd : Sixteen d) : (net p s d B f).set 33 C = net p s d C f := by
  unfold Sixteen at hs hd
  rw [net, net, List.set_cons_succ, List.set_append_right _ _ (by rw [cel_length]; omega), cel_length, hs, List.set_append_right _ _ (by rw [cel_length]; omega), cel_length, hd]
  rfl
theorem net_set34 {p : Int} {s d : List Int} {B : Value} {f g : Bool} (hs : Sixteen s) (hd : Sixteen d) : (net p s d B f).set 34 (.bool g) = net p s d B g := by
  unfold Sixteen at hs hd
  rw [net, net, List.set_cons_succ, List.set_append_right _ _ (by rw [cel_length]; omega), cel_length, hs, List.set_append_right _ _ (by rw [cel_length]; omega), cel_length, hd]
  rfl
theorem getD_mid {bs : List Int} {o j E : Nat} (h : o + j < E) : ((bs.take E).drop o).getD j 0 = bs.getD (o + j) 0 := by
  rw [List.getD_eq_getElem?_getD, List.getElem?_drop, ← List.getD_eq_getElem?_getD, getD_take h]
theorem goes_end {k : Nat} {f : Bool} {q : Int} {ls : List Int} (h : (f && tells q) = false) : goes k f q ls = (0, q, ls, f) := by
  cases f with
  | false => exact goes_false _ _ _
  | true => exact goes_plain (by simpa using h)

set_option maxRecDepth 100000 in
set_option maxHeartbeats 4000000 in
theorem ref_go (A : Option Addr) (n c r : Nat) (q : Int) (bs ks : List Int) (f : Bool) (w : World) (h : Byts w A n bs) (ho : Octs bs) (hm : n ≤ 9223372036854775807) (hc : n ≤ c) (hr : why bs = 0) (hR : goes 8 true (bs.getD 6 0) (behind bs) = (r, q, ks, f)) :
    Calls Try.prog 19 #[.slice A n c] w (RefOut A n w bs r q ks f) := by
  have hbn := h.1
  have b0 := ho.at_ 0
  have W0 : Hid (Below w.heap.size w (w.alloc (.cells #[.int .u8 0, .int .u8 0, .int .u8 0, .int .u8 0, .int .u8 0, .int .u8 0, .int .u8 0, .int .u8 0, .int .u8 0, .int .u8 0, .int .u8 0, .int .u8 0, .int .u8 0, .int .u8 0, .int .u8 0, .int .u8 0, .int .u8 0, .int .u8 0, .int .u8 0, .int .u8 0, .int .u8 0, .int .u8 0, .int .u8 0, .int .u8 0, .int .u8 0, .int .u8 0, .int .u8 0, .int .u8 0, .int .u8 0, .int .u8 0, .int .u8 0, .int .u8 0, .int .u8 0, .slice none 0 0, .bool false] 54))) := (Below.refl _ w).alloc (Nat.le_refl _) _
  have L0 : Hid (Blk (w.alloc (.cells #[.int .u8 0, .int .u8 0, .int .u8 0, .int .u8 0, .int .u8 0, .int .u8 0, .int .u8 0, .int .u8 0, .int .u8 0, .int .u8 0, .int .u8 0, .int .u8 0, .int .u8 0, .int .u8 0, .int .u8 0, .int .u8 0, .int .u8 0, .int .u8 0, .int .u8 0, .int .u8 0, .int .u8 0, .int .u8 0, .int .u8 0, .int .u8 0, .int .u8 0, .int .u8 0, .int .u8 0, .int .u8 0, .int .u8 0, .int .u8 0, .int .u8 0, .int .u8 0, .int .u8 0, .slice none 0 0, .bool false] 54)) w.heap.size 54 (net 0 zz zz (.slice none 0 0) false)) := Blk.new w 54 (net 0 zz zz (.slice none 0 0) false)
  have H : Hid (Byts (w.alloc (.cells #[.int .u8 0, .int .u8 0, .int .u8 0, .int .u8 0, .int .u8 0, .int .u8 0, .int .u8 0, .int .u8 0, .int .u8 0, .int .u8 0, .int .u8 0, .int .u8 0, .int .u8 0, .int .u8 0, .int .u8 0, .int .u8 0, .int .u8 0, .int .u8 0, .int .u8 0, .int .u8 0, .int .u8 0, .int .u8 0, .int .u8 0, .int .u8 0, .int .u8 0, .int .u8 0, .int .u8 0, .int .u8 0, .int .u8 0, .int .u8 0, .int .u8 0, .int .u8 0, .int .u8 0, .slice none 0 0, .bool false] 54)) A n bs) := h.below W0.out
  have b4 := ho.at_ 4
  have b5 := ho.at_ 5
  have b6 := ho.at_ 6
  have HWI : Hid (bs.getD 4 0 * 256 + bs.getD 5 0 = ((wd bs 4 : Nat) : Int)) := wd_int ho 4
  obtain ⟨f1, f2, f3⟩ := why_fine hr
  have hwb := wd_bd ho 4
  have HO := Lib.hid ho
  have HH := Lib.hid h
  have HR := Lib.hid hR
  clear h ho hr hR
  have hh : bs.getD 0 0 / 16 = 6 := by omega
  obtain ⟨ad, rfl, _⟩ := H.out.2 (by omega)
  go_enter Try.func19, Try.ntmps19
  go_upto_region 1 with (fail)
  generalize w.alloc (.cells #[.int .u8 0, .int .u8 0, .int .u8 0, .int .u8 0, .int .u8 0, .int .u8 0, .int .u8 0, .int .u8 0, .int .u8 0, .int .u8 0, .int .u8 0, .int .u8 0, .int .u8 0, .int .u8 0, .int .u8 0, .int .u8 0, .int .u8 0, .int .u8 0, .int .u8 0, .int .u8 0, .int .u8 0, .int .u8 0, .int .u8 0, .int .u8 0, .int .u8 0, .int .u8 0, .int .u8 0, .int .u8 0, .int .u8 0, .int .u8 0, .int .u8 0, .int .u8 0, .int .u8 0, .slice none 0 0, .bool false] 54) = w0 at *
  go_upto_region 2 with (first | (refine wpList_var30 rfl (.tmp 4) (.tmp 11) rfl w0 (net 0 zz zz (.slice none 0 0) false) rfl rfl (net_length zz_sixteen zz_sixteen) (net_one rfl) ?_; intro x1 M1 hb1; have L1 := Lib.hid (L0.out.far (Far.of_below hb1.out nobody) (fun e => e)); have H1 := Lib.hid (H.out.below hb1.out); have W1 : Hid (Below w.heap.size w x1) := W0.out.trans (hb1.out.mono W0.out.size); clear hb1))
  obtain ⟨ad', e, hcell1⟩ := H1.out.2 (by omega)
  cases e
  have hc0 : x1.cell? ad = some (.int .u8 (bs.getD 0 0)) := by simpa [Addr.add] using hcell1 0 (by omega)
  have hc4 : x1.cell? ⟨ad.block, ad.off + 4, none⟩ = some (.int .u8 (bs.getD 4 0)) := by simpa [Addr.add] using hcell1 4 (by omega)
  have hc5 : x1.cell? ⟨ad.block, ad.off + 5, none⟩ = some (.int .u8 (bs.getD 5 0)) := by simpa [Addr.add] using hcell1 5 (by omega)
  have hc6 : x1.cell? ⟨ad.block, ad.off + 6, none⟩ = some (.int .u8 (bs.getD 6 0)) := by simpa [Addr.add] using hcell1 6 (by omega)
  have hn4 : 4 < n := by omega
  have hn5 : 5 < n := by omega
  have hn6 : 6 < n := by omega
  obtain ⟨p0, hp0⟩ : ∃ p0, bs.getD 6 0 = p0 := ⟨_, rfl⟩
  rw [hp0] at hc6 HR b6
  obtain ⟨E, hE⟩ : ∃ E, E = 40 + wd bs 4 := ⟨_, rfl⟩
  have HBE : Hid (behind bs = (bs.take E).drop 40) := by rw [hE]; exact (rfl : _ = _)
  rw [HBE.out] at HR
  clear hcell1 hp0 f2
  rw [show wd bs 4 = E - 40 by omega] at HWI f3 hwb
  have hE40 : 40 ≤ E := by omega
  clear hE HBE
  generalize bs.getD 0 0 = u at *
  generalize bs.getD 4 0 = u4 at *
  generalize bs.getD 5 0 = u5 at *
  go_upto_region 6 with (fail)
  go_cut [5] from 22 to 32 (fun s wx => s = .int .i64 (E : Nat) ∧ Below x1.heap.size x1 wx)
  case first =>
    go_region
    go_wp2_with fail
    go_meet
    case rel => exact ⟨congrArg (Value.int .i64) (by have := HWI.out; omega), (Below.refl _ _).drew⟩
  case rest =>
    obtain ⟨rfl, hbl⟩ := hcut
    obtain ⟨y0, hy0⟩ : ∃ z, z = wc := ⟨_, rfl⟩
    subst hy0
    have W2 : Hid (Below w.heap.size w y0) := W1.out.trans (hbl.mono W1.out.size)
    have L2 := Lib.hid (L1.out.far (Far.of_below hbl nobody) (fun e => e))
    have M2 := Lib.hid (M1.out.far (Far.of_below hbl nobody) (fun e => e))
    have H2 := Lib.hid (H1.out.below hbl)
    have hd6 := keep9 hbl hc6
    clear hbl hc0 hc4 hc5 hc6 H H1 L0 L1 M1 W0 W1 HWI b0 b4 b5 hh
    clear hn4 hn5
    go_upto_region 10 with (first | (refine wpList_var30 rfl (.tmp 6) (.tmp 41) rfl y0 (net p0 (adr bs 8 0) (adr bs 24 0) (.slice none 0 0) true) rfl rfl (net_length zz_sixteen zz_sixteen) (net_one rfl) ?_; intro x3 B3 hb3; have L3 := Lib.hid (L2.out.far (Far.of_below hb3.out nobody) (fun e => e)); have M3 := Lib.hid (M2.out.far (Far.of_below hb3.out nobody) (fun e => e)); have H3 := Lib.hid (H2.out.below hb3.out); have W3 : Hid (Below w.heap.size w x3) := W2.out.trans (hb3.out.mono W2.out.size); have X3 := hb3))
    have hG : Hid (x1.heap.size ≤ x1.heap.size) := Nat.le_refl _
    have hcw : y0.heap.size ≤ x3.heap.size := X3.out.size
    have hadG : ad.block < y0.heap.size := World.block_lt_of_cell? y0 ⟨ad.block, ad.off + 6, none⟩ hd6
    have hL2 := L2.out.lt
    have hM2 := M2.out.lt
    have H2' := H2
    clear hd6 hn6 hG
    go_wp2_with fail
    go_loopw [7, 42] (fun _ y w' => ∃ i : Nat, y = .int .i64 (i : Nat) ∧ i ≤ 16 ∧ Blk w' y0.heap.size 54 (net p0 (adr bs 8 i) (adr bs 24 i) (.slice none 0 0) true) ∧ Below y0.heap.size y0 w') (fun _ y _ => 16 - (intOf y).toNat)
    case atStart => exact ⟨0, rfl, by omega, B3.out, X3.out⟩
    case round =>
      obtain ⟨i, rfl, hi16, hbk, hbl⟩ := hrel
      clear B3 L3 M3 H3 W3 X3 hcw
      have BK := Lib.hid hbk
      have BL := Lib.hid hbl
      clear hbk hbl
      by_cases hlt : i < 16
      · have hd4 : decide ((i : Int) < 16) = true := by simp; omega
        have S1 : Hid (Sixteen (adr bs 8 i)) := adr_sixteen (by omega) (by omega)
        have S2 : Hid (Sixteen (adr bs 24 i)) := adr_sixteen (by omega) (by omega)
        obtain ⟨ad', e, hcell⟩ := (H2.out.below BL.out).2 (by omega)
        cases e
        have c1 : wr.cell? (ad.add (8 + i)) = some (.int .u8 (bs.getD (8 + i) 0)) := hcell (8 + i) (by omega)
        have c2 : wr.cell? (ad.add (24 + i)) = some (.int .u8 (bs.getD (24 + i) 0)) := hcell (24 + i) (by omega)
        obtain ⟨v1, d1⟩ : ∃ v, wr.cell? ⟨y0.heap.size, 1 + i, none⟩ = some v := ⟨_, (BK.out.cell (1 + i)).trans (List.getElem?_eq_getElem (by rw [net_length S1.out S2.out]; omega))⟩
        obtain ⟨v2, d2⟩ : ∃ v, wr.cell? ⟨y0.heap.size, 17 + i, none⟩ = some v := ⟨_, (BK.out.cell (17 + i)).trans (List.getElem?_eq_getElem (by rw [net_length S1.out S2.out]; omega))⟩
        have g1 := BK.out.frozen (1 + i)
        have g2 := BK.out.frozen (17 + i)
        have hin1 : 8 + i < n := by omega
        have hin2 : 24 + i < n := by omega
        have hne : ¬ (17 + i = 1 + i) := by omega
        have b1 := HO.out.at_ (8 + i)
        have b2 := HO.out.at_ (24 + i)
        have HX : Hid (adr bs 8 (i + 1) = (adr bs 8 i).set i (bs.getD (8 + i) 0)) := (adr_set (by omega) (by omega)).symm
        have HY : Hid (adr bs 24 (i + 1) = (adr bs 24 i).set i (bs.getD (24 + i) 0)) := (adr_set (by omega) (by omega)).symm
        have S3 : Hid (Sixteen (adr bs 8 (i + 1))) := adr_sixteen (by omega) (by omega)
        clear hcell
        generalize bs.getD (8 + i) 0 = y1 at *
        generalize bs.getD (24 + i) 0 = y2 at *
        go_upto_region 13 with (fail)
        have e1 : (wr.setCell ⟨y0.heap.size, 1 + i, none⟩ (.int .u8 y1)).cell? (ad.add (24 + i)) = some (.int .u8 y2) := (World.cell?_of_block (Below.heap_setCell wr ⟨y0.heap.size, 1 + i, none⟩ _ _ (by rw [Addr.block_add]; show ad.block ≠ y0.heap.size; omega))).trans c2
        have q1 : IntKind.i64.wrap (8 + (i : Int)) = 8 + (i : Int) := by rw [IntKind.wrap_i64]; omega
        have q2 : IntKind.i64.wrap (24 + (i : Int)) = 24 + (i : Int) := by rw [IntKind.wrap_i64]; omega
        have q3 : (8 + (i : Int)).toNat = 8 + i := by omega
        have q4 : (24 + (i : Int)).toNat = 24 + i := by omega
        go_region
        clear q1 q2 q3 q4 e1 c1 c2 d1 d2 g1 g2
        go_wp2_with fail
        go_roundw
        case rel =>
          refine ⟨i + 1, by go_num, by omega, ?_, ((BL.out.setCell (p := ⟨y0.heap.size, 1 + i, none⟩) (Nat.le_refl _) _).setCell (p := ⟨y0.heap.size, 17 + i, none⟩) (Nat.le_refl _) _).drew⟩
          have := (BK.out.set_ (1 + i) (.int .u8 y1)).set_ (17 + i) (.int .u8 y2)
          rw [net_set1 S1.out (by omega), ← HX.out, net_set2 S3.out S2.out (by omega), ← HY.out] at this
          exact this
        case measure => simp [intOf]; omega
      · obtain hi : i = 16 := by omega
        have hd4 : decide ((i : Int) < 16) = false := by simp; omega
        have BK0 : Hid (Blk wr y0.heap.size 54 (net p0 (adr bs 8 16) (adr bs 24 16) (.slice none 0 0) true)) := by have := BK.out; rw [hi] at this; exact this
        clear BK hi
        have L3 := Lib.hid (L2.out.far (Far.of_below BL.out nobody) (fun e => e))
        have M3 := Lib.hid (M2.out.far (Far.of_below BL.out nobody) (fun e => e))
        have H3 := Lib.hid (H2.out.below BL.out)
        have W3 : Hid (Below w.heap.size w wr) := W2.out.trans (BL.out.mono W2.out.size)
        have S1 : Hid (Sixteen (adr bs 8 16)) := adr_sixteen (by omega) (by omega)
        have S2 : Hid (Sixteen (adr bs 24 16)) := adr_sixteen (by omega) (by omega)
        have HSR : Hid (sr bs 0 = (adr bs 8 16)) := (rfl : _ = _)
        have HDS : Hid (ds bs 0 = (adr bs 24 16)) := (rfl : _ = _)
        have hlG : y0.heap.size < wr.heap.size := BK0.out.lt
        generalize (adr bs 8 16) = s at *
        generalize (adr bs 24 16) = d at *
        have C0 : Hid (HedAt y0 y0.heap.size (r, q, ks, f) s d (bs.take E) E wr p0 true 40 0) := ⟨BK0.out, BL.out, HR.out, by omega, by omega, by omega, b6.1, b6.2⟩
        clear L3 M3 H3 W3 BL BK0 hlG HR b6
        go_wp2_with fail
        go_loopw [8, 9, 10] (fun x y _ w' => ∃ (p : Int) (g : Bool) (o k : Nat), x = .int .i64 (o : Nat) ∧ y = .int .i64 (k : Nat) ∧ HedAt y0 y0.heap.size (r, q, ks, f) s d (bs.take E) E w' p g o k) (fun _ y _ _ => 8 - (intOf y).toNat)
        case atStart => exact ⟨p0, true, 40, 0, rfl, rfl, C0.out⟩
        case round =>
          clear C0
          obtain ⟨p, g, o, k, rfl, rfl, hbk, hbl, hgo, hk8, ho40, hoE, hp0, hp1⟩ := hrel
          have BK := Lib.hid hbk
          have BL := Lib.hid hbl
          have GO := Lib.hid hgo
          clear hbk hbl hgo
          have c0 : wr.cell? ⟨y0.heap.size, 0, none⟩ = some (.int .u8 p) := (BK.out.cell 0).trans net_0
          have c34 : wr.cell? ⟨y0.heap.size, 34, none⟩ = some (.bool g) := (BK.out.cell 34).trans (net_34 S1.out S2.out)
          go_upto_region 16 with (fail)
          go_cut [83] from 62 to 82 (fun u wx => ∃ b, u = .bool b ∧ b = (g && tells p) ∧ wx = wr)
          case first =>
            cases g with
            | false =>
              go_wp2_with fail
              go_meet
              case rel => exact ⟨_, rfl, rfl, rfl⟩
            | true =>
              by_cases e0 : p = 0
              · subst e0
                go_wp2_with fail
                go_meet
                case rel => exact ⟨_, rfl, rfl, rfl⟩
              · have d0 : (p == 0) = false := by simpa using e0
                by_cases e1 : p = 43
                · subst e1
                  go_wp2_with fail
                  go_meet
                  case rel => exact ⟨_, rfl, rfl, rfl⟩
                · have d1 : (p == 43) = false := by simpa using e1
                  by_cases e2 : p = 60
                  · subst e2
                    go_wp2_with fail
                    go_meet
                    case rel => exact ⟨_, rfl, rfl, rfl⟩
                  · have d2 : (p == 60) = false := by simpa using e2
                    by_cases e3 : p = 44
                    · subst e3
                      go_wp2_with fail
                      go_meet
                      case rel => exact ⟨_, rfl, rfl, rfl⟩
                    · have d3 : (p == 44) = false := by simpa using e3
                      go_wp2_with fail
                      go_meet
                      case rel => exact ⟨_, rfl, by unfold tells; rw [d0, d1, d2, d3]; rfl, rfl⟩
          case rest =>
            obtain ⟨b, rfl, hb, rfl⟩ := hcut
            have L4 := Lib.hid (L2.out.far (Far.of_below BL.out nobody) (fun e => e))
            have M4 := Lib.hid (M2.out.far (Far.of_below BL.out nobody) (fun e => e))
            have H4 := Lib.hid (H2.out.below BL.out)
            have W4 : Hid (Below w.heap.size w wc) := W2.out.trans (BL.out.mono W2.out.size)
            have hlen : ((bs.take E).drop o).length = E - o := by simp; omega
            cases b with
            | false =>
              rw [goes_end hb.symm] at GO
              clear hb
              obtain ⟨Z, hmid, hz⟩ := mid_z (A := some ad) (n := n) (c := c) (p := o) (q := E) (bs := bs) hoE (by omega) hc
              have HZ := Lib.hid hz
              clear hz
              simp only [Prod.mk.injEq] at GO
              obtain ⟨rfl, rfl, rfl, rfl⟩ := GO.out
              obtain ⟨v3, d3⟩ : ∃ v, wc.cell? ⟨y0.heap.size, 33, none⟩ = some v := ⟨_, (BK.out.cell 33).trans (net_33 S1.out S2.out)⟩
              have g3 := BK.out.frozen 33
              have H5b : Hid (Below w.heap.size w (wc.setCell ⟨y0.heap.size, 33, none⟩ (.slice Z (E - o) (c - o)))) := W4.out.setCell (by have := W2.out.size; exact this) _
              have BS : Hid (Blk (wc.setCell ⟨y0.heap.size, 33, none⟩ (.slice Z (E - o) (c - o))) y0.heap.size 54 (net p s d (.slice Z (E - o) (c - o)) g)) := by
                have := BK.out.set_ 33 (.slice Z (E - o) (c - o))
                rw [net_set33 S1.out S2.out] at this
                exact this
              have L5 : Hid (Blk (wc.setCell ⟨y0.heap.size, 33, none⟩ (.slice Z (E - o) (c - o))) w.heap.size 54 (net 0 zz zz (.slice none 0 0) false)) := L4.out.other (by show w.heap.size ≠ y0.heap.size; omega) _
              have LV : Hid ((net p s d (.slice Z (E - o) (c - o)) g).length = 35) := net_length S1.out S2.out
              go_upto_region 30 with (fail)
              generalize wc.setCell ⟨y0.heap.size, 33, none⟩ (.slice Z (E - o) (c - o)) = w5 at *
              go_wp2_with (first | (refine wpList_whole30 (by rfl) (.tmp 6) rfl y0.heap.size rfl (net p s d (.slice Z (E - o) (c - o)) g) BS.out LV.out ?_) | (refine wpList_put rfl 54 size30 (.tmp 2) (.tmp 141) rfl w.heap.size (net p s d (.slice Z (E - o) (c - o)) g) rfl rfl 54 (net 0 zz zz (.slice none 0 0) false) L5.out (net_length zz_sixteen zz_sixteen) LV.out (net_one rfl) ?_; intro wf BF FF))
              have HF := Lib.hid (below_only H5b.out FF.out (Nat.le_refl _) H5b.out.size)
              refine bodyPost_ret (v := .tuple #[.agg (net p s d (.slice Z (E - o) (c - o)) g).toArray, .int .i64 0]) (by simp [results, Try.results19, asAddr, load30 BF.out LV.out]) rfl ⟨Z, c - o, ?_, HF.out, ?_⟩
              · rw [HSR.out, HDS.out, hlen]
                rfl
              · intro W hW
                rw [hlen]
                exact HZ.out _ hW
            | true =>
              obtain ⟨rfl, htl⟩ : g = true ∧ tells p = true := by
                have := hb.symm
                simpa using this
              clear hb
              by_cases hk : k = 8
              · subst hk
                rw [show 8 - 8 = 0 from rfl, goes_many htl] at GO
                simp only [no, Prod.mk.injEq] at GO
                obtain ⟨rfl, rfl, rfl, rfl⟩ := GO.out
                go_wp2_with (first | (refine wpList_whole30 (by rfl) (.tmp 4) rfl w0.heap.size rfl (net 0 zz zz (.slice none 0 0) false) M4.out (net_length zz_sixteen zz_sixteen) ?_) | (refine wpList_put rfl 54 size30 (.tmp 2) (.tmp 86) rfl w.heap.size (net 0 zz zz (.slice none 0 0) false) rfl rfl 54 (net 0 zz zz (.slice none 0 0) false) L4.out (net_length zz_sixteen zz_sixteen) (net_length zz_sixteen zz_sixteen) (net_one rfl) ?_; intro wf BF FF))
                refine bodyPost_ret (v := .tuple #[.agg (net 0 zz zz (.slice none 0 0) false).toArray, .int .i64 6]) (by simp [results, Try.results19, asAddr, load30 BF.out (net_length zz_sixteen zz_sixteen)]) rfl ⟨none, 0, rfl, below_only W4.out FF.out (Nat.le_refl _) W4.out.size, fun _ _ => Byts.none_⟩
              · obtain ⟨j, hj⟩ : ∃ j, 8 - k = j + 1 := ⟨7 - k, by omega⟩
                rw [hj] at GO
                have hj7 : j = 8 - (k + 1) := by omega
                have hk8' : ((k : Int) == 8) = false := by simp; omega
                clear hj
                by_cases h8 : E - o < 8
                · rw [goes_short htl (by unfold size_; rw [if_pos (.inr (by omega))]; omega)] at GO
                  simp only [no, Prod.mk.injEq] at GO
                  obtain ⟨rfl, rfl, rfl, rfl⟩ := GO.out
                  go_wp2_with (first | (refine wpList_whole30 (by rfl) (.tmp 4) rfl w0.heap.size rfl (net 0 zz zz (.slice none 0 0) false) M4.out (net_length zz_sixteen zz_sixteen) ?_) | (refine wpList_put rfl 54 size30 (.tmp 2) (.tmp 91) rfl w.heap.size (net 0 zz zz (.slice none 0 0) false) rfl rfl 54 (net 0 zz zz (.slice none 0 0) false) L4.out (net_length zz_sixteen zz_sixteen) (net_length zz_sixteen zz_sixteen) (net_one rfl) ?_; intro wf BF FF))
                  refine bodyPost_ret (v := .tuple #[.agg (net 0 zz zz (.slice none 0 0) false).toArray, .int .i64 1]) (by simp [results, Try.results19, asAddr, load30 BF.out (net_length zz_sixteen zz_sixteen)]) rfl ⟨none, 0, rfl, below_only W4.out FF.out (Nat.le_refl _) W4.out.size, fun _ _ => Byts.none_⟩
                · obtain ⟨ad', e, hcell⟩ := H4.out.2 (by omega)
                  cases e
                  have k0 : wc.cell? (ad.add o) = some (.int .u8 (bs.getD o 0)) := hcell o (by omega)
                  have k1 : wc.cell? (ad.add (o + 1)) = some (.int .u8 (bs.getD (o + 1) 0)) := hcell (o + 1) (by omega)
                  have k2 : wc.cell? (ad.add (o + 2)) = some (.int .u8 (bs.getD (o + 2) 0)) := hcell (o + 2) (by omega)
                  have k3 : wc.cell? (ad.add (o + 3)) = some (.int .u8 (bs.getD (o + 3) 0)) := hcell (o + 3) (by omega)
                  have l1 : wc.cell? ⟨ad.block, ad.off + (o + 1), none⟩ = some (.int .u8 (bs.getD (o + 1) 0)) := by simpa [Addr.add] using k1
                  have l2 : wc.cell? ⟨ad.block, ad.off + (o + 2), none⟩ = some (.int .u8 (bs.getD (o + 2) 0)) := by simpa [Addr.add] using k2
                  have l3 : wc.cell? ⟨ad.block, ad.off + (o + 3), none⟩ = some (.int .u8 (bs.getD (o + 3) 0)) := by simpa [Addr.add] using k3
                  have b1 := HO.out.at_ (o + 1)
                  have b2 := HO.out.at_ (o + 2)
                  have b3 := HO.out.at_ (o + 3)
                  have hn0 : o < n := by omega
                  have hn1 : o + 1 < n := by omega
                  have hn2 : o + 2 < n := by omega
                  have hn3 : o + 3 < n := by omega
                  have HS1 : Hid (((bs.take E).drop o).getD 1 0 = bs.getD (o + 1) 0) := getD_mid (by omega)
                  have HW2 : Hid (((wd ((bs.take E).drop o) 2 : Nat) : Int) = bs.getD (o + 2) 0 * 256 + bs.getD (o + 3) 0) := by
                    rw [← wd_int ((HO.out.take E).drop o) 2, getD_mid (by omega), getD_mid (by omega)]
                    exact (rfl : _ = _)
                  have HS0 : Hid (((bs.take E).drop o).getD 0 0 = bs.getD o 0) := getD_mid (by omega)
                  have bq := HO.out.at_ o
                  have hs8 := size_8 p ((bs.take E).drop o)
                  have hsb := size_bd ((HO.out.take E).drop o) p
                  clear hcell
                  go_upto_if 94 with (fail)
                  obtain ⟨y4, hy4⟩ : ∃ z, z = wc := ⟨_, rfl⟩
                  subst hy4
                  go_cut [10] from 95 to 119 (fun u wx => u = .int .i64 ((size_ p ((bs.take E).drop o) : Nat) : Int) ∧ Blk wx y0.heap.size 54 (net p s d (.slice none 0 0) (early p ((bs.take E).drop o))) ∧ Below y0.heap.size y0 wx)
                  case first =>
                    by_cases h44 : p = 44
                    · have HSZ : Hid (size_ p ((bs.take E).drop o) = 8) := if_pos (.inl h44)
                      have hfe : ((bs.getD (o + 2) 0 * 256 + bs.getD (o + 3) 0) / 8 == 0) = early p ((bs.take E).drop o) := by unfold early; rw [h44, ← HW2.out, Bool.eq_iff_iff]; simp; omega
                      have htd : (bs.getD (o + 2) 0 * 256 + bs.getD (o + 3) 0).tdiv 8 = (bs.getD (o + 2) 0 * 256 + bs.getD (o + 3) 0) / 8 := Int.tdiv_eq_ediv_of_nonneg (by omega)
                      have h44' : (p == 44) = true := by simp [h44]
                      obtain ⟨g2, hg2⟩ : ∃ g2, early p ((bs.take E).drop o) = g2 := ⟨_, rfl⟩
                      rw [hg2] at hfe
                      have HG2 := Lib.hid hg2
                      have g34 := BK.out.frozen 34
                      have q1 : IntKind.i64.wrap ((o : Int) + 2) = (o : Int) + 2 := by rw [IntKind.wrap_i64]; omega
                      have q2 : IntKind.i64.wrap ((o : Int) + 3) = (o : Int) + 3 := by rw [IntKind.wrap_i64]; omega
                      have q3 : ((o : Int) + 2).toNat = o + 2 := by omega
                      have q4 : ((o : Int) + 3).toNat = o + 3 := by omega
                      clear h44 hg2 HW2 HS1 HS0
                      generalize bs.getD (o + 2) 0 = u2 at *
                      generalize bs.getD (o + 3) 0 = u3 at *
                      go_upto_region 23 with (fail)
                      go_region
                      go_wp2_with fail
                      go_meet
                      case rel =>
                        refine ⟨by rw [HSZ.out]; rfl, ?_, (BL.out.setCell (p := ⟨y0.heap.size, 34, none⟩) (Nat.le_refl _) _).drew⟩
                        rw [HG2.out]
                        have := BK.out.set_ 34 (.bool g2)
                        rw [net_set34 S1.out S2.out] at this
                        exact this
                    · have HSZ : Hid (size_ p ((bs.take E).drop o) = ((bs.getD (o + 1) 0).toNat + 1) * 8) := by
                        unfold size_
                        rw [if_neg (by omega), HS1.out]
                        exact (rfl : _ = _)
                      have HEA : Hid (early p ((bs.take E).drop o) = true) := by unfold early; show _ = _; simp [h44]
                      have h44' : (p == 44) = false := by simpa using h44
                      have q1 : IntKind.i64.wrap ((o : Int) + 1) = (o : Int) + 1 := by rw [IntKind.wrap_i64]; omega
                      have q3 : ((o : Int) + 1).toNat = o + 1 := by omega
                      clear HW2 HS1 HS0
                      generalize bs.getD (o + 1) 0 = v1 at *
                      go_wp2_with fail
                      go_meet
                      case rel => exact ⟨congrArg (Value.int .i64) (by rw [HSZ.out]; omega), by rw [HEA.out]; exact BK.out, BL.out⟩
                  case rest =>
                    obtain ⟨rfl, hbk, hbl⟩ := hcut
                    have BK5 := Lib.hid hbk
                    have BL5 := Lib.hid hbl
                    have L5 := Lib.hid (L2.out.far (Far.of_below hbl nobody) (fun e => e))
                    have M5 := Lib.hid (M2.out.far (Far.of_below hbl nobody) (fun e => e))
                    have H5 := Lib.hid (H2.out.below hbl)
                    have W5 : Hid (Below w.heap.size w wc) := W2.out.trans (hbl.mono W2.out.size)
                    clear hbk hbl BK BL L4 M4 H4 W4 k0 k1 k2 k3 l1 l2 l3 c0 c34 HW2 HS1 hn1 hn2 hn3 b1 b2 b3
                    by_cases hl : E - o < size_ p ((bs.take E).drop o)
                    · rw [goes_short htl (by omega)] at GO
                      generalize size_ p ((bs.take E).drop o) = L at *
                      simp only [no, Prod.mk.injEq] at GO
                      obtain ⟨rfl, rfl, rfl, rfl⟩ := GO.out
                      go_wp2_with (first | (refine wpList_whole30 (by rfl) (.tmp 4) rfl w0.heap.size rfl (net 0 zz zz (.slice none 0 0) false) M5.out (net_length zz_sixteen zz_sixteen) ?_) | (refine wpList_put rfl 54 size30 (.tmp 2) (.tmp 125) rfl w.heap.size (net 0 zz zz (.slice none 0 0) false) rfl rfl 54 (net 0 zz zz (.slice none 0 0) false) L5.out (net_length zz_sixteen zz_sixteen) (net_length zz_sixteen zz_sixteen) (net_one rfl) ?_; intro wf BF FF))
                      refine bodyPost_ret (v := .tuple #[.agg (net 0 zz zz (.slice none 0 0) false).toArray, .int .i64 1]) (by simp [results, Try.results19, asAddr, load30 BF.out (net_length zz_sixteen zz_sixteen)]) rfl ⟨none, 0, rfl, below_only W5.out FF.out (Nat.le_refl _) W5.out.size, fun _ _ => Byts.none_⟩
                    · rw [goes_on htl (by omega), HS0.out, List.drop_drop, hj7] at GO
                      obtain ⟨ad', e, hcell⟩ := H5.out.2 (by omega)
                      cases e
                      have k0 : wc.cell? (ad.add o) = some (.int .u8 (bs.getD o 0)) := hcell o (by omega)
                      have c0 : wc.cell? ⟨y0.heap.size, 0, none⟩ = some (.int .u8 p) := (BK5.out.cell 0).trans net_0
                      have g0 := BK5.out.frozen 0
                      generalize size_ p ((bs.take E).drop o) = L at *
                      generalize early p ((bs.take E).drop o) = g2 at *
                      clear HS0 hcell
                      generalize bs.getD o 0 = x at *
                      go_wp2_with fail
                      go_roundw
                      case rel =>
                        exact ⟨x, g2, o + L, k + 1, by go_num, by go_num, BK5.out.set_ 0 (.int .u8 x), BL5.out.setCell (p := ⟨y0.heap.size, 0, none⟩) (Nat.le_refl _) _, GO.out, by omega, by omega, by omega, bq.1, bq.2⟩
                      case measure => simp [intOf]; omega

theorem ref_any (A : Option Addr) (n c r : Nat) (q : Int) (bs ks : List Int) (f : Bool) (w : World) (h : Byts w A n bs) (ho : Octs bs) (hm : n ≤ 9223372036854775807) (hc : n ≤ c) (hR : tel bs = (r, q, ks, f)) :
    Calls Try.prog 19 #[.slice A n c] w (RefOut A n w bs r q ks f) := by
  unfold tel at hR
  by_cases hw : why bs = 0
  · rw [if_pos hw] at hR
    exact ref_go A n c r q bs ks f w h ho hm hc hw hR
  · rw [if_neg hw] at hR
    simp only [no, Prod.mk.injEq] at hR
    obtain ⟨rfl, rfl, rfl, rfl⟩ := hR
    refine (ref_no A n c _ bs w h ho hm rfl hw).mono ?_
    rintro e w' ⟨rfl, hb⟩
    refine ⟨none, 0, ?_, hb, fun _ _ => Byts.none_⟩
    rw [show sr bs (why bs) = zz from if_neg hw, show ds bs (why bs) = zz from if_neg hw]
    rfl

end Go.Proofs.Ytebpemknmcgamaa.six
