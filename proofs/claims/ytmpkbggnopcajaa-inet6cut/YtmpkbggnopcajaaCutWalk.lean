/- The walk of the law Inet6Cut: for any bytes, any place and any bytes behind it returns true and turns nothing that was there. -/
import Derived.Test.YtmpkbggnopcajaaCutNums
namespace Go.Proofs.Ytmpkbggnopcajaa
open Go.RowKit

set_option maxHeartbeats 1000000 in
theorem cutlaw_far (A B : Option Addr) (n c x m d : Nat) (w : World) (hn : 2000 < n ∨ 200 < m) : Calls Try.prog 5 #[.slice A n c, .int .u16 (x : Nat), .slice B m d] w fun e w' => e = .returned (.bool true) ∧ Below w.heap.size w w' := by
  by_cases h : 2000 < n
  · have hd : decide ((2000 : Int) < (n : Int)) = true := by simp; omega
    have hd2 : decide (2000 < n) = true := by simpa using h
    go_enter Try.func5, Try.ntmps5
    go_wp2_with fail
    refine (awake_any _).mono ?_
    rintro e w1 ⟨rfl, hb⟩
    have HB := Lib.hid hb
    clear hb
    go_wp2_with fail
    refine (awake_any _).mono ?_
    rintro e w2 ⟨rfl, hb⟩
    have HC := Lib.hid hb
    clear hb
    go_wp2
    go_ret
    exact ⟨rfl, HB.out.trans (HC.out.mono HB.out.size)⟩
  · have hd : decide ((2000 : Int) < (n : Int)) = false := by simp; omega
    have hd2 : decide (2000 < n) = false := by simpa using h
    have hd3 : decide ((200 : Int) < (m : Int)) = true := by simp; omega
    have hd4 : decide (200 < m) = true := by simp; omega
    go_enter Try.func5, Try.ntmps5
    go_wp2_with fail
    refine (awake_any _).mono ?_
    rintro e w1 ⟨rfl, hb⟩
    have HB := Lib.hid hb
    clear hb
    go_wp2_with fail
    refine (awake_any _).mono ?_
    rintro e w2 ⟨rfl, hb⟩
    have HC := Lib.hid hb
    clear hb
    go_wp2
    go_ret
    exact ⟨rfl, HB.out.trans (HC.out.mono HB.out.size)⟩

set_option maxRecDepth 100000 in
set_option maxHeartbeats 2000000 in
theorem cutlaw_no (A B : Option Addr) (n c x m d : Nat) (bs : List Int) (w : World) (h : Byts w A n bs) (ho : Octs bs) (hc : n ≤ c) (hn : n ≤ 2000) (hm : m ≤ 200) (r : Nat) (hr : tel bs = no r) (h0 : r ≠ 0) :
    Calls Try.prog 5 #[.slice A n c, .int .u16 (x : Nat), .slice B m d] w fun e w' => e = .returned (.bool true) ∧ Below w.heap.size w w' := by
  have hd : decide ((2000 : Int) < (n : Int)) = false := by simp; omega
  have hd2 : decide (2000 < n) = false := by simp; omega
  have hd3 : decide ((200 : Int) < (m : Int)) = false := by simp; omega
  have hd4 : decide (200 < m) = false := by simp; omega
  have H := Lib.hid h
  have HO := Lib.hid ho
  have hd5 : ((r : Int) != 0) = true := by simp; omega
  have hr' : tel bs = (r, 0, [], false) := hr
  have HP := Lib.hid (fun W hW hb => parse_b A n c r 0 bs [] false W hW ho (by omega) hc hr' 0 hb)
  have S1 : Hid (Sixteen (sr bs r)) := sr_sixteen (fun e => absurd e h0)
  have S2 : Hid (Sixteen (ds bs r)) := ds_sixteen (fun e => absurd e h0)
  clear h ho hr hr'
  generalize sr bs r = s at *
  generalize ds bs r = d2 at *
  go_enter Try.func5, Try.ntmps5
  go_upto_region 4 with (first | (go_at_call 7; (with_reducible refine (awake_any _).mono ?_); rintro e x1 ⟨rfl, hb⟩; have W1 := Lib.hid hb; clear hb) | (go_at_call 8; (with_reducible refine (HP.out _ (H.out.below W1.out) rfl).mono ?_); rintro e x2 ⟨A1, c1, rfl, hb, _⟩; have W2 : Hid (Below w.heap.size w x2) := W1.out.trans (hb.mono W1.out.size); clear hb) | (refine wpList_var26 rfl (.tmp 7) (.tmp 30) rfl x2 (net 0 s d2 (.slice A1 0 c1) false) rfl rfl (net_length S1.out S2.out) (net_one rfl) ?_; intro x3 B3 hb3; have W3 : Hid (Below w.heap.size w x3) := W2.out.trans (hb3.out.mono W2.out.size); clear hb3))
  have k0 : x3.cell? ⟨x2.heap.size, 0, none⟩ = some (.int .u8 0) := (B3.out.cell 0).trans net_0
  have k3 : x3.cell? ⟨x2.heap.size, 33, none⟩ = some (.slice A1 0 c1) := (B3.out.cell 33).trans (net_33 S1.out S2.out)
  have k4 : x3.cell? ⟨x2.heap.size, 34, none⟩ = some (.bool false) := (B3.out.cell 34).trans (net_34 S1.out S2.out)
  go_wp2
  go_ret
  exact ⟨rfl, W3.out⟩

set_option maxRecDepth 100000 in
set_option maxHeartbeats 4000000 in
theorem cutlaw_ok1 (A B : Option Addr) (n c x m d : Nat) (bs ms : List Int) (w : World) (h : Byts w A n bs) (ho : Octs bs) (hc : n ≤ c) (h' : Byts w B m ms) (ho' : Octs ms) (hn : n ≤ 2000) (hm : m ≤ 200) (hx : x ≤ 65535) (q : Int) (ks : List Int) (f : Bool) (hr : tel bs = (0, q, ks, f)) (hv : why (bs.take (x % (40 + wd bs 4))) = 1) :
    Calls Try.prog 5 #[.slice A n c, .int .u16 (x : Nat), .slice B m d] w fun e w' => e = .returned (.bool true) ∧ Below w.heap.size w w' := by
  have hd : decide ((2000 : Int) < (n : Int)) = false := by simp; omega
  have hd2 : decide (2000 < n) = false := by simp; omega
  have hd3 : decide ((200 : Int) < (m : Int)) = false := by simp; omega
  have hd4 : decide (200 < m) = false := by simp; omega
  have H := Lib.hid h
  have HO := Lib.hid ho
  have H' := Lib.hid h'
  have HO' := Lib.hid ho'
  have HR := Lib.hid hr
  have hw0 : why bs = 0 := tel_why (by rw [hr])
  have hbn := h.1
  obtain ⟨f1, _, f3⟩ := why_fine hw0
  obtain ⟨m1, m2, m3⟩ := cut_more (ms := ms) hw0
  have HV := Lib.hid hv
  have HM1 : Hid (tel (bs.take (40 + wd bs 4) ++ ms) = (0, q, ks, f)) := m1.trans hr
  have HM2 := Lib.hid (m2 0)
  have HM3 := Lib.hid (m3 0)
  have LV : Hid (∀ B, (net q (sr bs 0) (ds bs 0) B f).length = 35) := fun _ => parn_length hr
  have S1 : Hid (Sixteen (sr bs 0)) := sr_sixteen (tel_long hr)
  have S2 : Hid (Sixteen (ds bs 0)) := ds_sixteen (tel_long hr)
  have hwi : bs.getD 4 0 * 256 + bs.getD 5 0 = ((wd bs 4 : Nat) : Int) := wd_int ho 4
  have b4 := ho.at_ 4
  have b5 := ho.at_ 5
  have hwb := wd_bd ho 4
  have HOM : Hid (Octs (bs.take (40 + wd bs 4) ++ ms)) := (HO.out.take _).app HO'.out
  clear h ho h' ho' hr hv m1 m2 m3 hw0
  obtain ⟨ad, rfl, _⟩ := H.out.2 (by omega)
  go_enter Try.func5, Try.ntmps5
  go_upto_region 6 with (first | (go_at_call 7; (with_reducible refine (awake_any _).mono ?_); rintro e x1 ⟨rfl, hb⟩; have W1 := Lib.hid hb; clear hb) | (go_at_call 8; (with_reducible refine (parse_any (some ad) n c 0 q bs ks f _ (H.out.below W1.out) HO.out (by omega) hc HR.out).mono ?_); rintro e x2 ⟨A1, c1, rfl, hb, hbod⟩; have W2 : Hid (Below w.heap.size w x2) := W1.out.trans (hb.mono W1.out.size); have BB2 := Lib.hid hbod; clear hb hbod) | (refine wpList_var26 rfl (.tmp 7) (.tmp 30) rfl x2 (net q (sr bs 0) (ds bs 0) (.slice A1 ks.length c1) f) rfl rfl (LV.out _) (net_one rfl) ?_; intro x3 B3 hb3; have W3 : Hid (Below w.heap.size w x3) := W2.out.trans (hb3.out.mono W2.out.size); have BB3 := Lib.hid (BB2.out.below hb3.out); clear hb3))
  obtain ⟨ad', e, hcell⟩ := (H.out.below W3.out).2 (by omega)
  cases e
  have c2 : x3.cell? ⟨ad.block, ad.off + 4, none⟩ = some (.int .u8 (bs.getD 4 0)) := by simpa [Addr.add] using hcell 4 (by omega)
  have c3 : x3.cell? ⟨ad.block, ad.off + 5, none⟩ = some (.int .u8 (bs.getD 5 0)) := by simpa [Addr.add] using hcell 5 (by omega)
  have hn2 : 4 < n := by omega
  have hn3 : 5 < n := by omega
  clear hcell
  obtain ⟨a, ha⟩ : ∃ a, 40 + wd bs 4 = a := ⟨_, rfl⟩
  have HWI : Hid (40 + bs.getD 4 0 * 256 + bs.getD 5 0 = (a : Int)) := by show _ = _; omega
  clear hwi
  have ha40 : 40 ≤ a := by omega
  rw [ha] at HV HM1 HM2 HM3 HOM f3
  have hab : a ≤ 65575 := by omega
  clear ha hwb
  generalize bs.getD 4 0 = u2 at *
  generalize bs.getD 5 0 = u3 at *
  go_cut [9] from 48 to 58 (fun s wx => s = .int .i64 (a : Nat) ∧ Below x3.heap.size x3 wx)
  case first =>
    go_region
    go_wp2_with fail
    go_meet
    case rel => exact ⟨by rw [HWI.out], (Below.refl _ _).drew⟩
  case rest =>
    obtain ⟨rfl, hbl⟩ := hcut
    have W4 : Hid (Below w.heap.size w wc) := W3.out.trans (hbl.mono W3.out.size)
    have B4 := Lib.hid (B3.out.far (Far.of_below hbl nobody) (fun e => e))
    have BB4 := Lib.hid (BB3.out.below hbl)
    clear hbl c2 c3 hn2 hn3 HWI b4 b5 B3 BB3 BB2
    have hlt : x % a < a := Nat.mod_lt _ (by omega)
    have hkc : x % a ≤ c := by omega
    have hac : a ≤ c := by omega
    have hcut1 := fun W => run_upto (A := some ad) (n := n) (c := c) (k := x % a) W hkc
    have hcut2 := fun W => run_upto (A := some ad) (n := n) (c := c) (k := a) W hac
    have ha0 : (a : Int) ≠ 0 := by omega
    have ha1 : ((a : Int) == 0) = false := by simp; omega
    go_upto_region 8 with (first | (go_at_call 8; (with_reducible refine (parse_no (some ad) (x % a) c 1 (bs.take (x % a)) _ ((H.out.below W4.out).upto (by omega)) (HO.out.take _) (by omega) hkc HV.out (by omega)).mono ?_); rintro e x5 ⟨rfl, hb⟩; have W5 : Hid (Below w.heap.size w x5) := W4.out.trans (hb.mono W4.out.size); have B5 := Lib.hid (B4.out.far (Far.of_below hb nobody) (fun e => e)); have BB5 := Lib.hid (BB4.out.below hb); clear hb) | (refine wpList_var26 rfl (.tmp 10) (.tmp 67) rfl x5 (net 0 zz zz (.slice none 0 0) false) rfl rfl (net_length zz_sixteen zz_sixteen) (net_one rfl) ?_; intro w5 _ hb6; have V5 : Hid (Below w.heap.size w w5) := W5.out.trans (hb6.out.mono W5.out.size); have L5 := Lib.hid (B5.out.far (Far.of_below hb6.out nobody) (fun e => e)); have M5 := Lib.hid (BB5.out.below hb6.out); clear hb6))
    have HA5 := Lib.hid (H.out.below V5.out)
    have HB5 := Lib.hid (H'.out.below V5.out)
    have Y6 : Hid (Below w5.heap.size w5 (w5.alloc (.cells #[] 5))) := (Below.refl _ _).alloc (Nat.le_refl _) _
    have O6 := Lib.hid (own_new w5 w5.heap.size (Nat.le_refl _))
    have hsz : w5.heap.size ≤ (w5.alloc (.cells #[] 5)).heap.size := by simp
    go_wp2_with (first | (at_builtin; refine wpList_app_to rfl (.tmp 70) (.tmp 73) rfl w5.heap.size (.slice (some ⟨w5.heap.size, 0, none⟩) 0 0) 0 [] rfl (by exact O6.out) (some ad) a c (bs.take a) rfl (by exact (HA5.out.below Y6.out).upto (by omega)) a (by omega) (bs.take a) rfl (by omega) (by exact hsz) ?_; intro A7 c7 w7 R7 G7 B7; have Y7 : Hid (Below w5.heap.size w5 w7) := Y6.out.grown G7.out Y6.out.size (fun k e => (O6.out.lt k e).1)) | (at_builtin; refine wpList_app_to rfl (.tmp 74) (.tmp 75) rfl w5.heap.size (.slice A7 a c7) a (bs.take a) rfl (by exact R7.out) B m d ms rfl (by exact HB5.out.below Y7.out) (a + m) rfl (bs.take a ++ ms) rfl (by omega) (by exact Y7.out.size) ?_; intro A8 c8 w8 R8 G8 B8; have Y8 : Hid (Below w5.heap.size w5 w8) := Y7.out.grown G8.out Y7.out.size (fun k e => (R7.out.lt k e).1)) | (go_at_call 8; (with_reducible refine (parse_as A8 (a + m) c8 0 q bs (bs.take a ++ ms) ks f _ (Byts.of_own R8.out) HOM.out (by omega) (own_cap R8.out) HM1.out HM2.out HM3.out).mono ?_); rintro e x9 ⟨A9, c9, rfl, hb, hbod⟩; have Y9 : Hid (Below w5.heap.size w5 x9) := Y8.out.trans (hb.mono Y8.out.size); have N9 := Lib.hid hbod; clear hb hbod) | (refine wpList_var26 rfl (.tmp 12) (.tmp 78) rfl x9 (net q (sr bs 0) (ds bs 0) (.slice A9 ks.length c9) f) rfl rfl (LV.out _) (net_one rfl) ?_; intro y9 C9 hb9; have U9 : Hid (Below w5.heap.size w5 y9) := Y9.out.trans (hb9.out.mono Y9.out.size); have LL := Lib.hid (L5.out.far (Far.of_below U9.out nobody) (fun e => e)); have MM := Lib.hid (M5.out.below U9.out); have NN := Lib.hid (N9.out.below hb9.out); clear hb9) | (refine wpList_whole26 (by rfl) (.tmp 12) rfl x9.heap.size rfl (net q (sr bs 0) (ds bs 0) (.slice A9 ks.length c9) f) C9.out (LV.out _) ?_) | (refine wpList_whole26 (by rfl) (.tmp 7) rfl x2.heap.size rfl (net q (sr bs 0) (ds bs 0) (.slice A1 ks.length c1) f) LL.out (LV.out _) ?_) | (go_at_call 10; (with_reducible refine (same_any q (sr bs 0) (ds bs 0) ks A9 A1 ks.length c9 c1 f _ S1.out S2.out NN.out.byts MM.out.byts).mono ?_); rintro e z9 ⟨rfl, hb⟩; have Z9 : Hid (Below w5.heap.size w5 z9) := U9.out.trans (hb.mono U9.out.size); clear hb))
    go_ret
    exact ⟨rfl, V5.out.trans (Z9.out.mono V5.out.size)⟩

set_option maxRecDepth 100000 in
set_option maxHeartbeats 4000000 in
theorem cutlaw_ok5 (A B : Option Addr) (n c x m d : Nat) (bs ms : List Int) (w : World) (h : Byts w A n bs) (ho : Octs bs) (hc : n ≤ c) (h' : Byts w B m ms) (ho' : Octs ms) (hn : n ≤ 2000) (hm : m ≤ 200) (hx : x ≤ 65535) (q : Int) (ks : List Int) (f : Bool) (hr : tel bs = (0, q, ks, f)) (hv : why (bs.take (x % (40 + wd bs 4))) = 5) :
    Calls Try.prog 5 #[.slice A n c, .int .u16 (x : Nat), .slice B m d] w fun e w' => e = .returned (.bool true) ∧ Below w.heap.size w w' := by
  have hd : decide ((2000 : Int) < (n : Int)) = false := by simp; omega
  have hd2 : decide (2000 < n) = false := by simp; omega
  have hd3 : decide ((200 : Int) < (m : Int)) = false := by simp; omega
  have hd4 : decide (200 < m) = false := by simp; omega
  have H := Lib.hid h
  have HO := Lib.hid ho
  have H' := Lib.hid h'
  have HO' := Lib.hid ho'
  have HR := Lib.hid hr
  have hw0 : why bs = 0 := tel_why (by rw [hr])
  have hbn := h.1
  obtain ⟨f1, _, f3⟩ := why_fine hw0
  obtain ⟨m1, m2, m3⟩ := cut_more (ms := ms) hw0
  have HV := Lib.hid hv
  have HM1 : Hid (tel (bs.take (40 + wd bs 4) ++ ms) = (0, q, ks, f)) := m1.trans hr
  have HM2 := Lib.hid (m2 0)
  have HM3 := Lib.hid (m3 0)
  have LV : Hid (∀ B, (net q (sr bs 0) (ds bs 0) B f).length = 35) := fun _ => parn_length hr
  have S1 : Hid (Sixteen (sr bs 0)) := sr_sixteen (tel_long hr)
  have S2 : Hid (Sixteen (ds bs 0)) := ds_sixteen (tel_long hr)
  have hwi : bs.getD 4 0 * 256 + bs.getD 5 0 = ((wd bs 4 : Nat) : Int) := wd_int ho 4
  have b4 := ho.at_ 4
  have b5 := ho.at_ 5
  have hwb := wd_bd ho 4
  have HOM : Hid (Octs (bs.take (40 + wd bs 4) ++ ms)) := (HO.out.take _).app HO'.out
  clear h ho h' ho' hr hv m1 m2 m3 hw0
  obtain ⟨ad, rfl, _⟩ := H.out.2 (by omega)
  go_enter Try.func5, Try.ntmps5
  go_upto_region 6 with (first | (go_at_call 7; (with_reducible refine (awake_any _).mono ?_); rintro e x1 ⟨rfl, hb⟩; have W1 := Lib.hid hb; clear hb) | (go_at_call 8; (with_reducible refine (parse_any (some ad) n c 0 q bs ks f _ (H.out.below W1.out) HO.out (by omega) hc HR.out).mono ?_); rintro e x2 ⟨A1, c1, rfl, hb, hbod⟩; have W2 : Hid (Below w.heap.size w x2) := W1.out.trans (hb.mono W1.out.size); have BB2 := Lib.hid hbod; clear hb hbod) | (refine wpList_var26 rfl (.tmp 7) (.tmp 30) rfl x2 (net q (sr bs 0) (ds bs 0) (.slice A1 ks.length c1) f) rfl rfl (LV.out _) (net_one rfl) ?_; intro x3 B3 hb3; have W3 : Hid (Below w.heap.size w x3) := W2.out.trans (hb3.out.mono W2.out.size); have BB3 := Lib.hid (BB2.out.below hb3.out); clear hb3))
  obtain ⟨ad', e, hcell⟩ := (H.out.below W3.out).2 (by omega)
  cases e
  have c2 : x3.cell? ⟨ad.block, ad.off + 4, none⟩ = some (.int .u8 (bs.getD 4 0)) := by simpa [Addr.add] using hcell 4 (by omega)
  have c3 : x3.cell? ⟨ad.block, ad.off + 5, none⟩ = some (.int .u8 (bs.getD 5 0)) := by simpa [Addr.add] using hcell 5 (by omega)
  have hn2 : 4 < n := by omega
  have hn3 : 5 < n := by omega
  clear hcell
  obtain ⟨a, ha⟩ : ∃ a, 40 + wd bs 4 = a := ⟨_, rfl⟩
  have HWI : Hid (40 + bs.getD 4 0 * 256 + bs.getD 5 0 = (a : Int)) := by show _ = _; omega
  clear hwi
  have ha40 : 40 ≤ a := by omega
  rw [ha] at HV HM1 HM2 HM3 HOM f3
  have hab : a ≤ 65575 := by omega
  clear ha hwb
  generalize bs.getD 4 0 = u2 at *
  generalize bs.getD 5 0 = u3 at *
  go_cut [9] from 48 to 58 (fun s wx => s = .int .i64 (a : Nat) ∧ Below x3.heap.size x3 wx)
  case first =>
    go_region
    go_wp2_with fail
    go_meet
    case rel => exact ⟨by rw [HWI.out], (Below.refl _ _).drew⟩
  case rest =>
    obtain ⟨rfl, hbl⟩ := hcut
    have W4 : Hid (Below w.heap.size w wc) := W3.out.trans (hbl.mono W3.out.size)
    have B4 := Lib.hid (B3.out.far (Far.of_below hbl nobody) (fun e => e))
    have BB4 := Lib.hid (BB3.out.below hbl)
    clear hbl c2 c3 hn2 hn3 HWI b4 b5 B3 BB3 BB2
    have hlt : x % a < a := Nat.mod_lt _ (by omega)
    have hkc : x % a ≤ c := by omega
    have hac : a ≤ c := by omega
    have hcut1 := fun W => run_upto (A := some ad) (n := n) (c := c) (k := x % a) W hkc
    have hcut2 := fun W => run_upto (A := some ad) (n := n) (c := c) (k := a) W hac
    have ha0 : (a : Int) ≠ 0 := by omega
    have ha1 : ((a : Int) == 0) = false := by simp; omega
    go_upto_region 8 with (first | (go_at_call 8; (with_reducible refine (parse_no (some ad) (x % a) c 5 (bs.take (x % a)) _ ((H.out.below W4.out).upto (by omega)) (HO.out.take _) (by omega) hkc HV.out (by omega)).mono ?_); rintro e x5 ⟨rfl, hb⟩; have W5 : Hid (Below w.heap.size w x5) := W4.out.trans (hb.mono W4.out.size); have B5 := Lib.hid (B4.out.far (Far.of_below hb nobody) (fun e => e)); have BB5 := Lib.hid (BB4.out.below hb); clear hb) | (refine wpList_var26 rfl (.tmp 10) (.tmp 67) rfl x5 (net 0 zz zz (.slice none 0 0) false) rfl rfl (net_length zz_sixteen zz_sixteen) (net_one rfl) ?_; intro w5 _ hb6; have V5 : Hid (Below w.heap.size w w5) := W5.out.trans (hb6.out.mono W5.out.size); have L5 := Lib.hid (B5.out.far (Far.of_below hb6.out nobody) (fun e => e)); have M5 := Lib.hid (BB5.out.below hb6.out); clear hb6))
    have HA5 := Lib.hid (H.out.below V5.out)
    have HB5 := Lib.hid (H'.out.below V5.out)
    have Y6 : Hid (Below w5.heap.size w5 (w5.alloc (.cells #[] 5))) := (Below.refl _ _).alloc (Nat.le_refl _) _
    have O6 := Lib.hid (own_new w5 w5.heap.size (Nat.le_refl _))
    have hsz : w5.heap.size ≤ (w5.alloc (.cells #[] 5)).heap.size := by simp
    go_wp2_with (first | (at_builtin; refine wpList_app_to rfl (.tmp 70) (.tmp 73) rfl w5.heap.size (.slice (some ⟨w5.heap.size, 0, none⟩) 0 0) 0 [] rfl (by exact O6.out) (some ad) a c (bs.take a) rfl (by exact (HA5.out.below Y6.out).upto (by omega)) a (by omega) (bs.take a) rfl (by omega) (by exact hsz) ?_; intro A7 c7 w7 R7 G7 B7; have Y7 : Hid (Below w5.heap.size w5 w7) := Y6.out.grown G7.out Y6.out.size (fun k e => (O6.out.lt k e).1)) | (at_builtin; refine wpList_app_to rfl (.tmp 74) (.tmp 75) rfl w5.heap.size (.slice A7 a c7) a (bs.take a) rfl (by exact R7.out) B m d ms rfl (by exact HB5.out.below Y7.out) (a + m) rfl (bs.take a ++ ms) rfl (by omega) (by exact Y7.out.size) ?_; intro A8 c8 w8 R8 G8 B8; have Y8 : Hid (Below w5.heap.size w5 w8) := Y7.out.grown G8.out Y7.out.size (fun k e => (R7.out.lt k e).1)) | (go_at_call 8; (with_reducible refine (parse_as A8 (a + m) c8 0 q bs (bs.take a ++ ms) ks f _ (Byts.of_own R8.out) HOM.out (by omega) (own_cap R8.out) HM1.out HM2.out HM3.out).mono ?_); rintro e x9 ⟨A9, c9, rfl, hb, hbod⟩; have Y9 : Hid (Below w5.heap.size w5 x9) := Y8.out.trans (hb.mono Y8.out.size); have N9 := Lib.hid hbod; clear hb hbod) | (refine wpList_var26 rfl (.tmp 12) (.tmp 78) rfl x9 (net q (sr bs 0) (ds bs 0) (.slice A9 ks.length c9) f) rfl rfl (LV.out _) (net_one rfl) ?_; intro y9 C9 hb9; have U9 : Hid (Below w5.heap.size w5 y9) := Y9.out.trans (hb9.out.mono Y9.out.size); have LL := Lib.hid (L5.out.far (Far.of_below U9.out nobody) (fun e => e)); have MM := Lib.hid (M5.out.below U9.out); have NN := Lib.hid (N9.out.below hb9.out); clear hb9) | (refine wpList_whole26 (by rfl) (.tmp 12) rfl x9.heap.size rfl (net q (sr bs 0) (ds bs 0) (.slice A9 ks.length c9) f) C9.out (LV.out _) ?_) | (refine wpList_whole26 (by rfl) (.tmp 7) rfl x2.heap.size rfl (net q (sr bs 0) (ds bs 0) (.slice A1 ks.length c1) f) LL.out (LV.out _) ?_) | (go_at_call 10; (with_reducible refine (same_any q (sr bs 0) (ds bs 0) ks A9 A1 ks.length c9 c1 f _ S1.out S2.out NN.out.byts MM.out.byts).mono ?_); rintro e z9 ⟨rfl, hb⟩; have Z9 : Hid (Below w5.heap.size w5 z9) := U9.out.trans (hb.mono U9.out.size); clear hb))
    go_ret
    exact ⟨rfl, V5.out.trans (Z9.out.mono V5.out.size)⟩

theorem cutlaw_near (A B : Option Addr) (n c x m d : Nat) (bs ms : List Int) (w : World) (h : Byts w A n bs) (ho : Octs bs) (hc : n ≤ c) (h' : Byts w B m ms) (ho' : Octs ms) (hn : n ≤ 2000) (hm : m ≤ 200) (hx : x ≤ 65535) :
    Calls Try.prog 5 #[.slice A n c, .int .u16 (x : Nat), .slice B m d] w fun e w' => e = .returned (.bool true) ∧ Below w.heap.size w w' := by
  obtain ⟨⟨r, q, ks, f⟩, hR⟩ : ∃ R, tel bs = R := ⟨_, rfl⟩
  by_cases h0 : r = 0
  · subst h0
    rcases cut_short (x := x % (40 + wd bs 4)) (tel_why (by rw [hR])) (Nat.mod_lt x (by omega)) with hv | hv
    · exact cutlaw_ok1 A B n c x m d bs ms w h ho hc h' ho' hn hm hx q ks f hR hv
    · exact cutlaw_ok5 A B n c x m d bs ms w h ho hc h' ho' hn hm hx q ks f hR hv
  · have hno := tel_no (bs := bs) (by rw [hR]; exact h0)
    rw [show (tel bs).1 = r by rw [hR]] at hno
    exact cutlaw_no A B n c x m d bs w h ho hc hn hm r hno h0
end Go.Proofs.Ytmpkbggnopcajaa
