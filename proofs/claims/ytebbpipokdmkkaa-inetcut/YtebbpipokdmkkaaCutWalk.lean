/- The walk of the law InetCut: for any bytes, any place and any bytes behind it returns true and turns nothing that was there. -/
import Derived.Test.YtebbpipokdmkkaaCutNums
import Derived.Test.YtebbpipokdmkkaaReadsWalk
namespace Go.Proofs.Ytebbpipokdmkkaa
open Go.RowKit

/-- A new empty row. -/
theorem own_new (w : World) (base : Nat) (h : base ≤ w.heap.size) : (w.alloc (.cells #[] 5)).ownsRow base 5 1 (.slice (some ⟨w.heap.size, 0, none⟩) 0 0) 0 (cel []) :=
  ⟨rfl, .inr ⟨w.heap.size, 0, #[], rfl, h, heap_alloc_new w _, Nat.le_refl _, by decide, rfl, rfl⟩⟩
set_option maxHeartbeats 1000000 in
theorem cutlaw_far (A B : Option Addr) (n c x m d : Nat) (w : World) (hn : 2000 < n ∨ 200 < m) : Calls Try.prog 5 #[.slice A n c, .int .u16 (x : Nat), .slice B m d] w fun e w' => e = .returned (.bool true) ∧ Below w.heap.size w w' := by
  by_cases h : 2000 < n
  · have hd : decide ((2000 : Int) < (n : Int)) = true := by simp; omega
    have hd2 : decide (2000 < n) = true := by simpa using h
    go_enter Try.func5, Try.ntmps5
    go_wp2_with fail
    refine (awake_any _).mono ?_
    rintro e w1 ⟨rfl, hb⟩
    have HB := Lib.hid hb
    clear hb
    go_wp2_with fail
    refine (awake_any _).mono ?_
    rintro e w2 ⟨rfl, hb⟩
    have HC := Lib.hid hb
    clear hb
    go_wp2
    go_ret
    exact ⟨rfl, HB.out.trans (HC.out.mono HB.out.size)⟩
  · have hd : decide ((2000 : Int) < (n : Int)) = false := by simp; omega
    have hd2 : decide (2000 < n) = false := by simpa using h
    have hd3 : decide ((200 : Int) < (m : Int)) = true := by simp; omega
    have hd4 : decide (200 < m) = true := by simp; omega
    go_enter Try.func5, Try.ntmps5
    go_wp2_with fail
    refine (awake_any _).mono ?_
    rintro e w1 ⟨rfl, hb⟩
    have HB := Lib.hid hb
    clear hb
    go_wp2_with fail
    refine (awake_any _).mono ?_
    rintro e w2 ⟨rfl, hb⟩
    have HC := Lib.hid hb
    clear hb
    go_wp2
    go_ret
    exact ⟨rfl, HB.out.trans (HC.out.mono HB.out.size)⟩

set_option maxRecDepth 100000 in
set_option maxHeartbeats 2000000 in
theorem cutlaw_no (A B : Option Addr) (n c x m d : Nat) (bs : List Int) (w : World) (h : Byts w A n bs) (ho : Octs bs) (hc : n ≤ c) (hn : n ≤ 2000) (hm : m ≤ 200) (r : Nat) (hr : why bs = r) (h0 : r ≠ 0) :
    Calls Try.prog 5 #[.slice A n c, .int .u16 (x : Nat), .slice B m d] w fun e w' => e = .returned (.bool true) ∧ Below w.heap.size w w' := by
  have hd : decide ((2000 : Int) < (n : Int)) = false := by simp; omega
  have hd2 : decide (2000 < n) = false := by simp; omega
  have hd3 : decide ((200 : Int) < (m : Int)) = false := by simp; omega
  have hd4 : decide (200 < m) = false := by simp; omega
  have H := Lib.hid h
  have HO := Lib.hid ho
  have HR := Lib.hid hr
  have hd5 : ((r : Int) != 0) = true := by simp; omega
  clear h ho hr
  go_enter Try.func5, Try.ntmps5
  go_upto_region 4 with (first | (go_at_call 7; (with_reducible refine (awake_any _).mono ?_); rintro e x1 ⟨rfl, hb⟩; have W1 := Lib.hid hb; clear hb) | (go_at_call 8; (with_reducible refine (parse_no A n c r bs _ (H.out.below W1.out) HO.out (by omega) hc HR.out h0).mono ?_); rintro e x2 ⟨rfl, hb⟩; have W2 : Hid (Below w.heap.size w x2) := W1.out.trans (hb.mono W1.out.size); clear hb) | (refine wpList_var26 rfl (.tmp 7) (.tmp 30) rfl x2 (net 0 zz zz (.slice none 0 0) false) rfl rfl (net_length zz_sixteen zz_sixteen) (net_one rfl) ?_; intro x3 B3 hb3; have W3 : Hid (Below w.heap.size w x3) := W2.out.trans (hb3.out.mono W2.out.size); clear hb3))
  have k0 : x3.cell? ⟨x2.heap.size, 0, none⟩ = some (.int .u8 0) := B3.out.cell 0
  have k3 : x3.cell? ⟨x2.heap.size, 33, none⟩ = some (.slice none 0 0) := B3.out.cell 33
  have k4 : x3.cell? ⟨x2.heap.size, 34, none⟩ = some (.bool false) := B3.out.cell 34
  go_wp2
  go_ret
  exact ⟨rfl, W3.out⟩

set_option maxRecDepth 100000 in
set_option maxHeartbeats 4000000 in
theorem cutlaw_ok1 (A B : Option Addr) (n c x m d : Nat) (bs ms : List Int) (w : World) (h : Byts w A n bs) (ho : Octs bs) (hc : n ≤ c) (h' : Byts w B m ms) (ho' : Octs ms) (hn : n ≤ 2000) (hm : m ≤ 200) (hx : x ≤ 65535) (hr : why bs = 0) (hv : why (bs.take (x % wd bs 2)) = 1) :
    Calls Try.prog 5 #[.slice A n c, .int .u16 (x : Nat), .slice B m d] w fun e w' => e = .returned (.bool true) ∧ Below w.heap.size w w' := by
  have hd : decide ((2000 : Int) < (n : Int)) = false := by simp; omega
  have hd2 : decide (2000 < n) = false := by simp; omega
  have hd3 : decide ((200 : Int) < (m : Int)) = false := by simp; omega
  have hd4 : decide (200 < m) = false := by simp; omega
  have hbn := h.1
  have H := Lib.hid h
  have HO := Lib.hid ho
  have H' := Lib.hid h'
  have HO' := Lib.hid ho'
  have HR := Lib.hid hr
  obtain ⟨f1, f2, f3, f4, f5, _, _⟩ := why_fine hr
  obtain ⟨m1, m2, m3, m4⟩ := cut_more (ms := ms) hr
  have HV := Lib.hid hv
  have HM1 := Lib.hid m1
  have HM2 := Lib.hid m2
  have HM3 := Lib.hid m3
  have HM4 := Lib.hid m4
  have HBL := Lib.hid (body_length hr)
  have hwi := wd_int ho 2
  have b2 := ho.at_ 2
  have b3 := ho.at_ 3
  have hwb := wd_bd ho 2
  have HOM : Hid (Octs (bs.take (wd bs 2) ++ ms)) := (HO.out.take _).app HO'.out
  clear h ho h' ho' hr hv m1 m2 m3 m4
  obtain ⟨ad, rfl, _⟩ := H.out.2 (by omega)
  go_enter Try.func5, Try.ntmps5
  go_upto_region 6 with (first | (go_at_call 7; (with_reducible refine (awake_any _).mono ?_); rintro e x1 ⟨rfl, hb⟩; have W1 := Lib.hid hb; clear hb) | (go_at_call 8; (with_reducible refine (parse_ok (some ad) n c bs _ (H.out.below W1.out) HO.out (by omega) hc HR.out).mono ?_); rintro e x2 ⟨g, rfl, hb, hg, hbk⟩; have W2 : Hid (Below w.heap.size w x2) := W1.out.trans (hb.mono W1.out.size); have BB2 := Lib.hid hbk; clear hb hg hbk) | (refine wpList_var26 rfl (.tmp 7) (.tmp 30) rfl x2 (toldV bs (.slice (some ⟨g, 0, none⟩) (much bs) (much bs))) rfl rfl (told_length f1) (net_one rfl) ?_; intro x3 B3 hb3; have W3 : Hid (Below w.heap.size w x3) := W2.out.trans (hb3.out.mono W2.out.size); have BB3 := Lib.hid (BB2.out.far (Far.of_below hb3.out nobody) (fun e => e)); clear hb3))
  obtain ⟨ad', e, hcell⟩ := (H.out.below W3.out).2 (by omega)
  cases e
  have c2 : x3.cell? ⟨ad.block, ad.off + 2, none⟩ = some (.int .u8 (bs.getD 2 0)) := by simpa [Addr.add] using hcell 2 (by omega)
  have c3 : x3.cell? ⟨ad.block, ad.off + 3, none⟩ = some (.int .u8 (bs.getD 3 0)) := by simpa [Addr.add] using hcell 3 (by omega)
  have hn2 : 2 < n := by omega
  have hn3 : 3 < n := by omega
  clear hcell
  have HWI : Hid (bs.getD 2 0 * 256 + bs.getD 3 0 = ((wd bs 2 : Nat) : Int)) := hwi
  clear hwi
  obtain ⟨a, ha⟩ : ∃ a, wd bs 2 = a := ⟨_, rfl⟩
  rw [ha] at HWI HV HM1 HM2 HM3 HM4 HOM f4 f5 hwb
  clear ha
  generalize bs.getD 2 0 = u2 at *
  generalize bs.getD 3 0 = u3 at *
  go_cut [9] from 48 to 57 (fun s wx => s = .int .i64 (a : Nat) ∧ Below x3.heap.size x3 wx)
  case first =>
    go_region
    go_wp2_with fail
    go_meet
    case rel => exact ⟨by rw [HWI.out], (Below.refl _ _).drew⟩
  case rest =>
    obtain ⟨rfl, hbl⟩ := hcut
    have W4 : Hid (Below w.heap.size w wc) := W3.out.trans (hbl.mono W3.out.size)
    have B4 := Lib.hid (B3.out.far (Far.of_below hbl nobody) (fun e => e))
    have BB4 := Lib.hid (BB3.out.far (Far.of_below hbl nobody) (fun e => e))
    clear hbl c2 c3 hn2 hn3 HWI b2 b3 B3 BB3
    have hlt : x % a < a := Nat.mod_lt _ (by omega)
    have hkc : x % a ≤ c := by omega
    have hac : a ≤ c := by omega
    have hcut1 := fun W => run_upto (A := some ad) (n := n) (c := c) (k := x % a) W hkc
    have hcut2 := fun W => run_upto (A := some ad) (n := n) (c := c) (k := a) W hac
    have ha0 : (a : Int) ≠ 0 := by omega
    have ha1 : ((a : Int) == 0) = false := by simp; omega
    go_upto_region 8 with (first | (go_at_call 8; (with_reducible refine (parse_no (some ad) (x % a) c 1 (bs.take (x % a)) _ ((H.out.below W4.out).upto (by omega)) (HO.out.take _) (by omega) hkc HV.out (by omega)).mono ?_); rintro e x5 ⟨rfl, hb⟩; have W5 : Hid (Below w.heap.size w x5) := W4.out.trans (hb.mono W4.out.size); have B5 := Lib.hid (B4.out.far (Far.of_below hb nobody) (fun e => e)); have BB5 := Lib.hid (BB4.out.far (Far.of_below hb nobody) (fun e => e)); clear hb) | (refine wpList_var26 rfl (.tmp 10) (.tmp 66) rfl x5 (net 0 zz zz (.slice none 0 0) false) rfl rfl (net_length zz_sixteen zz_sixteen) (net_one rfl) ?_; intro w5 _ hb6; have V5 : Hid (Below w.heap.size w w5) := W5.out.trans (hb6.out.mono W5.out.size); have L5 := Lib.hid (B5.out.far (Far.of_below hb6.out nobody) (fun e => e)); have M5 := Lib.hid (BB5.out.far (Far.of_below hb6.out nobody) (fun e => e)); clear hb6))
    have hs5 := V5.out.size
    have V6 : Hid (Below w.heap.size w (w5.alloc (.cells #[] 5))) := V5.out.alloc hs5 _
    have L6 := Lib.hid (L5.out.alloc (.cells #[] 5))
    have M6 := Lib.hid (M5.out.alloc (.cells #[] 5))
    have O6 := Lib.hid (own_new w5 w5.heap.size (Nat.le_refl _))
    have hgl : g < w5.heap.size := M5.out.lt
    have hsz : w5.heap.size ≤ (w5.alloc (.cells #[] 5)).heap.size := by simp
    go_wp2_with (first | (at_builtin; refine wpList_app_to rfl (.tmp 69) (.tmp 72) rfl w5.heap.size (.slice (some ⟨w5.heap.size, 0, none⟩) 0 0) 0 [] rfl (by exact O6.out) (some ad) a c (bs.take a) rfl (by exact (H.out.below V6.out).upto (by omega)) a (by omega) (bs.take a) rfl (by omega) (by exact hsz) ?_; intro A7 c7 w7 R7 G7 B7; have V7 : Hid (Below w.heap.size w w7) := V6.out.grown G7.out V6.out.size (fun k e => Nat.le_trans hs5 (O6.out.lt k e).1); have L7 := Lib.hid (L6.out.grown G7.out (L6.out.row_apart O6.out (by decide))); have M7 := Lib.hid (M6.out.grown G7.out (fun e => by have := (O6.out.lt _ e).1; omega)); have hz7 : w5.heap.size ≤ w7.heap.size := Nat.le_trans hsz G7.out.size) | (at_builtin; refine wpList_app_to rfl (.tmp 73) (.tmp 74) rfl w5.heap.size (.slice A7 a c7) a (bs.take a) rfl (by exact R7.out) B m d ms rfl (by exact H'.out.below V7.out) (a + m) rfl (bs.take a ++ ms) rfl (by omega) (by exact hz7) ?_; intro A8 c8 w8 R8 G8 B8; have V8 : Hid (Below w.heap.size w w8) := V7.out.grown G8.out V7.out.size (fun k e => Nat.le_trans hs5 (R7.out.lt k e).1); have L8 := Lib.hid (L7.out.grown G8.out (L7.out.row_apart R7.out (by decide))); have M8 := Lib.hid (M7.out.grown G8.out (fun e => by have := (R7.out.lt _ e).1; omega))) | (go_at_call 8; (with_reducible refine (parse_as A8 (a + m) c8 bs (bs.take a ++ ms) _ (Byts.of_own R8.out) HOM.out (by omega) (own_cap R8.out) HM1.out HM2.out HM3.out HM4.out).mono ?_); rintro e x9 ⟨g9, rfl, hb, hg9, hbk⟩; have V9 : Hid (Below w.heap.size w x9) := V8.out.trans (hb.mono V8.out.size); have L9 := Lib.hid (L8.out.far (Far.of_below hb nobody) (fun e => e)); have M9 := Lib.hid (M8.out.far (Far.of_below hb nobody) (fun e => e)); have N9 := Lib.hid hbk; clear hb hg9 hbk) | (refine wpList_var26 rfl (.tmp 12) (.tmp 77) rfl x9 (toldV bs (.slice (some ⟨g9, 0, none⟩) (much bs) (much bs))) rfl rfl (told_length f1) (net_one rfl) ?_; intro y9 C9 hb9; have U9 : Hid (Below w.heap.size w y9) := V9.out.trans (hb9.out.mono V9.out.size); have LL := Lib.hid (L9.out.far (Far.of_below hb9.out nobody) (fun e => e)); have MM := Lib.hid (M9.out.far (Far.of_below hb9.out nobody) (fun e => e)); have NN := Lib.hid (N9.out.far (Far.of_below hb9.out nobody) (fun e => e)); clear hb9) | (refine wpList_whole26 (by rfl) (.tmp 12) rfl x9.heap.size rfl (toldV bs (.slice (some ⟨g9, 0, none⟩) (much bs) (much bs))) C9.out (told_length f1) ?_) | (refine wpList_whole26 (by rfl) (.tmp 7) rfl x2.heap.size rfl (toldV bs (.slice (some ⟨g, 0, none⟩) (much bs) (much bs))) LL.out (told_length f1) ?_) | (go_at_call 10; (with_reducible refine (same_told bs (body bs) (some ⟨g9, 0, none⟩) (some ⟨g, 0, none⟩) (much bs) (much bs) (much bs) _ f1 (Byts.of_all NN.out HBL.out) (Byts.of_all MM.out HBL.out)).mono ?_); rintro e z9 ⟨rfl, hb⟩; have Z9 : Hid (Below w.heap.size w z9) := U9.out.trans (hb.mono U9.out.size); clear hb))
    go_ret
    exact ⟨rfl, Z9.out⟩

set_option maxRecDepth 100000 in
set_option maxHeartbeats 4000000 in
theorem cutlaw_ok5 (A B : Option Addr) (n c x m d : Nat) (bs ms : List Int) (w : World) (h : Byts w A n bs) (ho : Octs bs) (hc : n ≤ c) (h' : Byts w B m ms) (ho' : Octs ms) (hn : n ≤ 2000) (hm : m ≤ 200) (hx : x ≤ 65535) (hr : why bs = 0) (hv : why (bs.take (x % wd bs 2)) = 5) :
    Calls Try.prog 5 #[.slice A n c, .int .u16 (x : Nat), .slice B m d] w fun e w' => e = .returned (.bool true) ∧ Below w.heap.size w w' := by
  have hd : decide ((2000 : Int) < (n : Int)) = false := by simp; omega
  have hd2 : decide (2000 < n) = false := by simp; omega
  have hd3 : decide ((200 : Int) < (m : Int)) = false := by simp; omega
  have hd4 : decide (200 < m) = false := by simp; omega
  have hbn := h.1
  have H := Lib.hid h
  have HO := Lib.hid ho
  have H' := Lib.hid h'
  have HO' := Lib.hid ho'
  have HR := Lib.hid hr
  obtain ⟨f1, f2, f3, f4, f5, _, _⟩ := why_fine hr
  obtain ⟨m1, m2, m3, m4⟩ := cut_more (ms := ms) hr
  have HV := Lib.hid hv
  have HM1 := Lib.hid m1
  have HM2 := Lib.hid m2
  have HM3 := Lib.hid m3
  have HM4 := Lib.hid m4
  have HBL := Lib.hid (body_length hr)
  have hwi := wd_int ho 2
  have b2 := ho.at_ 2
  have b3 := ho.at_ 3
  have hwb := wd_bd ho 2
  have HOM : Hid (Octs (bs.take (wd bs 2) ++ ms)) := (HO.out.take _).app HO'.out
  clear h ho h' ho' hr hv m1 m2 m3 m4
  obtain ⟨ad, rfl, _⟩ := H.out.2 (by omega)
  go_enter Try.func5, Try.ntmps5
  go_upto_region 6 with (first | (go_at_call 7; (with_reducible refine (awake_any _).mono ?_); rintro e x1 ⟨rfl, hb⟩; have W1 := Lib.hid hb; clear hb) | (go_at_call 8; (with_reducible refine (parse_ok (some ad) n c bs _ (H.out.below W1.out) HO.out (by omega) hc HR.out).mono ?_); rintro e x2 ⟨g, rfl, hb, hg, hbk⟩; have W2 : Hid (Below w.heap.size w x2) := W1.out.trans (hb.mono W1.out.size); have BB2 := Lib.hid hbk; clear hb hg hbk) | (refine wpList_var26 rfl (.tmp 7) (.tmp 30) rfl x2 (toldV bs (.slice (some ⟨g, 0, none⟩) (much bs) (much bs))) rfl rfl (told_length f1) (net_one rfl) ?_; intro x3 B3 hb3; have W3 : Hid (Below w.heap.size w x3) := W2.out.trans (hb3.out.mono W2.out.size); have BB3 := Lib.hid (BB2.out.far (Far.of_below hb3.out nobody) (fun e => e)); clear hb3))
  obtain ⟨ad', e, hcell⟩ := (H.out.below W3.out).2 (by omega)
  cases e
  have c2 : x3.cell? ⟨ad.block, ad.off + 2, none⟩ = some (.int .u8 (bs.getD 2 0)) := by simpa [Addr.add] using hcell 2 (by omega)
  have c3 : x3.cell? ⟨ad.block, ad.off + 3, none⟩ = some (.int .u8 (bs.getD 3 0)) := by simpa [Addr.add] using hcell 3 (by omega)
  have hn2 : 2 < n := by omega
  have hn3 : 3 < n := by omega
  clear hcell
  have HWI : Hid (bs.getD 2 0 * 256 + bs.getD 3 0 = ((wd bs 2 : Nat) : Int)) := hwi
  clear hwi
  obtain ⟨a, ha⟩ : ∃ a, wd bs 2 = a := ⟨_, rfl⟩
  rw [ha] at HWI HV HM1 HM2 HM3 HM4 HOM f4 f5 hwb
  clear ha
  generalize bs.getD 2 0 = u2 at *
  generalize bs.getD 3 0 = u3 at *
  go_cut [9] from 48 to 57 (fun s wx => s = .int .i64 (a : Nat) ∧ Below x3.heap.size x3 wx)
  case first =>
    go_region
    go_wp2_with fail
    go_meet
    case rel => exact ⟨by rw [HWI.out], (Below.refl _ _).drew⟩
  case rest =>
    obtain ⟨rfl, hbl⟩ := hcut
    have W4 : Hid (Below w.heap.size w wc) := W3.out.trans (hbl.mono W3.out.size)
    have B4 := Lib.hid (B3.out.far (Far.of_below hbl nobody) (fun e => e))
    have BB4 := Lib.hid (BB3.out.far (Far.of_below hbl nobody) (fun e => e))
    clear hbl c2 c3 hn2 hn3 HWI b2 b3 B3 BB3
    have hlt : x % a < a := Nat.mod_lt _ (by omega)
    have hkc : x % a ≤ c := by omega
    have hac : a ≤ c := by omega
    have hcut1 := fun W => run_upto (A := some ad) (n := n) (c := c) (k := x % a) W hkc
    have hcut2 := fun W => run_upto (A := some ad) (n := n) (c := c) (k := a) W hac
    have ha0 : (a : Int) ≠ 0 := by omega
    have ha1 : ((a : Int) == 0) = false := by simp; omega
    go_upto_region 8 with (first | (go_at_call 8; (with_reducible refine (parse_no (some ad) (x % a) c 5 (bs.take (x % a)) _ ((H.out.below W4.out).upto (by omega)) (HO.out.take _) (by omega) hkc HV.out (by omega)).mono ?_); rintro e x5 ⟨rfl, hb⟩; have W5 : Hid (Below w.heap.size w x5) := W4.out.trans (hb.mono W4.out.size); have B5 := Lib.hid (B4.out.far (Far.of_below hb nobody) (fun e => e)); have BB5 := Lib.hid (BB4.out.far (Far.of_below hb nobody) (fun e => e)); clear hb) | (refine wpList_var26 rfl (.tmp 10) (.tmp 66) rfl x5 (net 0 zz zz (.slice none 0 0) false) rfl rfl (net_length zz_sixteen zz_sixteen) (net_one rfl) ?_; intro w5 _ hb6; have V5 : Hid (Below w.heap.size w w5) := W5.out.trans (hb6.out.mono W5.out.size); have L5 := Lib.hid (B5.out.far (Far.of_below hb6.out nobody) (fun e => e)); have M5 := Lib.hid (BB5.out.far (Far.of_below hb6.out nobody) (fun e => e)); clear hb6))
    have hs5 := V5.out.size
    have V6 : Hid (Below w.heap.size w (w5.alloc (.cells #[] 5))) := V5.out.alloc hs5 _
    have L6 := Lib.hid (L5.out.alloc (.cells #[] 5))
    have M6 := Lib.hid (M5.out.alloc (.cells #[] 5))
    have O6 := Lib.hid (own_new w5 w5.heap.size (Nat.le_refl _))
    have hgl : g < w5.heap.size := M5.out.lt
    have hsz : w5.heap.size ≤ (w5.alloc (.cells #[] 5)).heap.size := by simp
    go_wp2_with (first | (at_builtin; refine wpList_app_to rfl (.tmp 69) (.tmp 72) rfl w5.heap.size (.slice (some ⟨w5.heap.size, 0, none⟩) 0 0) 0 [] rfl (by exact O6.out) (some ad) a c (bs.take a) rfl (by exact (H.out.below V6.out).upto (by omega)) a (by omega) (bs.take a) rfl (by omega) (by exact hsz) ?_; intro A7 c7 w7 R7 G7 B7; have V7 : Hid (Below w.heap.size w w7) := V6.out.grown G7.out V6.out.size (fun k e => Nat.le_trans hs5 (O6.out.lt k e).1); have L7 := Lib.hid (L6.out.grown G7.out (L6.out.row_apart O6.out (by decide))); have M7 := Lib.hid (M6.out.grown G7.out (fun e => by have := (O6.out.lt _ e).1; omega)); have hz7 : w5.heap.size ≤ w7.heap.size := Nat.le_trans hsz G7.out.size) | (at_builtin; refine wpList_app_to rfl (.tmp 73) (.tmp 74) rfl w5.heap.size (.slice A7 a c7) a (bs.take a) rfl (by exact R7.out) B m d ms rfl (by exact H'.out.below V7.out) (a + m) rfl (bs.take a ++ ms) rfl (by omega) (by exact hz7) ?_; intro A8 c8 w8 R8 G8 B8; have V8 : Hid (Below w.heap.size w w8) := V7.out.grown G8.out V7.out.size (fun k e => Nat.le_trans hs5 (R7.out.lt k e).1); have L8 := Lib.hid (L7.out.grown G8.out (L7.out.row_apart R7.out (by decide))); have M8 := Lib.hid (M7.out.grown G8.out (fun e => by have := (R7.out.lt _ e).1; omega))) | (go_at_call 8; (with_reducible refine (parse_as A8 (a + m) c8 bs (bs.take a ++ ms) _ (Byts.of_own R8.out) HOM.out (by omega) (own_cap R8.out) HM1.out HM2.out HM3.out HM4.out).mono ?_); rintro e x9 ⟨g9, rfl, hb, hg9, hbk⟩; have V9 : Hid (Below w.heap.size w x9) := V8.out.trans (hb.mono V8.out.size); have L9 := Lib.hid (L8.out.far (Far.of_below hb nobody) (fun e => e)); have M9 := Lib.hid (M8.out.far (Far.of_below hb nobody) (fun e => e)); have N9 := Lib.hid hbk; clear hb hg9 hbk) | (refine wpList_var26 rfl (.tmp 12) (.tmp 77) rfl x9 (toldV bs (.slice (some ⟨g9, 0, none⟩) (much bs) (much bs))) rfl rfl (told_length f1) (net_one rfl) ?_; intro y9 C9 hb9; have U9 : Hid (Below w.heap.size w y9) := V9.out.trans (hb9.out.mono V9.out.size); have LL := Lib.hid (L9.out.far (Far.of_below hb9.out nobody) (fun e => e)); have MM := Lib.hid (M9.out.far (Far.of_below hb9.out nobody) (fun e => e)); have NN := Lib.hid (N9.out.far (Far.of_below hb9.out nobody) (fun e => e)); clear hb9) | (refine wpList_whole26 (by rfl) (.tmp 12) rfl x9.heap.size rfl (toldV bs (.slice (some ⟨g9, 0, none⟩) (much bs) (much bs))) C9.out (told_length f1) ?_) | (refine wpList_whole26 (by rfl) (.tmp 7) rfl x2.heap.size rfl (toldV bs (.slice (some ⟨g, 0, none⟩) (much bs) (much bs))) LL.out (told_length f1) ?_) | (go_at_call 10; (with_reducible refine (same_told bs (body bs) (some ⟨g9, 0, none⟩) (some ⟨g, 0, none⟩) (much bs) (much bs) (much bs) _ f1 (Byts.of_all NN.out HBL.out) (Byts.of_all MM.out HBL.out)).mono ?_); rintro e z9 ⟨rfl, hb⟩; have Z9 : Hid (Below w.heap.size w z9) := U9.out.trans (hb.mono U9.out.size); clear hb))
    go_ret
    exact ⟨rfl, Z9.out⟩

theorem cutlaw_near (A B : Option Addr) (n c x m d : Nat) (bs ms : List Int) (w : World) (h : Byts w A n bs) (ho : Octs bs) (hc : n ≤ c) (h' : Byts w B m ms) (ho' : Octs ms) (hn : n ≤ 2000) (hm : m ≤ 200) (hx : x ≤ 65535) :
    Calls Try.prog 5 #[.slice A n c, .int .u16 (x : Nat), .slice B m d] w fun e w' => e = .returned (.bool true) ∧ Below w.heap.size w w' := by
  by_cases hr : why bs = 0
  · have hl : 0 < wd bs 2 := by have := why_fine hr; omega
    rcases cut_short hr (Nat.mod_lt x hl) with hv | hv
    · exact cutlaw_ok1 A B n c x m d bs ms w h ho hc h' ho' hn hm hx hr hv
    · exact cutlaw_ok5 A B n c x m d bs ms w h ho hc h' ho' hn hm hx hr hv
  · exact cutlaw_no A B n c x m d bs w h ho hc hn hm _ rfl hr
end Go.Proofs.Ytebbpipokdmkkaa
