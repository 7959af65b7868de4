/- The walk of the law Inet6Reads: for any bytes it returns true and turns nothing that was there. -/
import Derived.Test.YtmpkbggnopcajaaAwake
namespace Go.Proofs.Ytmpkbggnopcajaa
open Go.RowKit

set_option maxHeartbeats 1000000 in
theorem reads_far (A : Option Addr) (n c : Nat) (w : World) (hn : 10000 < n) : Calls Try.prog 3 #[.slice A n c] w fun e w' => e = .returned (.bool true) ∧ Below w.heap.size w w' := by
  have hd : decide ((10000 : Int) < (n : Int)) = true := by simp; omega
  have hd2 : decide (10000 < n) = true := by simpa using hn
  go_enter Try.func3, Try.ntmps3
  go_wp2_with fail
  refine (awake_any _).mono ?_
  rintro e w1 ⟨rfl, hb⟩
  have HB := Lib.hid hb
  clear hb
  go_wp2_with fail
  refine (awake_any _).mono ?_
  rintro e w2 ⟨rfl, hb⟩
  have HC := Lib.hid hb
  clear hb
  go_wp2
  go_ret
  exact ⟨rfl, HB.out.trans (HC.out.mono HB.out.size)⟩

set_option maxRecDepth 100000 in
set_option maxHeartbeats 2000000 in
theorem reads_near (A : Option Addr) (n c : Nat) (bs : List Int) (w : World) (h : Byts w A n bs) (ho : Octs bs) (hc : n ≤ c) (hn : n ≤ 10000) : Calls Try.prog 3 #[.slice A n c] w fun e w' => e = .returned (.bool true) ∧ Below w.heap.size w w' := by
  have hd : decide ((10000 : Int) < (n : Int)) = false := by simp; omega
  have hd2 : decide (10000 < n) = false := by simp; omega
  have H := Lib.hid h
  have HO := Lib.hid ho
  obtain ⟨⟨r, q, ks, f⟩, hR⟩ : ∃ R, tel bs = R := ⟨_, rfl⟩
  have HR := Lib.hid hR
  have LV : Hid (∀ B, (net q (sr bs r) (ds bs r) B f).length = 35) := fun _ => parn_length hR
  have S1 : Hid (Sixteen (sr bs r)) := sr_sixteen (tel_long hR)
  have S2 : Hid (Sixteen (ds bs r)) := ds_sixteen (tel_long hR)
  clear h ho hR
  go_enter Try.func3, Try.ntmps3
  go_upto_region 5 with (first | (go_at_call 7; (with_reducible refine (awake_any _).mono ?_); rintro e x1 ⟨rfl, hb⟩; have W1 := Lib.hid hb; clear hb) | (go_at_call 8; (with_reducible refine (parse_any A n c r q bs ks f _ (H.out.below W1.out) HO.out (by omega) hc HR.out).mono ?_); rintro e x2 ⟨A1, c1, rfl, hb, hbod⟩; have BB2 := Lib.hid hbod; have W2 : Hid (Below w.heap.size w x2) := W1.out.trans (hb.mono W1.out.size); clear hb hbod) | (refine wpList_var26 rfl (.tmp 3) (.tmp 18) rfl x2 (net q (sr bs r) (ds bs r) (.slice A1 ks.length c1) f) rfl rfl (LV.out _) (net_one rfl) ?_; intro x3 B3 hb3; have W3 : Hid (Below w.heap.size w x3) := W2.out.trans (hb3.out.mono W2.out.size); have BB3 := Lib.hid (BB2.out.below hb3.out); clear hb3) | (go_at_call 9; (with_reducible refine (ref_any A n c r q bs ks f _ (H.out.below W3.out) HO.out (by omega) hc HR.out).mono ?_); rintro e x4 ⟨A2, c2, rfl, hb, hby⟩; have HB4 := Lib.hid hby; have BB4 := Lib.hid (BB3.out.below hb); have W4 : Hid (Below w.heap.size w x4) := W3.out.trans (hb.mono W3.out.size); have B4 := Lib.hid (B3.out.far (Far.of_below hb nobody) (fun e => e)); clear hb hby) | (refine wpList_var30 rfl (.tmp 5) (.tmp 23) rfl x4 (net q (sr bs r) (ds bs r) (.slice A2 ks.length c2) f) rfl rfl (LV.out _) (net_one rfl) ?_; intro x5 C5 hb5; have W5 : Hid (Below w.heap.size w x5) := W4.out.trans (hb5.out.mono W4.out.size); have B5 := Lib.hid (B4.out.far (Far.of_below hb5.out nobody) (fun e => e)); have BB5 := Lib.hid (BB4.out.below hb5.out); have HB5 := Lib.hid (HB4.out.below hb5.out); clear hb5))
  go_wp2_with (first | (refine wpList_whole26 (by rfl) (.tmp 3) rfl x2.heap.size rfl (net q (sr bs r) (ds bs r) (.slice A1 ks.length c1) f) B5.out (LV.out _) ?_) | (refine wpList_whole30 (by rfl) (.tmp 5) rfl x4.heap.size rfl (net q (sr bs r) (ds bs r) (.slice A2 ks.length c2) f) C5.out (LV.out _) ?_) | (go_at_call 10; (with_reducible refine (same_any q (sr bs r) (ds bs r) ks A1 A2 ks.length c1 c2 f _ S1.out S2.out BB5.out.byts HB5.out).mono ?_); rintro e x6 ⟨rfl, hb⟩; have W6 : Hid (Below w.heap.size w x6) := W5.out.trans (hb.mono W5.out.size); clear hb))
  go_ret
  exact ⟨rfl, W6.out⟩
end Go.Proofs.Ytmpkbggnopcajaa
