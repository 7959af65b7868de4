/- The walk of the law FrameReads: for any bytes it returns true and turns nothing that was there. -/
import Derived.Test.YtebpemknmcgamaaAwake
namespace Go.Proofs.Ytebpemknmcgamaa
open Go.RowKit

set_option maxHeartbeats 1000000 in
theorem reads_far (C : Prog) (A : Option Addr) (n c : Nat) (w : World) (hn : 10000 < n) : Calls Try.prog 3 #[.slice A n c] w fun e w' => e = .returned (.bool true) ∧ Below w.heap.size w w' := by
  have hd : decide ((10000 : Int) < (n : Int)) = true := by simp; omega
  have hd2 : decide (10000 < n) = true := by simpa using hn
  go_enter Try.func3, Try.ntmps3
  go_wp2_with fail
  refine (awake_any C _).mono ?_
  rintro e w1 ⟨rfl, hb⟩
  have HB := Lib.hid hb
  clear hb
  go_wp2_with fail
  refine (awake_any C _).mono ?_
  rintro e w2 ⟨rfl, hb⟩
  have HC := Lib.hid hb
  clear hb
  go_wp2
  go_ret
  exact ⟨rfl, HB.out.trans (HC.out.mono HB.out.size)⟩

set_option maxRecDepth 100000 in
set_option maxHeartbeats 2000000 in
theorem reads_near (C : Prog) (A : Option Addr) (n c : Nat) (bs : List Int) (w : World) (h : Byts w A n bs) (ho : Octs bs) (hc : n ≤ c) (hn : n ≤ 10000) : Calls Try.prog 3 #[.slice A n c] w fun e w' => e = .returned (.bool true) ∧ Below w.heap.size w w' := by
  have hd : decide ((10000 : Int) < (n : Int)) = false := by simp; omega
  have hd2 : decide (10000 < n) = false := by simp; omega
  obtain ⟨⟨P, r⟩, hP⟩ : ∃ R, pk bs = R := ⟨_, rfl⟩
  have HK := Lib.hid (pk_is ho hP).1
  have LP := Lib.hid HK.out.length
  have hq := fun W => HK.out.self (by have := h.1; omega) W
  have H := Lib.hid h
  have HO := Lib.hid ho
  have HP := Lib.hid hP
  clear h ho hP
  go_enter Try.func3, Try.ntmps3
  go_wp2_with (first | (go_at_call 9; (with_reducible refine (awake_any C _).mono ?_); rintro e x1 ⟨rfl, hb⟩; have W1 := Lib.hid hb; clear hb) | (go_at_call 10; (with_reducible refine (C.parse A n c r bs P _ (H.out.below W1.out) HO.out (by omega) hc HP.out).mono ?_); rintro e x2 ⟨rfl, hb⟩; have W2 : Hid (Below w.heap.size w x2) := W1.out.trans (hb.mono W1.out.size); clear hb) | (refine wpList_packet rfl (.tmp 3) (.tmp 18) rfl x2 P rfl rfl LP.out (one_all HK.out.each) ?_; intro x3 B3 hb; have W3 : Hid (Below w.heap.size w x3) := W2.out.trans (hb.out.mono W2.out.size); clear hb) | (go_at_call 11; (with_reducible refine (refParse_any A n c r bs P _ (H.out.below W3.out) HO.out (by omega) hc HP.out).mono ?_); rintro e x4 ⟨rfl, hb⟩; have W4 : Hid (Below w.heap.size w x4) := W3.out.trans (hb.mono W3.out.size); have B4 := Lib.hid (kept B3.out hb); clear hb) | (refine wpList_packet rfl (.tmp 5) (.tmp 23) rfl x4 P rfl rfl LP.out (one_all HK.out.each) ?_; intro x5 B5 hb; have W5 : Hid (Below w.heap.size w x5) := W4.out.trans (hb.out.mono W4.out.size); have D5 := Lib.hid (kept B4.out hb.out); clear hb) | (refine wpList_whole_packet (by rfl) (.tmp 3) rfl x2.heap.size rfl P D5.out LP.out ?_) | (refine wpList_whole_packet (by rfl) (.tmp 5) rfl x4.heap.size rfl P B5.out LP.out ?_))
  go_ret
  exact ⟨rfl, W5.out⟩
end Go.Proofs.Ytebpemknmcgamaa
