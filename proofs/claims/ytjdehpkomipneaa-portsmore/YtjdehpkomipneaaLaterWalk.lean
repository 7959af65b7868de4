/- The walk of the law PortsLater: for any packet and any byte it returns true and turns nothing that was there. -/
import Derived.Test.YtjdehpkomipneaaReadWalk
namespace Go.Proofs.Ytjdehpkomipneaa
open Go.RowKit

theorem net_set0 {p q : Int} {s d : List Int} {B : Value} {f : Bool} : (net p s d B f).set 0 (.int .u8 q) = net q s d B f := rfl
theorem net_set34 {p : Int} {s d : List Int} {B : Value} {f g : Bool} (hs : Sixteen s) (hd : Sixteen d) : (net p s d B f).set 34 (.bool g) = net p s d B g := by
  unfold Sixteen at hs hd
  rw [net, net, show 34 = 33 + 1 by rfl, List.set_cons_succ, List.set_append_right _ _ (by rw [cel_length]; omega), cel_length, hs, List.set_append_right _ _ (by rw [cel_length]; omega), cel_length, hd]
  rfl
set_option maxRecDepth 100000 in
set_option maxHeartbeats 1000000 in
theorem later_far (v f : Bool) (p q : Int) (s d : List Int) (A : Option Addr) (n c : Nat) (w : World) (hs : Sixteen s) (hd : Sixteen d) (hn : 5000 < n) :
    Calls Try.prog 4 #[.bool v, .agg (net p s d (.slice A n c) f).toArray, .int .u8 q] w fun e w' => e = .returned (.bool true) ∧ Below w.heap.size w w' := by
  have L1 : Hid (Blk (w.alloc (.cells (net p s d (.slice A n c) f).toArray 25)) w.heap.size 25 (net p s d (.slice A n c) f)) := Blk.new w 25 _
  have W1 : Hid (Below w.heap.size w (w.alloc (.cells (net p s d (.slice A n c) f).toArray 25))) := (Below.refl _ w).alloc (Nat.le_refl _) _
  have HS := Lib.hid hs
  have HD := Lib.hid hd
  clear hs hd
  have hdc : decide ((5000 : Int) < (n : Int)) = true := by simp; omega
  have hdc2 : decide (5000 < n) = true := by simpa using hn
  go_enter Try.func4, Try.ntmps4
  go_upto_region 1 with (fail)
  generalize (w.alloc (.cells (net p s d (.slice A n c) f).toArray 25)) = w1 at *
  go_wp2_with fail
  refine (awake_any _).mono ?_
  rintro e x1 ⟨rfl, hb⟩
  have k3 : x1.cell? ⟨w.heap.size, 33, none⟩ = some (.slice A n c) := ((box_kept L1.out hb).cell 33).trans (net_33 HS.out HD.out)
  have W2 : Hid (Below w.heap.size w x1) := W1.out.trans (hb.mono W1.out.size)
  clear hb
  go_wp2_with fail
  refine (awake_any _).mono ?_
  rintro e x2 ⟨rfl, hb⟩
  have W3 : Hid (Below w.heap.size w x2) := W2.out.trans (hb.mono W2.out.size)
  clear hb
  go_wp2
  go_ret
  exact ⟨rfl, W3.out⟩

set_option maxRecDepth 100000 in
set_option maxHeartbeats 4000000 in
theorem later_near (v f : Bool) (p q : Int) (s d bs : List Int) (A : Option Addr) (n c : Nat) (w : World) (hs : Sixteen s) (hd : Sixteen d) (h : Byts w A n bs) (ho : Octs bs) (hc : n ≤ c) (hn : n ≤ 5000) :
    Calls Try.prog 4 #[.bool v, .agg (net p s d (.slice A n c) f).toArray, .int .u8 q] w fun e w' => e = .returned (.bool true) ∧ Below w.heap.size w w' := by
  have L1 : Hid (Blk (w.alloc (.cells (net p s d (.slice A n c) f).toArray 25)) w.heap.size 25 (net p s d (.slice A n c) f)) := Blk.new w 25 _
  have W1 : Hid (Below w.heap.size w (w.alloc (.cells (net p s d (.slice A n c) f).toArray 25))) := (Below.refl _ w).alloc (Nat.le_refl _) _
  have LN : Hid (∀ p f, (net p s d (.slice A n c) f).length = 35) := fun _ _ => net_length hs hd
  have H := Lib.hid h
  have HO := Lib.hid ho
  have HS := Lib.hid hs
  have HD := Lib.hid hd
  clear h ho hs hd
  have hdc : decide ((5000 : Int) < (n : Int)) = false := by simp; omega
  have hdc2 : decide (5000 < n) = false := by simp; omega
  go_enter Try.func4, Try.ntmps4
  go_upto_region 1 with (fail)
  generalize (w.alloc (.cells (net p s d (.slice A n c) f).toArray 25)) = w1 at *
  go_upto_region 3 with (go_at_call 6; (with_reducible refine (awake_any _).mono ?_); rintro e x1 ⟨rfl, hb⟩; have L2 := Lib.hid (box_kept L1.out hb); have k3 : x1.cell? ⟨w.heap.size, 33, none⟩ = some (.slice A n c) := (L2.out.cell 33).trans (net_33 HS.out HD.out); have W2 : Hid (Below w.heap.size w x1) := W1.out.trans (hb.mono W1.out.size); clear hb)
  clear k3
  have k4 : x1.cell? ⟨w.heap.size, 34, none⟩ = some (.bool f) := (L2.out.cell 34).trans (net_34 HS.out HD.out)
  have f4 := L2.out.frozen 34
  go_upto_region 4 with (fail)
  have L3 : Hid (Blk (x1.setCell ⟨w.heap.size, 34, none⟩ (.bool false)) w.heap.size 25 (net p s d (.slice A n c) false)) := by
    have := L2.out.set_ 34 (.bool false)
    rw [net_set34 HS.out HD.out] at this
    exact this
  have W3 : Hid (Below w.heap.size w (x1.setCell ⟨w.heap.size, 34, none⟩ (.bool false))) := W2.out.setCell (p := ⟨w.heap.size, 34, none⟩) (Nat.le_refl _) _
  clear k4 f4
  generalize (x1.setCell ⟨w.heap.size, 34, none⟩ (.bool false)) = x2 at *
  go_upto_region 5 with (first | (refine wpList_whole25 (by rfl) (.tmp 4) rfl w.heap.size rfl (net p s d (.slice A n c) false) L3.out (LN.out _ _) ?_) | (go_at_call 7; (with_reducible refine (parse_any v false p s d bs A n c 0 0 0 _ HS.out HD.out (H.out.below W3.out) HO.out (by omega) hc look_later).mono ?_); rintro e x3 ⟨rfl, hb⟩; have L4 := Lib.hid (box_kept L3.out hb); have W4 : Hid (Below w.heap.size w x3) := W3.out.trans (hb.mono W3.out.size); clear hb))
  have k4 : x3.cell? ⟨w.heap.size, 34, none⟩ = some (.bool false) := (L4.out.cell 34).trans (net_34 HS.out HD.out)
  have f4 := L4.out.frozen 34
  have k0 : x3.cell? ⟨w.heap.size, 0, none⟩ = some (.int .u8 p) := (L4.out.cell 0).trans net_0
  have f0 := L4.out.frozen 0
  go_upto_region 6 with (fail)
  have L5 : Hid (Blk ((x3.setCell ⟨w.heap.size, 34, none⟩ (.bool true)).setCell ⟨w.heap.size, 0, none⟩ (.int .u8 q)) w.heap.size 25 (net q s d (.slice A n c) true)) := by
    have := (L4.out.set_ 34 (.bool true)).set_ 0 (.int .u8 q)
    rw [net_set34 HS.out HD.out, net_set0] at this
    exact this
  have W5 : Hid (Below w.heap.size w ((x3.setCell ⟨w.heap.size, 34, none⟩ (.bool true)).setCell ⟨w.heap.size, 0, none⟩ (.int .u8 q))) := (W4.out.setCell (p := ⟨w.heap.size, 34, none⟩) (Nat.le_refl _) _).setCell (p := ⟨w.heap.size, 0, none⟩) (Nat.le_refl _) _
  clear k4 f4 k0 f0
  generalize ((x3.setCell ⟨w.heap.size, 34, none⟩ (.bool true)).setCell ⟨w.heap.size, 0, none⟩ (.int .u8 q)) = x4 at *
  by_cases e0 : q = 6
  · subst e0
    go_wp2
    go_ret
    exact ⟨rfl, W5.out⟩
  · have d0 : (q == 6) = false := by simpa using e0
    by_cases e1 : q = 17
    · subst e1
      clear d0 e0
      go_wp2
      go_ret
      exact ⟨rfl, W5.out⟩
    · have d1 : (q == 17) = false := by simpa using e1
      cases v
      · by_cases e2 : q = 1
        · subst e2
          clear d0 e0 d1 e1
          go_wp2
          go_ret
          exact ⟨rfl, W5.out⟩
        · have d2 : (q == 1) = false := by simpa using e2
          have hz : sz false q = 0 := sz_zero e0 e1 e2
          have HZ := Lib.hid (look_none (bs := bs) hz)
          clear e0 e1 e2 hz
          go_wp2_with (first | (refine wpList_whole25 (by rfl) (.tmp 4) rfl w.heap.size rfl (net q s d (.slice A n c) true) L5.out (LN.out _ _) ?_) | (go_at_call 7; (with_reducible refine (parse_any false true q s d bs A n c 0 0 0 _ HS.out HD.out (H.out.below W5.out) HO.out (by omega) hc HZ.out).mono ?_); rintro e x5 ⟨rfl, hb⟩; have W6 : Hid (Below w.heap.size w x5) := W5.out.trans (hb.mono W5.out.size); clear hb))
          go_ret
          exact ⟨rfl, W6.out⟩
      · by_cases e2 : q = 58
        · subst e2
          clear d0 e0 d1 e1
          go_wp2
          go_ret
          exact ⟨rfl, W5.out⟩
        · have d2 : (q == 58) = false := by simpa using e2
          have hz : sz true q = 0 := sz_zero e0 e1 e2
          have HZ := Lib.hid (look_none (bs := bs) hz)
          clear e0 e1 e2 hz
          go_wp2_with (first | (refine wpList_whole25 (by rfl) (.tmp 4) rfl w.heap.size rfl (net q s d (.slice A n c) true) L5.out (LN.out _ _) ?_) | (go_at_call 7; (with_reducible refine (parse_any true true q s d bs A n c 0 0 0 _ HS.out HD.out (H.out.below W5.out) HO.out (by omega) hc HZ.out).mono ?_); rintro e x5 ⟨rfl, hb⟩; have W6 : Hid (Below w.heap.size w x5) := W5.out.trans (hb.mono W5.out.size); clear hb))
          go_ret
          exact ⟨rfl, W6.out⟩
end Go.Proofs.Ytjdehpkomipneaa
