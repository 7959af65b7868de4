/- The walk of the law PortsRead: for any packet it returns true and turns nothing that was there. -/
import Derived.Test.YtjdehpkomipneaaAwake
namespace Go.Proofs.Ytjdehpkomipneaa
open Go.RowKit

/-- A struct that is boxed, and what came behind it. -/
theorem box_kept {x : World} {g : Nat} {t : TypeId} {xs : List Value} {w1 : World} (h : Blk w1 g t xs) (hb : Below w1.heap.size w1 x) : Blk x g t xs := h.far (Far.of_below hb nobody) (fun e => e)

set_option maxRecDepth 100000 in
set_option maxHeartbeats 1000000 in
theorem read_far (v f : Bool) (p : Int) (s d : List Int) (A : Option Addr) (n c : Nat) (w : World) (hs : Sixteen s) (hd : Sixteen d) (hn : 5000 < n) :
    Calls Try.prog 3 #[.bool v, .agg (net p s d (.slice A n c) f).toArray] w fun e w' => e = .returned (.bool true) ∧ Below w.heap.size w w' := by
  have L1 : Hid (Blk (w.alloc (.cells (net p s d (.slice A n c) f).toArray 25)) w.heap.size 25 (net p s d (.slice A n c) f)) := Blk.new w 25 _
  have W1 : Hid (Below w.heap.size w (w.alloc (.cells (net p s d (.slice A n c) f).toArray 25))) := (Below.refl _ w).alloc (Nat.le_refl _) _
  have HS := Lib.hid hs
  have HD := Lib.hid hd
  clear hs hd
  have hdc : decide ((5000 : Int) < (n : Int)) = true := by simp; omega
  have hdc2 : decide (5000 < n) = true := by simpa using hn
  go_enter Try.func3, Try.ntmps3
  go_upto_region 1 with (fail)
  generalize (w.alloc (.cells (net p s d (.slice A n c) f).toArray 25)) = w1 at *
  go_wp2_with fail
  refine (awake_any _).mono ?_
  rintro e x1 ⟨rfl, hb⟩
  have k3 : x1.cell? ⟨w.heap.size, 33, none⟩ = some (.slice A n c) := ((box_kept L1.out hb).cell 33).trans (net_33 HS.out HD.out)
  have W2 : Hid (Below w.heap.size w x1) := W1.out.trans (hb.mono W1.out.size)
  clear hb
  go_wp2_with fail
  refine (awake_any _).mono ?_
  rintro e x2 ⟨rfl, hb⟩
  have W3 : Hid (Below w.heap.size w x2) := W2.out.trans (hb.mono W2.out.size)
  clear hb
  go_wp2
  go_ret
  exact ⟨rfl, W3.out⟩

set_option maxRecDepth 100000 in
set_option maxHeartbeats 2000000 in
theorem read_near (v f : Bool) (p : Int) (s d bs : List Int) (A : Option Addr) (n c : Nat) (w : World) (hs : Sixteen s) (hd : Sixteen d) (h : Byts w A n bs) (ho : Octs bs) (hc : n ≤ c) (hn : n ≤ 5000) :
    Calls Try.prog 3 #[.bool v, .agg (net p s d (.slice A n c) f).toArray] w fun e w' => e = .returned (.bool true) ∧ Below w.heap.size w w' := by
  obtain ⟨⟨x, y, r⟩, hR⟩ : ∃ R, look v p f bs = R := ⟨_, rfl⟩
  obtain ⟨bx, by_, _⟩ := look_cases ho hR
  have L1 : Hid (Blk (w.alloc (.cells (net p s d (.slice A n c) f).toArray 25)) w.heap.size 25 (net p s d (.slice A n c) f)) := Blk.new w 25 _
  have W1 : Hid (Below w.heap.size w (w.alloc (.cells (net p s d (.slice A n c) f).toArray 25))) := (Below.refl _ w).alloc (Nat.le_refl _) _
  have LN : Hid ((net p s d (.slice A n c) f).length = 35) := net_length hs hd
  have H := Lib.hid h
  have HO := Lib.hid ho
  have HS := Lib.hid hs
  have HD := Lib.hid hd
  have HR := Lib.hid hR
  clear h ho hs hd hR
  have hdc : decide ((5000 : Int) < (n : Int)) = false := by simp; omega
  have hdc2 : decide (5000 < n) = false := by simp; omega
  go_enter Try.func3, Try.ntmps3
  go_upto_region 1 with (fail)
  generalize (w.alloc (.cells (net p s d (.slice A n c) f).toArray 25)) = w1 at *
  go_wp2_with (first | (go_at_call 6; (with_reducible refine (awake_any _).mono ?_); rintro e x1 ⟨rfl, hb⟩; have L2 := Lib.hid (box_kept L1.out hb); have k3 : x1.cell? ⟨w.heap.size, 33, none⟩ = some (.slice A n c) := (L2.out.cell 33).trans (net_33 HS.out HD.out); have W2 : Hid (Below w.heap.size w x1) := W1.out.trans (hb.mono W1.out.size); clear hb) | (refine wpList_whole25 (by rfl) (.tmp 3) rfl w.heap.size rfl (net p s d (.slice A n c) f) L2.out LN.out ?_) | (go_at_call 7; (with_reducible refine (parse_any v f p s d bs A n c x y r _ HS.out HD.out (H.out.below W2.out) HO.out (by omega) hc HR.out).mono ?_); rintro e x2 ⟨rfl, hb⟩; have L3 := Lib.hid (box_kept L2.out hb); have W3 : Hid (Below w.heap.size w x2) := W2.out.trans (hb.mono W2.out.size); clear hb) | (refine wpList_whole25 (by rfl) (.tmp 3) rfl w.heap.size rfl (net p s d (.slice A n c) f) L3.out LN.out ?_) | (go_at_call 8; (with_reducible refine (ref_any v f p s d bs A n c x y r _ HS.out HD.out (H.out.below W3.out) HO.out (by omega) HR.out).mono ?_); rintro e x3 ⟨rfl, hb⟩; have W4 : Hid (Below w.heap.size w x3) := W3.out.trans (hb.mono W3.out.size); clear hb))
  go_ret
  exact ⟨rfl, W4.out⟩
end Go.Proofs.Ytjdehpkomipneaa
