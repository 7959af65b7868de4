/- GensPlay: too many acts, too many flows, no such gens. Conditions: those of each theorem. -/
import Derived.Test.YtfhlgmmfknfamaaAwake
import Derived.Lib.MinMax
namespace Go.Proofs.Ytfhlgmmfknfamaa
open Go.RowKit

set_option maxRecDepth 100000 in
set_option maxHeartbeats 2000000 in
theorem plays_long (T : Gbl) (K : Ks) (P : ProgG T K) (z : Int) (k0 : Key) (A B : Option Addr) (l m c c2 : Nat) (y : Int) (w : World) (hl : 60 < l) (hl2 : l ≤ maxLen) :
    Calls Try.prog 3 #[.int .i64 z, .agg k0.cs.toArray, .slice A l c, .slice B m c2, .int .i64 y] w (Ans (.bool true) w) := by
  have HA := Lib.hid (fun W => awake_ T K P W)
  have X1 : Hid (Below w.heap.size w (w.alloc (.cells k0.cs.toArray 22))) := (Below.refl _ w).alloc (Nat.le_refl _) _
  unfold maxLen at hl2
  clear P
  go_enter Try.func3, Try.ntmps3
  go_upto_region 1 with fail
  generalize (w.alloc (.cells k0.cs.toArray 22)) = w0 at *
  go_wp2_with (first
    | (go_at_call 7; (with_reducible refine (HA.out w0).mono ?_); rintro e w1 ⟨rfl, hb⟩; have W1 : Hid (Below w.heap.size w w1) := X1.out.trans (hb.mono X1.out.size); clear hb)
    | (go_at_call 7; (with_reducible refine (HA.out w1).mono ?_); rintro e w2 ⟨rfl, hb⟩; have W2 : Hid (Below w.heap.size w w2) := W1.out.trans (hb.mono W1.out.size); clear hb))
  go_ret
  exact ⟨rfl, W2.out⟩
set_option maxRecDepth 100000 in
set_option maxHeartbeats 2000000 in
theorem plays_wide (T : Gbl) (K : Ks) (P : ProgG T K) (z : Int) (k0 : Key) (A B : Option Addr) (l m c c2 : Nat) (y : Int) (w : World) (hl : l ≤ 60) (hm : 10 < m) (hm2 : m ≤ maxLen) :
    Calls Try.prog 3 #[.int .i64 z, .agg k0.cs.toArray, .slice A l c, .slice B m c2, .int .i64 y] w (Ans (.bool true) w) := by
  have HA := Lib.hid (fun W => awake_ T K P W)
  have X1 : Hid (Below w.heap.size w (w.alloc (.cells k0.cs.toArray 22))) := (Below.refl _ w).alloc (Nat.le_refl _) _
  unfold maxLen at hm2
  clear P
  go_enter Try.func3, Try.ntmps3
  go_upto_region 1 with fail
  generalize (w.alloc (.cells k0.cs.toArray 22)) = w0 at *
  go_wp2_with (first
    | (go_at_call 7; (with_reducible refine (HA.out w0).mono ?_); rintro e w1 ⟨rfl, hb⟩; have W1 : Hid (Below w.heap.size w w1) := X1.out.trans (hb.mono X1.out.size); clear hb)
    | (go_at_call 7; (with_reducible refine (HA.out w1).mono ?_); rintro e w2 ⟨rfl, hb⟩; have W2 : Hid (Below w.heap.size w w2) := W1.out.trans (hb.mono W1.out.size); clear hb))
  go_ret
  exact ⟨rfl, W2.out⟩
set_option maxRecDepth 100000 in
set_option maxHeartbeats 2000000 in
theorem plays_less (T : Gbl) (K : Ks) (P : ProgG T K) (z : Int) (k0 : Key) (A B : Option Addr) (l m c c2 : Nat) (y : Int) (w : World) (hl : l ≤ 60) (hm : m ≤ 10) (hk : k0.Ok) (hz : i64 z) (hb : z < 1) :
    Calls Try.prog 3 #[.int .i64 z, .agg k0.cs.toArray, .slice A l c, .slice B m c2, .int .i64 y] w (Ans (.bool true) w) := by
  have HA := Lib.hid (fun W => awake_ T K P W)
  have HB := Lib.hid (fun W => P.bad z k0 W hz hk (by omega))
  have HR := Lib.hid (fun W => P.rekeyNil k0 W hk)
  have HM := Lib.hid (fun W => P.movingNil W)
  have HE := Lib.hid (fun W => P.epochNil W)
  have X1 : Hid (Below w.heap.size w (w.alloc (.cells k0.cs.toArray 22))) := (Below.refl _ w).alloc (Nat.le_refl _) _
  have Y1 := Lib.hid (Blk.new w 22 k0.cs)
  clear P hk
  go_enter Try.func3, Try.ntmps3
  go_upto_region 1 with fail
  generalize (w.alloc (.cells k0.cs.toArray 22)) = w0 at *
  go_upto_region 3 with (go_at_call 7; (with_reducible refine (HA.out w0).mono ?_); rintro e w1 ⟨rfl, hb⟩; have W1 : Hid (Below w.heap.size w w1) := X1.out.trans (hb.mono X1.out.size); have Y2 := Lib.hid (Y1.out.below hb); clear hb)
  go_upto_region 4 with (first
    | (refine wpList_key (by rfl) (.tmp 6) rfl _ 0 rfl k0 (whole_at Y2.out) ?_)
    | (go_at_call 8; (with_reducible refine (HB.out w1).mono ?_); rintro e w2 ⟨rfl, hb⟩; have W2 : Hid (Below w.heap.size w w2) := W1.out.trans (hb.mono W1.out.size); have Y3 := Lib.hid (Y2.out.below hb); clear hb))
  go_upto_region 5 with fail
  go_wp2_with (first
    | (refine wpList_key (by rfl) (.tmp 6) rfl _ 0 rfl k0 (whole_at Y3.out) ?_)
    | (go_at_call 9; (with_reducible refine (HR.out w2).mono ?_); rintro e w3 ⟨rfl, hb⟩; have W3 : Hid (Below w.heap.size w w3) := W2.out.trans (hb.mono W2.out.size); clear hb)
    | (go_at_call 10; (with_reducible refine (HM.out w3).mono ?_); rintro e w4 ⟨rfl, hb⟩; have W4 : Hid (Below w.heap.size w w4) := W3.out.trans (hb.mono W3.out.size); clear hb)
    | (go_at_call 11; (with_reducible refine (HE.out w4).mono ?_); rintro e w5 ⟨rfl, hb⟩; have W5 : Hid (Below w.heap.size w w5) := W4.out.trans (hb.mono W4.out.size); clear hb))
  go_ret
  exact ⟨rfl, W5.out⟩
set_option maxRecDepth 100000 in
set_option maxHeartbeats 2000000 in
theorem plays_more (T : Gbl) (K : Ks) (P : ProgG T K) (z : Int) (k0 : Key) (A B : Option Addr) (l m c c2 : Nat) (y : Int) (w : World) (hl : l ≤ 60) (hm : m ≤ 10) (hk : k0.Ok) (hz : i64 z) (hb : 64 < z) :
    Calls Try.prog 3 #[.int .i64 z, .agg k0.cs.toArray, .slice A l c, .slice B m c2, .int .i64 y] w (Ans (.bool true) w) := by
  have HA := Lib.hid (fun W => awake_ T K P W)
  have HB := Lib.hid (fun W => P.bad z k0 W hz hk (by omega))
  have HR := Lib.hid (fun W => P.rekeyNil k0 W hk)
  have HM := Lib.hid (fun W => P.movingNil W)
  have HE := Lib.hid (fun W => P.epochNil W)
  have X1 : Hid (Below w.heap.size w (w.alloc (.cells k0.cs.toArray 22))) := (Below.refl _ w).alloc (Nat.le_refl _) _
  have Y1 := Lib.hid (Blk.new w 22 k0.cs)
  clear P hk
  go_enter Try.func3, Try.ntmps3
  go_upto_region 1 with fail
  generalize (w.alloc (.cells k0.cs.toArray 22)) = w0 at *
  go_upto_region 3 with (go_at_call 7; (with_reducible refine (HA.out w0).mono ?_); rintro e w1 ⟨rfl, hb⟩; have W1 : Hid (Below w.heap.size w w1) := X1.out.trans (hb.mono X1.out.size); have Y2 := Lib.hid (Y1.out.below hb); clear hb)
  go_upto_region 4 with (first
    | (refine wpList_key (by rfl) (.tmp 6) rfl _ 0 rfl k0 (whole_at Y2.out) ?_)
    | (go_at_call 8; (with_reducible refine (HB.out w1).mono ?_); rintro e w2 ⟨rfl, hb⟩; have W2 : Hid (Below w.heap.size w w2) := W1.out.trans (hb.mono W1.out.size); have Y3 := Lib.hid (Y2.out.below hb); clear hb))
  go_upto_region 5 with fail
  go_wp2_with (first
    | (refine wpList_key (by rfl) (.tmp 6) rfl _ 0 rfl k0 (whole_at Y3.out) ?_)
    | (go_at_call 9; (with_reducible refine (HR.out w2).mono ?_); rintro e w3 ⟨rfl, hb⟩; have W3 : Hid (Below w.heap.size w w3) := W2.out.trans (hb.mono W2.out.size); clear hb)
    | (go_at_call 10; (with_reducible refine (HM.out w3).mono ?_); rintro e w4 ⟨rfl, hb⟩; have W4 : Hid (Below w.heap.size w w4) := W3.out.trans (hb.mono W3.out.size); clear hb)
    | (go_at_call 11; (with_reducible refine (HE.out w4).mono ?_); rintro e w5 ⟨rfl, hb⟩; have W5 : Hid (Below w.heap.size w w5) := W4.out.trans (hb.mono W4.out.size); clear hb))
  go_ret
  exact ⟨rfl, W5.out⟩
end Go.Proofs.Ytfhlgmmfknfamaa
