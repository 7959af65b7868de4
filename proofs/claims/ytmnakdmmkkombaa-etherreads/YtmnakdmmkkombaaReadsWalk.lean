/- The walk of the law EtherReads: for any bytes it returns true and turns nothing that was there. -/
import Derived.Test.YtmnakdmmkkombaaAwake
namespace Go.Proofs.Ytmnakdmmkkombaa
open Go.RowKit

set_option maxHeartbeats 1000000 in
theorem reads_far (A : Option Addr) (n c : Nat) (w : World) (hn : 10000 < n) : Calls Try.prog 3 #[.slice A n c] w fun e w' => e = .returned (.bool true) ∧ Below w.heap.size w w' := by
  have hd : decide ((10000 : Int) < (n : Int)) = true := by simp; omega
  have hd2 : decide (10000 < n) = true := by simpa using hn
  go_enter Try.func3, Try.ntmps3
  go_wp2_with fail
  refine (awake_any _).mono ?_
  rintro e w1 ⟨rfl, hb⟩
  have HB := Lib.hid hb
  clear hb
  go_wp2_with fail
  refine (awake_any _).mono ?_
  rintro e w2 ⟨rfl, hb⟩
  have HC := Lib.hid hb
  clear hb
  go_wp2
  go_ret
  exact ⟨rfl, HB.out.trans (HC.out.mono HB.out.size)⟩

set_option maxHeartbeats 1000000 in
theorem reads_near (A : Option Addr) (n c : Nat) (bs : List Int) (w : World) (h : Byts w A n bs) (ho : Octs bs) (hc : n ≤ c) (hn : n ≤ 10000) : Calls Try.prog 3 #[.slice A n c] w fun e w' => e = .returned (.bool true) ∧ Below w.heap.size w w' := by
  have hd : decide ((10000 : Int) < (n : Int)) = false := by simp; omega
  have hd2 : decide (10000 < n) = false := by simp; omega
  obtain ⟨b, a, r, hl⟩ : ∃ b a r, look bs 3 12 = (b, a, r) := ⟨_, _, _, rfl⟩
  have H := Lib.hid h
  have HO := Lib.hid ho
  have HL := Lib.hid hl
  clear h ho hl
  go_enter Try.func3, Try.ntmps3
  go_wp2_with fail
  refine (awake_any _).mono ?_
  rintro e w1 ⟨rfl, hb⟩
  have W1 := Lib.hid hb
  clear hb
  go_wp2_with fail
  refine (parse_any A n c bs b a r _ (H.out.below W1.out) HO.out hc HL.out).mono ?_
  rintro e w2 ⟨rfl, hb⟩
  have W2 : Hid (Below w.heap.size w w2) := W1.out.trans (hb.mono W1.out.size)
  clear hb
  have W3 : Hid (Below w.heap.size w (w2.alloc (.cells #[.bool b, .int .i64 (a : Nat)] 25))) := W2.out.alloc W2.out.size _
  have L3 : Hid (Blk (w2.alloc (.cells #[.bool b, .int .i64 (a : Nat)] 25)) w2.heap.size 25 [.bool b, .int .i64 (a : Nat)]) := Blk.new w2 25 _
  go_wp2_with fail
  refine (ref_any A n c bs b a r _ (H.out.below W3.out) HO.out (by omega) HL.out).mono ?_
  rintro e w4 ⟨rfl, hb⟩
  have W4 : Hid (Below w.heap.size w w4) := W3.out.trans (hb.mono W3.out.size)
  have L4 : Blk w4 w2.heap.size 25 [.bool b, .int .i64 (a : Nat)] := (hb.block _ (by simp)).trans L3.out
  have hc0 : w4.cell? ⟨w2.heap.size, 0, none⟩ = some (.bool b) := L4.cell 0
  have hc1 : w4.cell? ⟨w2.heap.size, 1, none⟩ = some (.int .i64 (a : Nat)) := L4.cell 1
  clear hb L4
  go_wp2
  go_ret
  exact ⟨rfl, W4.out⟩
end Go.Proofs.Ytmnakdmmkkombaa
