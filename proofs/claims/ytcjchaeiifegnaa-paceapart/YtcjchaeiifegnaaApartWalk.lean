/- The walk of the law PaceApart: for any numbers, waits and lengths it returns true and turns nothing that was there. -/
import Derived.Test.YtcjchaeiifegnaaRefusesWalk
namespace Go.Proofs.Ytcjchaeiifegnaa
open Go.RowKit

set_option maxRecDepth 100000 in
set_option maxHeartbeats 4000000 in
theorem apart_near (ns : Int) (A : Option Addr) (n c : Nat) (X : Nat → Int) (B : Option Addr) (m d : Nat) (Y : Nat → Int) (w : World) (hn : n ≤ 60) (hm : n ≤ m) (hr0 : 0 ≤ ns) (hr1 : ns ≤ 65535) (hma : m ≤ 9223372036854775807) (ha : WordsIn w A n X) (hb : WordsIn w B m Y) :
    Calls Try.prog 4 #[.int .u16 ns, .slice A n c, .slice B m d] w fun e w' => e = .returned (.bool true) ∧ Below w.heap.size w w' := by
  have HA := Lib.hid ha
  have HB := Lib.hid hb
  clear ha hb
  have hd : decide ((60 : Int) < (n : Int)) = false := by simp; omega
  have hd2 : decide ((m : Int) < (n : Int)) = false := by simp; omega
  go_enter Try.func4, Try.ntmps4
  go_wp2_with (first | (go_at_call 7; (with_reducible refine (awake_any _).mono ?_); rintro e w1 ⟨rfl, hb1⟩; have W1 := Lib.hid hb1; clear hb1) | (go_at_call 8; (with_reducible refine (new_ _ _ (by omega) (by omega)).mono ?_); rintro e w2 ⟨g, rfl, hr, a1, hb2⟩; have R2 := Lib.hid hr; have W2 : Hid (Below w.heap.size w w2) := W1.out.trans (hb2.mono W1.out.size); have hsz1 := W1.out.size; have a1' : w.heap.size ≤ g := (by omega); clear hr hb2 W1 hsz1 a1))
  go_loopw [9, 10, 11, 12, 13, 14, 15, 16, 17, 18, 43] (fun nx _ _ _ _ _ _ _ _ _ i w' => ∃ (k : Nat) (E : Int), k ≤ n ∧ i = .int .i64 k ∧ nx = .int .i64 E ∧ 0 ≤ E ∧ E ≤ 700000000 * (k : Int) ∧ WireRel w g (1 + ns) E w') (fun _ _ _ _ _ _ _ _ _ _ i _ => n - (intOf i).toNat)
  case atStart => exact ⟨0, 0, by omega, rfl, rfl, by omega, by omega, R2.out, W2.out⟩
  case round =>
    clear R2 W2
    obtain ⟨k, E, hk, rfl, rfl, he0, he1, hr⟩ := hrel
    have R4 := Lib.hid hr
    clear hr
    by_cases hlt : k < n
    · obtain ⟨a, rfl, hca0, hx0, hx1⟩ := HA.out k hlt
      obtain ⟨b, rfl, hcb0, hy0, hy1⟩ := HB.out k (by omega)
      have hca1 : wr.cell? (a.add k) = some (.int .u16 (X k)) := (R4.out.be.cell (World.block_lt_of_cell? w _ hca0)).trans hca0
      have hcb1 : wr.cell? (b.add k) = some (.int .u16 (Y k)) := (R4.out.be.cell (World.block_lt_of_cell? w _ hcb0)).trans hcb0
      clear hca0 hcb0 HA HB
      generalize X k = x at *
      generalize Y k = y at *
      obtain ⟨L, hL⟩ : ∃ L : Int, 1 + y % 9216 = L := ⟨_, rfl⟩
      have hL1 : 1 ≤ L := by omega
      have hL2 : L ≤ 9216 := by omega
      obtain ⟨F, hF⟩ : ∃ F : Int, E + x = F := ⟨_, rfl⟩
      obtain ⟨hE, hE1, hE2⟩ := endOf_small (ns := 1 + ns) (x := F) (n := L) (by omega) (by omega) hL1 hL2 (by omega) (by omega)
      have HN1 := Lib.hid (why_none (nx := E) (x := F) (n := L) hL1 hL2 (by omega) (by omega) (by omega))
      obtain ⟨G, hG⟩ : ∃ G, endOf (1 + ns) F L = G := ⟨_, rfl⟩
      have HS := Lib.hid hG
      have HN2 := Lib.hid (why_busy (nx := G) (x := G - 1) (n := 1) (by omega) (by omega) (by omega) (by omega) (by omega))
      rw [hG] at hE
      have hG1 : (G - F == L * (1 + ns)) = true := by simp; omega
      have hG2 : (G - F != L * (1 + ns)) = false := by simp; omega
      have hG3 : decide (F < E) = false := by simp; omega
      have hG4 : 0 ≤ G := by omega
      have hG5 : G ≤ 700000000 * ((k + 1 : Nat) : Int) := by omega
      clear hE hG
      go_wp2_with (first | (go_at_call 11; (with_reducible refine (send_ok g (1 + ns) E F L _ R4.out.at_ HN1.out).mono ?_); rintro e w3 ⟨rfl, hr3, hf3⟩; rw [HS.out] at hr3 ⊢; have R3 : Hid (WireRel w g (1 + ns) G w3) := ⟨hr3, below_only R4.out.be hf3 a1' R4.out.be.size⟩; clear hr3 hf3) | (go_at_call 11; (with_reducible refine (send_no g (1 + ns) G (G - 1) 1 _ R3.out.at_ (by rw [HN2.out]; decide)).mono ?_); rw [HN2.out]; rintro e w' ⟨rfl, rfl⟩))
      go_roundw
      case rel => exact ⟨k + 1, G, by omega, by go_num, rfl, hG4, hG5, R3.out⟩
      case measure => simp [intOf]; omega
    · obtain rfl : k = n := by omega
      go_wp2
      go_ret
      exact ⟨rfl, R4.out.be⟩

set_option maxRecDepth 100000 in
set_option maxHeartbeats 2000000 in
theorem apart_far (ns : Int) (A : Option Addr) (n c : Nat) (B : Option Addr) (m d : Nat) (w : World) (hn : 60 < n) :
    Calls Try.prog 4 #[.int .u16 ns, .slice A n c, .slice B m d] w fun e w' => e = .returned (.bool true) ∧ Below w.heap.size w w' := by
  have hd : decide ((60 : Int) < (n : Int)) = true := by simp; omega
  go_enter Try.func4, Try.ntmps4
  go_wp2_with fail
  refine (awake_any _).mono ?_
  rintro e w1 ⟨rfl, hb1⟩
  have W1 := Lib.hid hb1
  clear hb1
  go_wp2_with fail
  refine (awake_any _).mono ?_
  rintro e w2 ⟨rfl, hb2⟩
  have W2 : Hid (Below w.heap.size w w2) := W1.out.trans (hb2.mono W1.out.size)
  clear hb2
  go_wp2_with fail
  go_ret
  exact ⟨rfl, W2.out⟩

set_option maxRecDepth 100000 in
set_option maxHeartbeats 2000000 in
theorem apart_short (ns : Int) (A : Option Addr) (n c : Nat) (B : Option Addr) (m d : Nat) (w : World) (hn : n ≤ 60) (hm : m < n) :
    Calls Try.prog 4 #[.int .u16 ns, .slice A n c, .slice B m d] w fun e w' => e = .returned (.bool true) ∧ Below w.heap.size w w' := by
  have hd : decide ((60 : Int) < (n : Int)) = false := by simp; omega
  have hd2 : decide ((m : Int) < (n : Int)) = true := by simp; omega
  go_enter Try.func4, Try.ntmps4
  go_wp2_with fail
  refine (awake_any _).mono ?_
  rintro e w1 ⟨rfl, hb1⟩
  have W1 := Lib.hid hb1
  clear hb1
  go_wp2_with fail
  refine (awake_any _).mono ?_
  rintro e w2 ⟨rfl, hb2⟩
  have W2 : Hid (Below w.heap.size w w2) := W1.out.trans (hb2.mono W1.out.size)
  clear hb2
  go_wp2_with fail
  go_ret
  exact ⟨rfl, W2.out⟩
end Go.Proofs.Ytcjchaeiifegnaa
