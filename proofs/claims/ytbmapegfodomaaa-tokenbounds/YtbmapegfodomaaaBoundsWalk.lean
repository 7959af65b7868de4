/- The walk of the law TokenBounds: for any rate, burst, waits and askings it returns true and turns nothing that was there. -/
import Derived.Test.YtbmapegfodomaaaNoneWalk
namespace Go.Proofs.Ytbmapegfodomaaa
open Go.RowKit

/-- What is there later is at most what was, and what came. -/
theorem lev_came {r B L m d : Int} (h : Ok r B L m) (hd : 0 ≤ d) (hd1 : d ≤ 4611686018427387904) : lev r B L m (m + d) ≤ L + r * d := by
  obtain ⟨r0, r1, h1, h2, h3, h4, h5⟩ := h
  have hp := Int.mul_nonneg r0 hd
  by_cases hz : d = 0
  · rw [lev_old (by omega)]
    omega
  · rw [lev_new (by omega), show m + d - m = d by omega]
    have c1 : cnt r = r := cnt_id r0 (by omega)
    have c2 : cnt d = d := cnt_id hd hd1
    unfold mulC
    rw [c1, c2]
    generalize r * d = p at *
    unfold addC
    (repeat' split) <;> omega
/-- One round: what was taken, and what is there, is at most the burst, and what came. -/
theorem bounds_step {r b L m d T n : Int} (h : Ok r (b * 1048576) L m) (hd : 0 ≤ d) (hd1 : d ≤ 4611686018427387904) (hi : T * 1048576 + L ≤ b * 1048576 + r * m) :
    (okT r (b * 1048576) L m (m + d) n = true → (T + n) * 1048576 + lef r (b * 1048576) L m (m + d) n ≤ b * 1048576 + r * (m + d)) ∧
    (okT r (b * 1048576) L m (m + d) n = false → T * 1048576 + lef r (b * 1048576) L m (m + d) n ≤ b * 1048576 + r * (m + d)) := by
  have hl := lev_came h hd hd1
  have e : r * (m + d) = r * m + r * d := Int.mul_add _ _ _
  rw [e]
  generalize r * m = p at *
  generalize r * d = q at *
  refine ⟨fun k => ?_, fun k => ?_⟩
  · rw [lef_yes k]; omega
  · rw [lef_no k]; omega

set_option maxRecDepth 100000 in
set_option maxHeartbeats 4000000 in
theorem bounds_near (x0 y0 : Int) (A : Option Addr) (n c : Nat) (X : Nat → Int) (B : Option Addr) (l d : Nat) (Y : Nat → Int) (w : World) (hn : n ≤ 80) (hm : n ≤ l) (hx0 : 0 ≤ x0) (hx1 : x0 ≤ 4294967295) (hy0 : 0 ≤ y0) (hy1 : y0 ≤ 4294967295) (hl : l ≤ 9223372036854775807) (ha : WordsIn w A n X) (hb : WordsIn w B l Y) :
    Calls Try.prog 4 #[.int .u32 x0, .int .u32 y0, .slice A n c, .slice B l d] w fun e w' => e = .returned (.bool true) ∧ Below w.heap.size w w' := by
  have HA := Lib.hid ha
  have HB := Lib.hid hb
  clear ha hb
  have hd : decide ((80 : Int) < (n : Int)) = false := by simp; omega
  have hd2 : decide ((l : Int) < (n : Int)) = false := by simp; omega
  obtain ⟨r, hr⟩ : ∃ r, x0 % 1048576 = r := ⟨_, rfl⟩
  obtain ⟨b, hb⟩ : ∃ b, 1 + y0 % 1048576 = b := ⟨_, rfl⟩
  have hr0 : 0 ≤ r := by omega
  have hr1 : r ≤ 1048575 := by omega
  have hb0 : 1 ≤ b := by omega
  have hb1 : b ≤ 1048576 := by omega
  go_enter Try.func4, Try.ntmps4
  go_upto_region 4 with (go_at_call 7; (with_reducible refine (awake_any _).mono ?_); rintro e w1 ⟨rfl, hb1⟩; have W1 := Lib.hid hb1; clear hb1)
  try simp only [hb]
  try simp only [hr]
  clear hb hr hx0 hx1 hy0 hy1
  go_wp2_with (go_at_call 8; (with_reducible refine (new_ r b _ hr0 (by omega) hb0 (by omega)).mono ?_); rintro e w2 ⟨g, rfl, hr, a1, hb2⟩; have R2 : Hid (TokRel w g r (b * 1048576) (b * 1048576) 0 w2) := ⟨hr, W1.out.trans (hb2.mono W1.out.size)⟩; have hsz1 := W1.out.size; have a1' : w.heap.size ≤ g := (by omega); clear hr hb2 W1 hsz1 a1)
  go_loopw [13, 14, 15, 46] (fun v t _ i w' => ∃ (k : Nat) (T m L : Int), k ≤ n ∧ i = .int .i64 k ∧ v = .int .i64 m ∧ t = .int .i64 T ∧ 0 ≤ T ∧ T ≤ 65535 * (k : Int) ∧ 0 ≤ m ∧ m ≤ 4194240 * (k : Int) ∧ Hid (T * 1048576 + L ≤ b * 1048576 + r * m) ∧ TokRel w g r (b * 1048576) L m w') (fun _ _ _ i _ => n - (intOf i).toNat)
  case atStart => exact ⟨0, 0, 0, b * 1048576, by omega, rfl, rfl, rfl, by omega, by omega, by omega, by omega, by show _ ≤ _; omega, R2.out⟩
  case round =>
    clear R2
    obtain ⟨k, T, m, L, hk, rfl, rfl, rfl, ht0, ht1, hm0, hm1, HI, hr⟩ := hrel
    have R4 := Lib.hid hr
    clear hr
    by_cases hlt : k < n
    · obtain ⟨a, rfl, hca0, hx0, hx1⟩ := HA.out k hlt
      obtain ⟨a', rfl, hcb0, hy0, hy1⟩ := HB.out k (by omega)
      have hca : wr.cell? (a.add k) = some (.int .u16 (X k)) := (R4.out.be.cell (World.block_lt_of_cell? w _ hca0)).trans hca0
      have hcb : wr.cell? (a'.add k) = some (.int .u16 (Y k)) := (R4.out.be.cell (World.block_lt_of_cell? w _ hcb0)).trans hcb0
      have HC : Hid (∀ W, Below w.heap.size w W → W.cell? (a'.add k) = some (.int .u16 (Y k))) := fun W hW => (hW.cell (World.block_lt_of_cell? w _ hcb0)).trans hcb0
      clear hca0 hcb0 HA HB
      generalize X k = x at *
      generalize Y k = y at *
      have HS := Lib.hid (bounds_step (n := y) (d := 64 * x) R4.out.at_.ok (by omega) (by omega) HI.out)
      have HM : Hid (max m (m + 64 * x) = m + 64 * x) := Int.max_eq_right (by omega)
      obtain ⟨M, hM⟩ : ∃ M, m + 64 * x = M := ⟨_, rfl⟩
      have hM0 : 0 ≤ M := by omega
      have hM1 : M ≤ 4194240 * ((k : Int) + 1) := by omega
      have hM2 : M ≤ 335539200 := by omega
      have hp0 := Int.mul_nonneg hr0 hM0
      have hp1 : r * M ≤ 1048575 * 335539200 := Int.le_trans (Int.mul_le_mul_of_nonneg_right hr1 hM0) (Int.mul_le_mul_of_nonneg_left hM2 (by omega))
      rw [hM] at HS HM
      rcases hq : okT r (b * 1048576) L m M y with _ | _
      · have HQ := Lib.hid hq
        have HT : Hid (T * 1048576 + lef r (b * 1048576) L m M y ≤ b * 1048576 + r * M) := HS.out.2 hq
        clear hq HS HI
        have ho := ok_left (x := M) (n := y) R4.out.at_.ok (by omega)
        rw [HM.out] at ho
        have hL0 := ho.l0
        have hL1 := ho.l1
        have HL := Lib.hid (lev_old (r := r) (B := b * 1048576) (L := lef r (b * 1048576) L m M y) (Int.le_refl M))
        obtain ⟨Z, hz⟩ : ∃ Z, lef r (b * 1048576) L m M y = Z := ⟨_, rfl⟩
        have HZ := Lib.hid hz
        rw [hz] at HT HL hL0 hL1
        have ht := HT.out
        have d1 : decide (b * 1048576 + r * M < T * 1048576) = false := by simp; omega
        have d2 : decide (b < Z / 1048576) = false := by simp; omega
        clear ht hz ho
        go_wp2_with (first | (go_at_call 9; (with_reducible refine (take_ g r (b * 1048576) L m M y _ R4.out.at_ (by omega)).mono ?_); rintro e w3 ⟨rfl, hp, hf⟩; rw [HQ.out]; have R3 := Lib.hid (R4.out.take hp hf a1'); rw [HZ.out, HM.out] at R3; have hcb3 := HC.out _ R3.out.be; clear hp hf) | (go_at_call 10; (with_reducible refine (level_ g r (b * 1048576) Z M M _ R3.out.at_ (by omega)).mono ?_); rintro e w5 ⟨rfl, hb⟩; rw [HL.out]; have R5 := Lib.hid (R3.out.below hb); clear hb))
        go_roundw
        case rel => exact ⟨k + 1, T, M, Z, by omega, by go_num, rfl, rfl, by omega, by omega, hM0, by omega, HT, R5.out⟩
        case measure => simp [intOf]; omega
      · have HQ := Lib.hid hq
        have HT : Hid ((T + y) * 1048576 + lef r (b * 1048576) L m M y ≤ b * 1048576 + r * M) := HS.out.1 hq
        clear hq HS HI
        have ho := ok_left (x := M) (n := y) R4.out.at_.ok (by omega)
        rw [HM.out] at ho
        have hL0 := ho.l0
        have hL1 := ho.l1
        have HL := Lib.hid (lev_old (r := r) (B := b * 1048576) (L := lef r (b * 1048576) L m M y) (Int.le_refl M))
        obtain ⟨Z, hz⟩ : ∃ Z, lef r (b * 1048576) L m M y = Z := ⟨_, rfl⟩
        have HZ := Lib.hid hz
        rw [hz] at HT HL hL0 hL1
        have ht := HT.out
        have d1 : decide (b * 1048576 + r * M < (T + y) * 1048576) = false := by simp; omega
        have d2 : decide (b < Z / 1048576) = false := by simp; omega
        clear ht hz ho
        go_wp2_with (first | (go_at_call 9; (with_reducible refine (take_ g r (b * 1048576) L m M y _ R4.out.at_ (by omega)).mono ?_); rintro e w3 ⟨rfl, hp, hf⟩; rw [HQ.out]; have R3 := Lib.hid (R4.out.take hp hf a1'); rw [HZ.out, HM.out] at R3; have hcb3 := HC.out _ R3.out.be; clear hp hf) | (go_at_call 10; (with_reducible refine (level_ g r (b * 1048576) Z M M _ R3.out.at_ (by omega)).mono ?_); rintro e w5 ⟨rfl, hb⟩; rw [HL.out]; have R5 := Lib.hid (R3.out.below hb); clear hb))
        go_roundw
        case rel => exact ⟨k + 1, (T + y), M, Z, by omega, by go_num, rfl, rfl, by omega, by omega, hM0, by omega, HT, R5.out⟩
        case measure => simp [intOf]; omega
    · obtain rfl : k = n := by omega
      go_wp2
      go_ret
      exact ⟨rfl, R4.out.be⟩

set_option maxRecDepth 100000 in
set_option maxHeartbeats 2000000 in
theorem bounds_far (x0 y0 : Int) (A : Option Addr) (n c : Nat) (B : Option Addr) (l d : Nat) (w : World) (hn : 80 < n) :
    Calls Try.prog 4 #[.int .u32 x0, .int .u32 y0, .slice A n c, .slice B l d] w fun e w' => e = .returned (.bool true) ∧ Below w.heap.size w w' := by
  have hd : decide ((80 : Int) < (n : Int)) = true := by simp; omega
  go_enter Try.func4, Try.ntmps4
  go_wp2_with fail
  refine (awake_any _).mono ?_
  rintro e w1 ⟨rfl, hb1⟩
  have W1 := Lib.hid hb1
  clear hb1
  go_wp2_with fail
  refine (awake_any _).mono ?_
  rintro e w2 ⟨rfl, hb2⟩
  have W2 : Hid (Below w.heap.size w w2) := W1.out.trans (hb2.mono W1.out.size)
  clear hb2
  go_wp2_with fail
  go_ret
  exact ⟨rfl, W2.out⟩

set_option maxRecDepth 100000 in
set_option maxHeartbeats 2000000 in
theorem bounds_short (x0 y0 : Int) (A : Option Addr) (n c : Nat) (B : Option Addr) (l d : Nat) (w : World) (hn : n ≤ 80) (hm : l < n) :
    Calls Try.prog 4 #[.int .u32 x0, .int .u32 y0, .slice A n c, .slice B l d] w fun e w' => e = .returned (.bool true) ∧ Below w.heap.size w w' := by
  have hd : decide ((80 : Int) < (n : Int)) = false := by simp; omega
  have hd2 : decide ((l : Int) < (n : Int)) = true := by simp; omega
  go_enter Try.func4, Try.ntmps4
  go_wp2_with fail
  refine (awake_any _).mono ?_
  rintro e w1 ⟨rfl, hb1⟩
  have W1 := Lib.hid hb1
  clear hb1
  go_wp2_with fail
  refine (awake_any _).mono ?_
  rintro e w2 ⟨rfl, hb2⟩
  have W2 : Hid (Below w.heap.size w w2) := W1.out.trans (hb2.mono W1.out.size)
  clear hb2
  go_wp2_with fail
  go_ret
  exact ⟨rfl, W2.out⟩
end Go.Proofs.Ytbmapegfodomaaa
