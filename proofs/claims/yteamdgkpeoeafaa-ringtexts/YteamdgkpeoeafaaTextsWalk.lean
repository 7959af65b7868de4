/- The walk of the law RingTexts: for any texts it returns true and turns nothing that was there. -/
import Derived.Test.YteamdgkpeoeafaaCutsWalk
namespace Go.Proofs.Yteamdgkpeoeafaa
open Go.RowKit

/-- Texts as values. -/
def strV (ss : List ByteArray) : List Value := ss.map Value.string
theorem strV_length (ss : List ByteArray) : (strV ss).length = ss.length := by simp [strV]
theorem strV_cons {ss : List ByteArray} {k : Nat} (h : k < ss.length) : strV (ss.drop k) = .string (ss.getD k ByteArray.empty) :: strV (ss.drop (k + 1)) := by
  rw [List.drop_eq_getElem_cons h]
  simp only [strV, List.map_cons, List.getD_eq_getElem?_getD, List.getElem?_eq_getElem h, Option.getD_some]
theorem strV_snoc {ss : List ByteArray} {k : Nat} (h : k < ss.length) : strV (ss.take k) ++ [.string (ss.getD k ByteArray.empty)] = strV (ss.take (k + 1)) := by
  rw [List.take_succ_eq_append_getElem h]
  simp only [strV, List.map_append, List.map_cons, List.map_nil, List.getD_eq_getElem?_getD, List.getElem?_eq_getElem h, Option.getD_some]
/-- The first b, b + 1 .. of a slice: k of them. -/
def cutV (A : Option Addr) (c : Nat) : Nat → Nat → List Value
  | _, 0 => []
  | b, k + 1 => .slice A b c :: cutV A c (b + 1) k
theorem cutV_length (A : Option Addr) (c : Nat) : ∀ (k b : Nat), (cutV A c b k).length = k
  | 0, _ => rfl
  | k + 1, b => by simp [cutV, cutV_length A c k (b + 1)]
theorem cutV_snoc (A : Option Addr) (c : Nat) : ∀ (k b : Nat), cutV A c b k ++ [.slice A (b + k) c] = cutV A c b (k + 1)
  | 0, b => rfl
  | k + 1, b => by
    have h := cutV_snoc A c k (b + 1)
    rw [show b + 1 + k = b + (k + 1) by omega] at h
    show .slice A b c :: (cutV A c (b + 1) k ++ [.slice A (b + (k + 1)) c]) = .slice A b c :: cutV A c (b + 1) (k + 1)
    rw [h]

theorem run_upto {A : Option Addr} {n c k : Nat} (W : World) (hk : k ≤ c) :
    (Instr.slice 37 (.slice A n c) none (some (.int .i64 k)) none).run Try.prog W = .ok (.slice A k c) W := by
  have h := run_slice_h (P := Try.prog) (w := W) 37 A n c (by kernel_rfl) .i64 (k : Int) (by omega) (by omega)
  rw [h]
  simp [sliced, go_sem]

/-- Both rings, and all that was there. -/
def TextsRel (w : World) (g q g' q' : Nat) (us vs : List Value) (w' : World) : Prop :=
  RingAt 57 9 w' g q 20 us ∧ RingAt 60 37 w' g' q' 20 vs ∧ Below w.heap.size w w'

set_option maxRecDepth 100000 in
set_option maxHeartbeats 1000000 in
theorem texts_far (A : Option Addr) (n c : Nat) (w : World) (hn : n ≤ 9223372036854775807) (h : 20 < n) :
    Calls Try.prog 4 #[.slice A n c] w fun e w' => e = .returned (.bool true) ∧ Below w.heap.size w w' := by
  have hd : decide ((20 : Int) < (n : Int)) = true := by simp; omega
  go_enter Try.func4, Try.ntmps4
  go_wp2_with fail
  refine (awake_any _).mono ?_
  rintro e w1 ⟨rfl, hb⟩
  have HB := Lib.hid hb
  clear hb
  go_wp2_with fail
  refine (awake_any _).mono ?_
  rintro e w2 ⟨rfl, hb⟩
  have HC := Lib.hid hb
  clear hb
  go_wp2
  go_ret
  exact ⟨rfl, HB.out.trans (HC.out.mono HB.out.size)⟩

set_option maxRecDepth 100000 in
set_option maxHeartbeats 4000000 in
theorem texts_near (A : Option Addr) (n c : Nat) (ss : List ByteArray) (w : World) (h2 : n ≤ 20) (hc : n ≤ c) (hl : ss.length = n) (ha : ∀ k, k < n → ∃ ad, A = some ad ∧ w.cell? (ad.add k) = some (.string (ss.getD k ByteArray.empty))) :
    Calls Try.prog 4 #[.slice A n c] w fun e w' => e = .returned (.bool true) ∧ Below w.heap.size w w' := by
  have HA := Lib.hid ha
  have HN := Lib.hid hl
  clear ha hl
  have hd : decide ((20 : Int) < (n : Int)) = false := by simp; omega
  go_enter Try.func4, Try.ntmps4
  go_wp2_with (first | (go_at_call 7; (with_reducible refine (awake_any _).mono ?_); rintro e w1 ⟨rfl, hb1⟩; have W1 := Lib.hid hb1; clear hb1) | (go_at_call 15; (with_reducible refine (newin_S 20 _ _ (by omega) (by omega) (by omega)).mono ?_); rintro e w2 ⟨g, q, rfl, hr, hg, hq, hb2⟩; have R2 := Lib.hid hr; have hlt2 := hr.lt; have W2 : Hid (Below w.heap.size w w2) := W1.out.trans (hb2.mono W1.out.size); have hsz1 := W1.out.size; clear hr hb2) | (go_at_call 16; (with_reducible refine (newin_L 20 _ _ (by omega) (by omega) (by omega)).mono ?_); rintro e w3 ⟨g', q', rfl, hr, hg', hq', hb3⟩; have S3 := Lib.hid hr; have R3 := Lib.hid (R2.out.below hb3); have W3 : Hid (Below w.heap.size w w3) := W2.out.trans (hb3.mono W2.out.size); have hsz2 := W2.out.size; clear hr hb3))
  have hgw : w.heap.size ≤ g := by omega
  have hqw : w.heap.size ≤ q := by omega
  have hgw' : w.heap.size ≤ g' := by omega
  have hqw' : w.heap.size ≤ q' := by omega
  have HD1 : Hid (¬ both g q g' ∧ ¬ both g q q') := ⟨fun e => by rcases e with e | e <;> omega, fun e => by rcases e with e | e <;> omega⟩
  have HD2 : Hid (¬ both g' q' g ∧ ¬ both g' q' q) := ⟨fun e => by rcases e with e | e <;> omega, fun e => by rcases e with e | e <;> omega⟩
  clear hg hq hg' hq' hlt2 hsz1 hsz2
  go_loopw [7, 35] (fun _ i w' => ∃ k : Nat, k ≤ n ∧ i = .int .i64 k ∧ TextsRel w g q g' q' (strV (ss.take k)) (cutV A c 0 k) w') (fun _ i _ => n - (intOf i).toNat)
  case atStart => exact ⟨0, Nat.zero_le _, rfl, R3.out, S3.out, W3.out⟩
  case round =>
    obtain ⟨k, hk, rfl, hr, hs, hb⟩ := hrel
    have R4 := Lib.hid hr
    have S4 := Lib.hid hs
    have W4 := Lib.hid hb
    clear hr hs
    by_cases hlt : k < n
    · have hd2 : decide ((k : Int) < (n : Int)) = true := by simp; omega
      obtain ⟨ad, rfl, hcw⟩ := HA.out k hlt
      have hck : wr.cell? (ad.add k) = some (.string (ss.getD k ByteArray.empty)) := (hb.cell (World.block_lt_of_cell? w _ hcw)).trans hcw
      have hsl := fun W => run_upto (A := some ad) (n := n) (c := c) (k := k) W (by omega)
      have HL : Hid ((strV (ss.take k)).length < 20) := by have := HN.out; show _ < _; rw [strV_length, List.length_take]; omega
      have HL2 : Hid ((cutV (some ad) c 0 k).length < 20) := by show _ < _; rw [cutV_length]; omega
      have HS := Lib.hid (strV_snoc (ss := ss) (k := k) (by have := HN.out; omega))
      have HS2 : Hid (cutV (some ad) c 0 k ++ [.slice (some ad) k c] = cutV (some ad) c 0 (k + 1)) := by have := cutV_snoc (some ad) c k 0; rw [Nat.zero_add] at this; exact this
      generalize ss.getD k ByteArray.empty = z at *
      clear hb hcw
      go_wp2_with (first | (go_at_call 17; (with_reducible refine (push_S g q 20 _ _ _ R4.out HL.out).mono ?_); rintro e w5 ⟨rfl, hr5, hf5⟩; rw [HS.out] at hr5; have R5 := Lib.hid hr5; have S5 := Lib.hid (S4.out.far hf5 HD1.out.1 HD1.out.2); have W5 : Hid (Below w.heap.size w w5) := below_both W4.out hf5 hgw hqw W4.out.size; clear hr5 hf5) | (go_at_call 18; (with_reducible refine (push_L g' q' 20 _ _ _ _ _ S5.out HL2.out).mono ?_); rintro e w6 ⟨rfl, hs6, hf6⟩; rw [HS2.out] at hs6; have S6 := Lib.hid hs6; have R6 := Lib.hid (R5.out.far hf6 HD2.out.1 HD2.out.2); have W6 : Hid (Below w.heap.size w w6) := below_both W5.out hf6 hgw' hqw' W5.out.size; clear hs6 hf6))
      go_roundw
      case rel => exact ⟨k + 1, by omega, by go_num, R6.out, S6.out, W6.out⟩
      case measure => simp [intOf]; omega
    · obtain rfl : k = n := by omega
      have hd2 : decide ((k : Int) < (k : Int)) = false := by simp
      have R5 : Hid (RingAt 57 9 wr g q 20 (strV (ss.drop 0))) := by
        have := R4.out
        rw [List.take_of_length_le (by have := HN.out; omega)] at this
        exact this
      clear hb R4
      go_wp2_with fail
      go_loopw [8, 9, 10, 11, 12, 56] (fun _ _ _ _ _ i w' => ∃ j : Nat, j ≤ k ∧ i = .int .i64 j ∧ TextsRel w g q g' q' (strV (ss.drop j)) (cutV A c j (k - j)) w') (fun _ _ _ _ _ i _ => k - (intOf i).toNat)
      case atStart => exact ⟨0, Nat.zero_le _, rfl, R5.out, S4.out, W4.out⟩
      case round =>
        obtain ⟨j, hj, rfl, hr, hs, hb⟩ := hrel
        have R6 := Lib.hid hr
        have S6 := Lib.hid hs
        have W6 := Lib.hid hb
        clear hr hs
        by_cases hjk : j < k
        · have hd3 : decide ((j : Int) < (k : Int)) = true := by simp; omega
          obtain ⟨ad, rfl, hcw⟩ := HA.out j hjk
          have R7 : Hid (RingAt 57 9 wr g q 20 (.string (ss.getD j ByteArray.empty) :: strV (ss.drop (j + 1)))) := by
            have := R6.out
            rw [strV_cons (by have := HN.out; omega)] at this
            exact this
          have S7 : Hid (RingAt 60 37 wr g' q' 20 (.slice (some ad) j c :: cutV (some ad) c (j + 1) (k - (j + 1)))) := by
            have := S6.out
            rw [show k - j = k - (j + 1) + 1 by omega] at this
            exact this
          have HCW : Hid (∀ W, Below w.heap.size w W → W.cell? (ad.add j) = some (.string (ss.getD j ByteArray.empty))) := fun W h => (h.cell (World.block_lt_of_cell? w _ hcw)).trans hcw
          generalize ss.getD j ByteArray.empty = z at *
          clear hb hcw R6 S6
          go_wp2_with (first | (go_at_call 19; (with_reducible refine (pop_S g q 20 _ _ _ R7.out).mono ?_); rintro e w5 ⟨rfl, hr5, hf5⟩; have R8 := Lib.hid hr5; have S8 := Lib.hid (S7.out.far hf5 HD1.out.1 HD1.out.2); have W8 : Hid (Below w.heap.size w w5) := below_both W6.out hf5 hgw hqw W6.out.size; clear hr5 hf5) | (go_at_call 20; (with_reducible refine (pop_L g' q' 20 _ _ _ S8.out).mono ?_); rintro e w6 ⟨rfl, hs6, hf6⟩; have S9 := Lib.hid hs6; have R9 := Lib.hid (R8.out.far hf6 HD2.out.1 HD2.out.2); have W9 : Hid (Below w.heap.size w w6) := below_both W8.out hf6 hgw' hqw' W8.out.size; have hcz := HCW.out w6 W9.out; clear hs6 hf6))
          go_roundw
          case rel => exact ⟨j + 1, by omega, by go_num, R9.out, S9.out, W9.out⟩
          case measure => simp [intOf]; omega
        · obtain rfl : j = k := by omega
          have hd3 : decide ((j : Int) < (j : Int)) = false := by simp
          have R7 : Hid (RingAt 57 9 wr g q 20 []) := by
            have := R6.out
            rw [List.drop_of_length_le (by have := HN.out; omega)] at this
            exact this
          have S7 : Hid (RingAt 60 37 wr g' q' 20 []) := by
            have := S6.out
            rw [show j - j = 0 by omega] at this
            exact this
          clear hb R6 S6
          go_wp2_with (first | (go_at_call 19; (with_reducible refine (popnone_S g q 20 _ R7.out).mono ?_); rintro e w5 ⟨rfl, rfl⟩) | (go_at_call 20; (with_reducible refine (popnone_L g' q' 20 _ S7.out).mono ?_); rintro e w6 ⟨rfl, rfl⟩))
          go_ret
          exact ⟨rfl, W6.out⟩
end Go.Proofs.Yteamdgkpeoeafaa
