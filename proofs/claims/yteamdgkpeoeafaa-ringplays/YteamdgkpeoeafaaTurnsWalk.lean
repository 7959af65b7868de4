/- The walk of the law RingTurns: for any room, number and step it returns true and turns nothing that was there. -/
import Derived.Test.YteamdgkpeoeafaaPops
import Derived.Deep.DeepCutAuto
namespace Go.Proofs.Yteamdgkpeoeafaa
open Go.RowKit

theorem ret_bool {a b : Bool} (h : a = b) : Ending.returned (.bool a) = .returned (.bool b) := by rw [h]
/-- The numbers from b on, k of them, as values. -/
def seqV : Nat → Nat → List Value
  | _, 0 => []
  | b, k + 1 => .int .i64 (b : Nat) :: seqV (b + 1) k
theorem seqV_length : ∀ (k b : Nat), (seqV b k).length = k
  | 0, _ => rfl
  | k + 1, b => by simp [seqV, seqV_length k (b + 1)]
theorem seqV_snoc : ∀ (k b : Nat), seqV b k ++ [.int .i64 ((b + k : Nat) : Int)] = seqV b (k + 1)
  | 0, b => rfl
  | k + 1, b => by
    have h := seqV_snoc k (b + 1)
    rw [show b + 1 + k = b + (k + 1) by omega] at h
    show .int .i64 (b : Nat) :: (seqV (b + 1) k ++ [.int .i64 ((b + (k + 1) : Nat) : Int)]) = .int .i64 (b : Nat) :: seqV (b + 1) (k + 1)
    rw [h]

/-- Where the loops stand: b to a are in the ring. -/
def TurnsRel (w : World) (g q n a b : Nat) (w' : World) : Prop := RingAt 54 3 w' g q n (seqV b (a - b)) ∧ Below w.heap.size w w' ∧ b ≤ a

theorem TurnsRel.push {w w1 w2 : World} {g q n a b : Nat} (h : TurnsRel w g q n a b w1) (hr : RingAt 54 3 w2 g q n (seqV b (a - b) ++ [.int .i64 (a : Nat)])) (hf : Far (both g q) w1 w2) (hg : w.heap.size ≤ g) (hq : w.heap.size ≤ q) : TurnsRel w g q n (a + 1) b w2 := by
  obtain ⟨h1, h2, h3⟩ := h
  refine ⟨?_, below_both h2 hf hg hq h2.size, by omega⟩
  have e := seqV_snoc (a - b) b
  rw [show b + (a - b) = a by omega, show a - b + 1 = a + 1 - b by omega] at e
  rw [← e]
  exact hr

set_option maxRecDepth 100000 in
set_option maxHeartbeats 4000000 in
theorem turns_any (ro ma st : Int) (w : World) (h0 : 0 ≤ ro) (h1 : ro ≤ 255) (h2 : 0 ≤ ma) (h3 : ma ≤ 65535) (h4 : 0 ≤ st) (h5 : st ≤ 255) :
    Calls Try.prog 5 #[.int .u8 ro, .int .u16 ma, .int .u8 st] w fun e w' => e = .returned (.bool true) ∧ Below w.heap.size w w' := by
  obtain ⟨n, hn⟩ : ∃ n : Nat, 1 + ro % 100 = n := ⟨(1 + ro % 100).toNat, by omega⟩
  obtain ⟨s, hs⟩ : ∃ s : Nat, 1 + st % 9 = s := ⟨(1 + st % 9).toNat, by omega⟩
  have hn1 : 1 ≤ n ∧ n ≤ 100 := by omega
  have hs1 : 1 ≤ s ∧ s ≤ 9 := by omega
  go_enter Try.func5, Try.ntmps5
  go_wp2_with (first | (go_at_call 7; (with_reducible refine (awake_any _).mono ?_); rintro e w1 ⟨rfl, hb1⟩; have W1 := Lib.hid hb1; clear hb1) | (go_at_call 8; (with_reducible refine (newin_I n _ _ (by omega) hn1.1 (by omega)).mono ?_); rintro e w2 ⟨g, q, rfl, hr, hg, hq, hb2⟩; have R2 := Lib.hid hr; have W2 : Hid (Below w.heap.size w w2) := W1.out.trans (hb2.mono W1.out.size); have hsz1 := W1.out.size; clear hr hb2))
  have hgw : w.heap.size ≤ g := by omega
  have hqw : w.heap.size ≤ q := by omega
  clear hn hs
  go_loopw [11, 12, 13, 14] (fun x y _ _ w' => ∃ a b : Nat, x = .int .i64 a ∧ y = .int .i64 b ∧ a ≤ 1000 ∧ TurnsRel w g q n a b w') (fun _ y _ _ _ => 2000 - (intOf y).toNat)
  case atStart => exact ⟨0, 0, rfl, rfl, by omega, R2.out, W2.out, Nat.le_refl _⟩
  case round =>
    obtain ⟨a, b, rfl, rfl, ha, hr⟩ := hrel
    have HR := Lib.hid hr.1
    have HW := Lib.hid hr.2.1
    have hba := hr.2.2
    have hlen := hr.1.lt.2.2.1
    rw [seqV_length] at hlen
    clear hr
    by_cases hlt : (a : Int) < ma % 500
    · have hd : decide ((a : Int) < ma % 500) = true := by simpa using hlt
      go_wp2_with fail
      go_loopw [11, 36] (fun x i w' => ∃ a' k : Nat, x = .int .i64 a' ∧ i = .int .i64 k ∧ k ≤ s ∧ a' ≤ a + k ∧ (1 ≤ k → b < a') ∧ TurnsRel w g q n a' b w') (fun _ i _ => s - (intOf i).toNat)
      case atStart => exact ⟨a, 0, rfl, rfl, by omega, by omega, by omega, HR.out, HW.out, hba⟩
      case round =>
        obtain ⟨a', k, rfl, rfl, hk, hak, hkb, hr⟩ := hrel
        have R3 := Lib.hid hr.1
        have W3 := Lib.hid hr.2.1
        have hba' := hr.2.2
        have hlen' := hr.1.lt.2.2.1
        rw [seqV_length] at hlen'
        clear hr
        by_cases hks : k < s
        · have hd2 : decide ((k : Int) < (s : Int)) = true := by simp; omega
          by_cases hfull : a' - b = n
          · have HL : Hid ((seqV b (a' - b)).length = n) := by show _ = _; rw [seqV_length]; exact hfull
            go_wp2_with (first | (go_at_call 11; (with_reducible refine (pushfull_I g q n _ _ _ R3.out HL.out).mono ?_); rintro e w' ⟨rfl, rfl⟩) | (go_at_call 9; (with_reducible refine (lenin_I g q n n _ _ R3.out HL.out).mono ?_); rintro e w' ⟨rfl, rfl⟩))
            go_roundw
            case rel => exact ⟨a', k + 1, rfl, by go_num, by omega, by omega, by omega, R3.out, W3.out, hba'⟩
            case measure => simp [intOf]; omega
          · have HL : Hid ((seqV b (a' - b)).length < n) := by show _ < _; rw [seqV_length]; omega
            go_wp2_with (first | (go_at_call 11; (with_reducible refine (push_I g q n _ _ _ R3.out HL.out).mono ?_); rintro e w3 ⟨rfl, hr3, hf3⟩; have R4 := Lib.hid hr3; have HF := Lib.hid hf3; clear hr3 hf3))
            go_roundw
            case rel => exact ⟨a' + 1, k + 1, by go_num, by go_num, by omega, by omega, by omega, TurnsRel.push ⟨R3.out, W3.out, hba'⟩ R4.out HF.out hgw hqw⟩
            case measure => simp [intOf]; omega
        · have hd2 : decide ((k : Int) < (s : Int)) = false := by simp; omega
          have hb1 : b < a' := hkb (by omega)
          have R5 : Hid (RingAt 54 3 wr g q n (.int .i64 (b : Nat) :: seqV (b + 1) (a' - (b + 1)))) := by
            have := R3.out
            rw [show a' - b = a' - (b + 1) + 1 by omega] at this
            exact this
          go_wp2_with (first | (go_at_call 12; (with_reducible refine (pop_I g q n _ _ _ R5.out).mono ?_); rintro e w3 ⟨rfl, hr3, hf3⟩; have R6 := Lib.hid hr3; have HF := Lib.hid hf3; clear hr3 hf3))
          go_roundw
          case rel => exact ⟨a', b + 1, rfl, by go_num, by omega, R6.out, below_both W3.out HF.out hgw hqw W3.out.size, by omega⟩
          case measure => simp [intOf]; omega
    · have hd : decide ((a : Int) < ma % 500) = false := by simpa using hlt
      have HL : Hid ((seqV b (a - b)).length = a - b) := seqV_length _ _
      go_wp2_with (first | (go_at_call 9; (with_reducible refine (lenin_I g q n (a - b) _ _ HR.out HL.out).mono ?_); rintro e w' ⟨rfl, rfl⟩))
      go_ret
      have e : ((((a - b : Nat) : Int)) == (a : Int) - (b : Int)) = true := by simp; omega
      exact ⟨ret_bool e, HW.out⟩
end Go.Proofs.Yteamdgkpeoeafaa
