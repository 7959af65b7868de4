/- The walk of the law ChainEnds: for any number of places it returns true and turns nothing that was there. -/
import Derived.Test.YtlbloopiajjpfaaNews
namespace Go.Proofs.Ytlbloopiajjpfaa
open Go.RowKit

/-- k places from m - 1 down. -/
def down (m k : Nat) : List Nat := (List.range k).map fun j => m - 1 - j
theorem down_length (m k : Nat) : (down m k).length = k := by simp [down]
theorem down_more (m k : Nat) : down m k ++ [m - 1 - k] = down m (k + 1) := by simp [down, List.range_succ]
theorem down_at {m k j : Nat} (h : j < k) : (down m k)[j]? = some (m - 1 - j) := by simp [down, h]
theorem down_less (m k : Nat) : (down m (k + 1)).eraseIdx k = down m k := by
  rw [← down_more, List.eraseIdx_append_of_length_le (by simp [down_length])]
  simp [down_length]
theorem down_out {m k : Nat} (h : k < m) : m - 1 - k ∉ down m k := by
  simp [down]
  intro j hj
  omega
theorem ends_can {m k : Nat} (h : k < m) (hm : m ≤ 100) : canPush 100 [[], down m k] 1 ((m - 1 - k : Nat) : Int) = true ∧ pushOf 100 [[], down m k] 1 ((m - 1 - k : Nat) : Int) = [[], down m (k + 1)] := by
  have hr : rowOf [[], down m k] 1 = some (down m k) := rowOf_nat (l := 1) rfl
  have hl : lineOf [[], down m k] ((m - 1 - k : Nat) : Int) = none := by
    rcases e : lineOf [[], down m k] ((m - 1 - k : Nat) : Int) with _ | l
    · rfl
    · obtain ⟨p, xs, hp, hl, hm⟩ := lineOf_some e
      obtain rfl : p = m - 1 - k := by omega
      rcases l with _ | _ | l <;> simp at hl <;> subst hl
      · simp at hm
      · exact absurd hm (down_out h)
  have hc : canPush 100 [[], down m k] 1 ((m - 1 - k : Nat) : Int) = true := by
    simp [canPush, hr, hl]
    omega
  refine ⟨hc, ?_⟩
  simp [pushOf, hc, hr, ← down_more]
theorem ends_cut {m k : Nat} : atOf [[], down m (k + 1)] 1 (k : Int) = some (m - 1 - k) ∧ cutOf [[], down m (k + 1)] 1 (k : Int) = [[], down m k] := by
  have hr : rowOf [[], down m (k + 1)] 1 = some (down m (k + 1)) := rowOf_nat (l := 1) rfl
  have ha : atOf [[], down m (k + 1)] 1 (k : Int) = some (m - 1 - k) := by
    simp [atOf, hr, down_at (show k < k + 1 by omega)]
  exact ⟨ha, by simp [cutOf, ha, hr, down_less]⟩

/-- Where the loops stand. -/
def EndsRel (w : World) (g q s : Nat) (xs : List Nat) (w' : World) : Prop := ChAt w' g q s 2 100 [[], xs] ∧ Below w.heap.size w w'

set_option maxRecDepth 100000 in
set_option maxHeartbeats 4000000 in
theorem ends_any (a : Int) (w : World) (h0 : 0 ≤ a) (h1 : a ≤ 255) :
    Calls Try.prog 5 #[.int .u8 a] w fun e w' => e = .returned (.bool true) ∧ Below w.heap.size w w' := by
  obtain ⟨m, hm⟩ : ∃ m : Nat, a % 100 = m := ⟨(a % 100).toNat, by omega⟩
  have hm1 : m < 100 := by omega
  go_enter Try.func5, Try.ntmps5
  go_wp2_with (first | (go_at_call 7; (with_reducible refine (awake_any _).mono ?_); rintro e w1 ⟨rfl, hb1⟩; have W1 := Lib.hid hb1; clear hb1)  | (go_at_call 8; (with_reducible refine (new_ 2 100 _ _ _ (by omega) (by omega) (by omega) (by omega) (by omega) (by omega)).mono ?_); rintro e w2 ⟨g, q, s, rfl, hr, ha, hb2⟩; have R2 : Hid (ChAt w2 g q s 2 100 [[], []]) := hr; have HA := Lib.hid ha; have W2 : Hid (Below w.heap.size w w2) := W1.out.trans (hb2.mono W1.out.size); clear hr ha hb2))
  have hsz1 := W1.out.size
  obtain ⟨a1, a2, a3, _⟩ := HA.out
  have a1' : w.heap.size ≤ g := by omega
  have a2' : w.heap.size ≤ q := by omega
  have a3' : w.heap.size ≤ s := by omega
  clear hm HA W1 hsz1 a1 a2 a3
  go_loopw [6, 7, 8, 9, 19] (fun _ _ _ _ i w' => ∃ k : Nat, k ≤ 2 ∧ i = .int .i64 k ∧ EndsRel w g q s [] w') (fun _ _ _ _ i _ => 2 - (intOf i).toNat)
  case atStart => exact ⟨0, by omega, rfl, R2.out, W2.out⟩
  case round =>
    obtain ⟨t, ht, rfl, hr⟩ := hrel
    have R3 := Lib.hid hr
    clear hr
    by_cases hlt : t < 2
    · have hd : decide ((t : Int) < 2) = true := by simp; omega
      go_wp2_with fail
      go_loopw [6, 22] (fun _ i w' => ∃ k : Nat, k ≤ m ∧ i = .int .i64 k ∧ EndsRel w g q s (down m k) w') (fun _ i _ => m - (intOf i).toNat)
      case atStart => exact ⟨0, by omega, rfl, R3.out⟩
      case round =>
        obtain ⟨k, hk, rfl, hr⟩ := hrel
        have R4 := Lib.hid hr.1
        have W4 := Lib.hid hr.2
        clear hr
        by_cases hlt2 : k < m
        · have hd2 : decide ((k : Int) < (m : Int)) = true := by simp; omega
          have HE := Lib.hid (ends_can hlt2 (show m ≤ 100 by omega))
          have hek : (m : Int) - 1 - (k : Int) = ((m - 1 - k : Nat) : Int) := by omega
          go_wp2_with fail
          refine (push_ g q s 2 100 1 _ _ _ R4.out).mono ?_
          rintro e w5 ⟨rfl, hc5, hf5⟩
          rw [HE.out.1]
          rw [HE.out.2] at hc5
          have R5 : Hid (EndsRel w g q s (down m (k + 1)) w5) := ⟨hc5, below_three W4.out hf5 a1' a2' a3' W4.out.size⟩
          clear hc5 hf5
          go_wp2_with fail
          go_roundw
          case rel => exact ⟨k + 1, by omega, by go_num, R5.out⟩
          case measure => simp [intOf]; omega
        · obtain rfl : k = m := by omega
          have hd2 : decide ((k : Int) < (k : Int)) = false := by simp
          go_wp2_with fail
          go_loopw [7, 8, 9, 34] (fun _ _ _ i w' => ∃ j : Nat, j ≤ k ∧ i = .int .i64 j ∧ EndsRel w g q s (down k (k - j)) w') (fun _ _ _ i _ => k - (intOf i).toNat)
          case atStart => exact ⟨0, by omega, rfl, R4.out, W4.out⟩
          case round =>
            obtain ⟨j, hj, rfl, hr⟩ := hrel
            have R5 := Lib.hid hr.1
            have W5 := Lib.hid hr.2
            clear hr
            by_cases hlt3 : j < k
            · have hd3 : decide ((j : Int) < (k : Int)) = true := by simp; omega
              have HE := Lib.hid (ends_cut (m := k) (k := k - 1 - j))
              have R6 : Hid (ChAt wr g q s 2 100 [[], down k (k - 1 - j + 1)]) := by
                have := R5.out
                rw [show k - j = k - 1 - j + 1 by omega] at this
                exact this
              have hek : (k : Int) - 1 - (j : Int) = ((k - 1 - j : Nat) : Int) := by omega
              go_wp2_with fail
              refine (cut_ g q s 2 100 1 _ _ _ R6.out).mono ?_
              rintro e w6 ⟨rfl, hc6, hf6⟩
              rw [HE.out.1]
              rw [HE.out.2] at hc6
              have R7 : Hid (EndsRel w g q s (down k (k - (j + 1))) w6) := ⟨by rw [show k - (j + 1) = k - 1 - j by omega]; exact hc6, below_three W5.out hf6 a1' a2' a3' W5.out.size⟩
              have he2 : toNum (some (k - 1 - (k - 1 - j))) = (j : Int) := by simp [toNum]; omega
              rw [he2]
              clear hc6 hf6
              go_wp2_with fail
              go_roundw
              case rel => exact ⟨j + 1, by omega, by go_num, R7.out⟩
              case measure => simp [intOf]; omega
            · obtain rfl : j = k := by omega
              have hd3 : decide ((j : Int) < (j : Int)) = false := by simp
              have R6 : Hid (EndsRel w g q s [] wr) := by
                have h1 := R5.out
                rw [show j - j = 0 by omega] at h1
                exact ⟨h1, W5.out⟩
              go_wp2_with fail
              go_roundw
              case rel => exact ⟨t + 1, by omega, by go_num, R6.out⟩
              case measure => simp [intOf]; omega
    · obtain rfl : t = 2 := by omega
      have hl : lenOf [[], []] 1 = 0 := by decide
      have HC := Lib.hid R3.out.1
      have HB := Lib.hid R3.out.2
      go_wp2_with (go_at_call 9; (with_reducible refine (len_ g q s 2 100 _ _ _ HC.out).mono ?_); rintro e w' ⟨rfl, rfl⟩)
      go_ret
      exact ⟨rfl, HB.out⟩
end Go.Proofs.Ytlbloopiajjpfaa
