/- The walk of the law ChainOnce: for any acts it returns true and turns nothing that was there. -/
import Derived.Test.YtlbloopiajjpfaaOnceNums
import Derived.Test.YtlbloopiajjpfaaIns
import Derived.Deep.CutBlock
namespace Go.Proofs.Ytlbloopiajjpfaa
open Go.RowKit

/-- Where the loops stand. -/
def OnceRel (w : World) (g q s : Nat) (L : List (List Nat)) (w' : World) : Prop := ChAt w' g q s 4 20 L ∧ Below w.heap.size w w'

set_option maxRecDepth 100000 in
set_option maxHeartbeats 8000000 in
theorem once_near (A : Option Addr) (n c : Nat) (X Y Z : Nat → Int) (w : World) (hn : n ≤ 100) (ha : ActsIn w A n X Y Z) :
    Calls Try.prog 4 #[.slice A n c] w fun e w' => e = .returned (.bool true) ∧ Below w.heap.size w w' := by
  have HA := Lib.hid ha
  clear ha
  have hd : decide ((100 : Int) < (n : Int)) = false := by simp; omega
  have hd' : decide (100 < n) = false := by simp; omega
  go_enter Try.func4, Try.ntmps4
  go_wp2_with (first | (go_at_call 7; (with_reducible refine (awake_any _).mono ?_); rintro e w1 ⟨rfl, hb1⟩; have W1 := Lib.hid hb1; clear hb1)  | (go_at_call 8; (with_reducible refine (new_ 4 20 _ _ _ (by omega) (by omega) (by omega) (by omega) (by omega) (by omega)).mono ?_); rintro e w2 ⟨g, q, s, rfl, hr, ha, hb2⟩; have R2 := Lib.hid hr; have HN := Lib.hid ha; have W2 : Hid (Below w.heap.size w w2) := W1.out.trans (hb2.mono W1.out.size); clear hr ha hb2))
  have hsz1 := W1.out.size
  obtain ⟨a1, a2, a3, _⟩ := HN.out
  have a1' : w.heap.size ≤ g := by omega
  have a2' : w.heap.size ≤ q := by omega
  have a3' : w.heap.size ≤ s := by omega
  clear HN W1 hsz1 a1 a2 a3
  go_loopw [5, 6, 7, 8, 9, 10, 11, 12, 13, 14, 15, 16, 17, 18, 33] (fun _ _ _ _ _ _ _ _ _ _ _ _ _ _ i w' => ∃ (k : Nat) (L : List (List Nat)), k ≤ n ∧ i = .int .i64 k ∧ OnceRel w g q s L w') (fun _ _ _ _ _ _ _ _ _ _ _ _ _ _ i _ => n - (intOf i).toNat)
  case atStart => exact ⟨0, _, by omega, rfl, R2.out, W2.out⟩
  case round =>
    obtain ⟨k, L, hk, rfl, hr⟩ := hrel
    have R3 := Lib.hid hr.1
    have W3 := Lib.hid hr.2
    clear hr
    by_cases hlt : k < n
    · have hd5 : decide ((k : Int) < (n : Int)) = true := by simp; omega
      obtain ⟨a, rfl, hca, hcb, hcc, hx0, hx1, hy0, hy1, hz0, hz1⟩ := HA.out k hlt
      have hca' : wr.cell? (a.add (k * 3)) = some (.int .u8 (X k)) := (W3.out.cell (World.block_lt_of_cell? w _ hca)).trans hca
      have hcb' : wr.cell? (a.add (k * 3 + 1)) = some (.int .i16 (Y k)) := (W3.out.cell (World.block_lt_of_cell? w _ hcb)).trans hcb
      have hcc' : wr.cell? (a.add (k * 3 + 2)) = some (.int .i16 (Z k)) := (W3.out.cell (World.block_lt_of_cell? w _ hcc)).trans hcc
      rw [addr_one] at hcb'
      rw [addr_two] at hcc'
      generalize X k = X0 at *
      generalize Y k = Y0 at *
      generalize Z k = Z0 at *
      clear hca hcb hcc
      obtain ⟨t, ht⟩ : ∃ t : Nat, X0 % 4 = t := ⟨(X0 % 4).toNat, by omega⟩
      have ht4 : t < 4 := by omega
      go_wp2_with fail
      go_quiet (fail)
      go_upto_block 2 with fail
      have R4 := Lib.hid (R3.out.drewN nq)
      have W4 := Lib.hid (below_drewN W3.out nq)
      go_cut [55] from 56 to 71 (fun _ wx => ∃ L' : List (List Nat), OnceRel w g q s L' wx)
      case first =>
        by_cases ht2 : t < 2
        · have hts : t = 0 ∨ t = 1 := by omega
          rcases hts with rfl | rfl
          all_goals
            go_wp2_with (go_at_call 10; (with_reducible refine (push_ g q s 4 20 _ _ L _ R4.out).mono ?_); rintro e w5 ⟨rfl, hc5, hf5⟩; have R5 := Lib.hid hc5; have F5 := Lib.hid hf5; clear hc5 hf5)
            go_meet
            case rel => exact ⟨_, R5.out, below_three W4.out F5.out a1' a2' a3' W4.out.size⟩
        · by_cases ht3 : t = 2
          · subst ht3
            go_wp2_with (go_at_call 13; (with_reducible refine (pop_ g q s 4 20 _ L _ R4.out).mono ?_); rintro e w5 ⟨rfl, hc5, hf5⟩; have R5 := Lib.hid hc5; have F5 := Lib.hid hf5; clear hc5 hf5)
            go_meet
            case rel => exact ⟨_, R5.out, below_three W4.out F5.out a1' a2' a3' W4.out.size⟩
          · obtain rfl : t = 3 := by omega
            go_wp2_with (go_at_call 17; (with_reducible refine (cut_ g q s 4 20 _ _ L _ R4.out).mono ?_); rintro e w5 ⟨rfl, hc5, hf5⟩; have R5 := Lib.hid hc5; have F5 := Lib.hid hf5; clear hc5 hf5)
            go_meet
            case rel => exact ⟨_, R5.out, below_three W4.out F5.out a1' a2' a3' W4.out.size⟩
      case rest =>
        obtain ⟨L', hr⟩ := hcut
        have R5 := Lib.hid hr
        clear hr R4 W4 R3 W3 hca' hcb' hcc'
        go_wp2_with fail
        go_loopw [8, 10, 11, 12, 13, 14, 15, 72] (fun al _ _ _ _ _ _ i w' => ∃ l : Nat, l ≤ 4 ∧ i = .int .i64 l ∧ al = .int .i64 (sumTo L' l : Nat) ∧ OnceRel w g q s L' w') (fun _ _ _ _ _ _ _ i _ => 4 - (intOf i).toNat)
        case atStart => exact ⟨0, by omega, rfl, rfl, R5.out⟩
        case round =>
          obtain ⟨l, hl, rfl, rfl, hr⟩ := hrel
          have R6 := Lib.hid hr.1
          have W6 := Lib.hid hr.2
          clear hr
          have hsum := R6.out.sum_le l
          have hlen := R6.out.short (l : Int)
          by_cases hll : l < 4
          · have hd6 : decide ((l : Int) < 4) = true := by simp; omega
            go_wp2_with (go_at_call 9; (with_reducible refine (len_ g q s 4 20 _ L' _ R6.out).mono ?_); rintro e w' ⟨rfl, rfl⟩)
            go_loopw [11, 12, 13, 14, 15, 83] (fun _ _ _ _ _ i w' => ∃ j : Nat, j ≤ lenOf L' l ∧ i = .int .i64 j ∧ OnceRel w g q s L' w') (fun _ _ _ _ _ i _ => lenOf L' l - (intOf i).toNat)
            case atStart => exact ⟨0, by omega, rfl, R6.out, W6.out⟩
            case round =>
              obtain ⟨j, hj, rfl, hr⟩ := hrel
              have R7 := Lib.hid hr.1
              have W7 := Lib.hid hr.2
              clear hr
              by_cases hjl : j < lenOf L' l
              · have hd7 : decide ((j : Int) < (lenOf L' l : Int)) = true := by simp; omega
                obtain ⟨p, hp1, hp2⟩ := R7.out.there hjl
                have e1 : toNum (atOf L' l j) = (p : Int) := by rw [hp1]; rfl
                have e2 : toNum (lineOf L' p) = (l : Int) := by rw [hp2]; rfl
                have e3 : (lineOf L' p).isSome = true := by rw [hp2]; rfl
                clear hp1 hp2
                go_wp2_with (first | (go_at_call 19; (with_reducible refine (at_ g q s 4 20 _ _ L' _ R7.out).mono ?_); rintro e w8 ⟨rfl, N1, rfl⟩; rw [e1]) | (go_at_call 20; (with_reducible refine (line_ g q s 4 20 _ L' _ (R7.out.drewN N1)).mono ?_); rintro e w9 ⟨rfl, N2, rfl⟩; rw [e2, e3]))
                go_roundw
                case rel => exact ⟨j + 1, by omega, by go_num, R7.out.drewN _, below_drewN W7.out _⟩
                case measure => simp [intOf]; omega
              · obtain rfl : j = lenOf L' l := by omega
                have hd7 : decide ((lenOf L' l : Int) < (lenOf L' l : Int)) = false := by simp
                have hadd : (sumTo L' l : Int) + (lenOf L' l : Int) = ((sumTo L' (l + 1) : Nat) : Int) := by rw [sumTo]; omega
                go_wp2_with fail
                go_roundw
                case rel => exact ⟨l + 1, by omega, by go_num, by rw [← hadd], R7.out, W7.out⟩
                case measure => simp [intOf]; omega
          · have hd6 : decide ((l : Int) < 4) = false := by simp; omega
            have HEQ : Hid (sumTo L' l = countIn L' 20) := by
              have := R6.out.counts
              rw [show l = 4 by omega]
              exact this
            generalize sumTo L' l = T at *
            go_wp2_with fail
            go_loopw [9, 16, 17, 18, 108] (fun nn _ _ _ i w' => ∃ p : Nat, p ≤ 20 ∧ i = .int .i64 p ∧ nn = .int .i64 (countIn L' p : Nat) ∧ OnceRel w g q s L' w') (fun _ _ _ _ i _ => 20 - (intOf i).toNat)
            case atStart => exact ⟨0, by omega, rfl, rfl, R6.out, W6.out⟩
            case round =>
              obtain ⟨p, hp, rfl, rfl, hr⟩ := hrel
              have R7 := Lib.hid hr.1
              have W7 := Lib.hid hr.2
              clear hr
              have hcnt := countIn_le L' p
              by_cases hpl : p < 20
              · have hd7 : decide ((p : Int) < 20) = true := by simp; omega
                rcases e : lineOf L' (p : Int) with _ | l'
                · have e2 : (lineOf L' (p : Int)).isSome = false := by rw [e]; rfl
                  have HC : Hid (countIn L' (p + 1) = countIn L' p) := by show _ = _; rw [countIn, e2]; simp
                  clear e
                  generalize countIn L' p = z at *
                  go_wp2_with (go_at_call 20; (with_reducible refine (line_ g q s 4 20 _ L' _ R7.out).mono ?_); rintro e w9 ⟨rfl, N2, rfl⟩; rw [e2])
                  go_roundw
                  case rel => exact ⟨p + 1, by omega, by go_num, by rw [HC.out], R7.out.drewN _, below_drewN W7.out _⟩
                  case measure => simp [intOf]; omega
                · have e2 : (lineOf L' (p : Int)).isSome = true := by rw [e]; rfl
                  have HC : Hid (countIn L' (p + 1) = countIn L' p + 1) := by show _ = _; rw [countIn, e2]; simp
                  clear e
                  generalize countIn L' p = z at *
                  go_wp2_with (go_at_call 20; (with_reducible refine (line_ g q s 4 20 _ L' _ R7.out).mono ?_); rintro e w9 ⟨rfl, N2, rfl⟩; rw [e2])
                  go_roundw
                  case rel => exact ⟨p + 1, by omega, by go_num, by rw [HC.out]; go_num, R7.out.drewN _, below_drewN W7.out _⟩
                  case measure => simp [intOf]; omega
              · obtain rfl : p = 20 := by omega
                have hd7 : decide (((20 : Nat) : Int) < 20) = false := by decide
                rw [← HEQ.out]
                go_wp2_with fail
                go_roundw
                case rel => exact ⟨k + 1, L', by omega, by go_num, R7.out, W7.out⟩
                case measure => simp [intOf]; omega
    · obtain rfl : k = n := by omega
      have hd5 : decide ((k : Int) < (k : Int)) = false := by simp
      go_wp2_with fail
      go_ret
      exact ⟨rfl, W3.out⟩

set_option maxRecDepth 100000 in
set_option maxHeartbeats 2000000 in
theorem once_far (A : Option Addr) (n c : Nat) (w : World) (hn : 100 < n) :
    Calls Try.prog 4 #[.slice A n c] w fun e w' => e = .returned (.bool true) ∧ Below w.heap.size w w' := by
  have hd : decide ((100 : Int) < (n : Int)) = true := by simp; omega
  have hd' : decide (100 < n) = true := by simp; omega
  go_enter Try.func4, Try.ntmps4
  go_wp2_with fail
  refine (awake_any _).mono ?_
  rintro e w1 ⟨rfl, hb1⟩
  have W1 := Lib.hid hb1
  clear hb1
  go_wp2_with fail
  refine (awake_any _).mono ?_
  rintro e w2 ⟨rfl, hb2⟩
  have W2 : Hid (Below w.heap.size w w2) := W1.out.trans (hb2.mono W1.out.size)
  clear hb2
  go_wp2_with fail
  go_ret
  exact ⟨rfl, W2.out⟩
end Go.Proofs.Ytlbloopiajjpfaa
