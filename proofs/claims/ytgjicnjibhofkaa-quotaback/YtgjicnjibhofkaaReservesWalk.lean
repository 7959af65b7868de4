/- The walk of the law QuotaReserves: for any numbers and any acts it returns true and turns nothing that was there. -/
import Derived.Test.YtgjicnjibhofkaaNews
import Derived.Test.YtgjicnjibhofkaaIns
import Derived.Deep.CutBlock
namespace Go.Proofs.Ytgjicnjibhofkaa
open Go.RowKit

theorem add_keeps {R S : Nat} {L : List Nat} (x n : Int) (h : used R L ≤ S) : used R (addOf R S L x n) ≤ S := by
  unfold addOf
  split
  · rename_i hf
    simp [fits] at hf
    exact hf.2
  · exact h
theorem add_other {R S : Nat} {L : List Nat} {x : Int} (n : Int) (hx : x ≠ 0) : atOf (addOf R S L x n) 0 = atOf L 0 := by
  unfold addOf
  split
  · rename_i hf
    simp [fits] at hf
    obtain ⟨k, rfl, hk⟩ := has_iff.1 hf.1.1
    exact at_set_ne (by simp; omega)
  · rfl
theorem fits_reserve {R S : Nat} {L : List Nat} (h0 : atOf L 0 = 0) (hu : used R L ≤ S) (hl : 1 ≤ L.length) (hR : R ≤ 1073741824) : fits R S L 0 (R : Nat) = true := by
  have h1 := used_set (R := R) (v := atOf L 0 + R) (L := L) (k := 0) (by omega)
  have h2 : used R (plus L 0 R) ≤ S := by
    unfold plus
    rw [h0] at h1 ⊢
    omega
  have h4 : (R : Int) ≤ 1073741824 := by omega
  simp only [fits, has, isz, Int.toNat_zero, Int.toNat_natCast]
  simp [h2, h4]
  omega
theorem QAt.drew {w : World} {g q R S : Nat} {L : List Nat} (h : QAt w g q R S L) : QAt w.drew g q R S L := h
/-- Where the loop stands. -/
def ResRel (w : World) (g q R S : Nat) (w' : World) : Prop := ∃ L, QAt w' g q R S L ∧ atOf L 0 = 0 ∧ used R L ≤ S ∧ Below w.heap.size w w'
theorem ResRel.turn {w w1 w2 : World} {g q R S : Nat} {L : List Nat} {x y : Int} (h0 : atOf L 0 = 0) (hu : used R L ≤ S) (hb : Below w.heap.size w w1) (hq : QAt w2 g q R S (addOf R S L x y)) (hf : Far (two g q) w1 w2) (hx : x ≠ 0) (hg : w.heap.size ≤ g) (hq' : w.heap.size ≤ q) : ResRel w g q R S w2 :=
  ⟨_, hq, (add_other y hx).trans h0, add_keeps x y hu, below_two hb hf hg hq' hb.size⟩
theorem at_zero (n : Nat) : atOf (List.replicate n 0) 0 = 0 := by cases n <;> rfl

set_option maxRecDepth 100000 in
set_option maxHeartbeats 4000000 in
theorem reserves_near (cl re sh : Int) (A : Option Addr) (n c : Nat) (X Y Z V : Nat → Int) (w : World) (hn : n ≤ 60) (hc0 : 0 ≤ cl) (hc1 : cl ≤ 255) (hr0 : 0 ≤ re) (hr1 : re ≤ 4294967295) (hs0 : 0 ≤ sh) (hs1 : sh ≤ 4294967295) (ha : ActsIn w A n X Y Z V) :
    Calls Try.prog 4 #[.int .u8 cl, .int .u32 re, .int .u32 sh, .slice A n c] w fun e w' => e = .returned (.bool true) ∧ Below w.heap.size w w' := by
  have HA := Lib.hid ha
  clear ha
  have hd : decide ((60 : Int) < (n : Int)) = false := by simp; omega
  have hd' : decide (60 < n) = false := by simp; omega
  obtain ⟨m, hm⟩ : ∃ m : Nat, cl % 20 = m := ⟨(cl % 20).toNat, by omega⟩
  obtain ⟨R, hR⟩ : ∃ R : Nat, re % 1073741824 = R := ⟨(re % 1073741824).toNat, by omega⟩
  obtain ⟨S, hS⟩ : ∃ S : Nat, sh % 1073741824 = S := ⟨(sh % 1073741824).toNat, by omega⟩
  have hm2 : m < 20 := by omega
  have hR2 : R ≤ 1073741824 := by omega
  have hS2 : S ≤ 1073741824 := by omega
  go_enter Try.func4, Try.ntmps4
  go_wp2_with (first | (go_at_call 7; (with_reducible refine (awake_any _).mono ?_); rintro e w1 ⟨rfl, hb1⟩; have W1 := Lib.hid hb1; clear hb1) | (go_at_call 8; (with_reducible refine (new_ (m + 1) R S _ _ _ _ (by omega) (by omega) (by omega) (by omega) (by omega) hR2 hS2).mono ?_); rintro e w2 ⟨g, q, rfl, hr, a1, a2, hb2⟩; have R2 := Lib.hid hr; have W2 : Hid (Below w.heap.size w w2) := W1.out.trans (hb2.mono W1.out.size); have hsz1 := W1.out.size; have a1' : w.heap.size ≤ g := (by omega); have a2' : w.heap.size ≤ q := (by omega); clear hr hb2 W1 hsz1 a1 a2))
  go_loopw [14, 42] (fun _ i w' => ∃ k : Nat, k ≤ n ∧ i = .int .i64 k ∧ ResRel w g q R S w') (fun _ i _ => n - (intOf i).toNat)
  case atStart => exact ⟨0, by omega, rfl, _, R2.out, at_zero _, by rw [used_zero]; omega, W2.out⟩
  case round =>
    clear R2 W2
    obtain ⟨k, hk, rfl, L, hr1, hr2, hr3, hr4⟩ := hrel
    have R3 := Lib.hid hr1
    have U3 := Lib.hid hr3
    have Z3 := Lib.hid hr2
    have W3 := Lib.hid hr4
    clear hr1 hr2 hr3 hr4
    by_cases hlt : k < n
    · have hd5 : decide ((k : Int) < (n : Int)) = true := by simp; omega
      obtain ⟨a, rfl, hca, hcb, hcc, hcv, hx0, hx1, hy0, hy1, hz0, hz1, hv0, hv1⟩ := HA.out k hlt
      have hcb' : wr.cell? (a.add (k * 4 + 1)) = some (.int .i8 (Y k)) := (W3.out.cell (World.block_lt_of_cell? w _ hcb)).trans hcb
      have hcv' : wr.cell? (a.add (k * 4 + 3)) = some (.int .i64 (V k)) := (W3.out.cell (World.block_lt_of_cell? w _ hcv)).trans hcv
      rw [addr_one] at hcb'
      rw [addr_three] at hcv'
      generalize Y k = Y0 at *
      generalize V k = V0 at *
      clear hca hcb hcc hcv hx0 hx1 hz0 hz1
      by_cases hy : Y0 = 0
      · have hd6 : (Y0 == 0) = true := by simp [hy]
        have HR : Hid (ResRel w g q R S wr) := ⟨L, R3.out, Z3.out, U3.out, W3.out⟩
        clear hy
        go_wp2_with fail
        go_roundw
        case rel => exact ⟨k + 1, by omega, by go_num, HR.out⟩
        case measure => simp [intOf]; omega
      · have hd6 : (Y0 == 0) = false := by simp [hy]
        have HY := Lib.hid hy
        have HW : Hid (IntKind.i64.wrap Y0 = Y0) := by show _ = _; rw [IntKind.wrap_i64]; omega
        clear hy
        go_wp2_with fail
        go_region_with (go_at_call 13; rw [HW.out]; (with_reducible refine (add_ g q R S _ _ L _ R3.out.drew).mono ?_); rintro e w5 ⟨rfl, hq5, hf5⟩; have HR : Hid (ResRel w g q R S w5) := ResRel.turn Z3.out U3.out W3.out.drew hq5 hf5 HY.out a1' a2'; clear hq5 hf5)
        all_goals
          go_wp2_with fail
          go_roundw
          case rel => exact ⟨k + 1, by omega, by go_num, HR.out⟩
          case measure => simp [intOf]; omega
    · obtain rfl : k = n := by omega
      have hd5 : decide ((k : Int) < (k : Int)) = false := by simp
      have HF : Hid (fits R S L 0 (R : Nat) = true) := fits_reserve Z3.out U3.out R3.out.ok.lo hR2
      have hd6 : decide ((used R L : Int) ≤ (S : Int)) = true := by have := U3.out; simp; omega
      have hd7 : decide (used R L ≤ S) = true := by have := U3.out; simpa using this
      go_wp2_with (first | (go_at_call 10; (with_reducible refine (fits_ g q R S _ _ L _ R3.out).mono ?_); rintro e w' ⟨rfl, N, rfl⟩; rw [HF.out]) | (go_at_call 19; (with_reducible refine (shared_ g q R S L _ (R3.out.drewN N)).mono ?_); rintro e w' ⟨rfl, rfl⟩))
      go_ret
      exact ⟨rfl, below_drewN W3.out _⟩

set_option maxRecDepth 100000 in
set_option maxHeartbeats 2000000 in
theorem reserves_far (cl re sh : Int) (A : Option Addr) (n c : Nat) (w : World) (hn : 60 < n) (hc0 : 0 ≤ cl) (hc1 : cl ≤ 255) (hr0 : 0 ≤ re) (hr1 : re ≤ 4294967295) (hs0 : 0 ≤ sh) (hs1 : sh ≤ 4294967295) :
    Calls Try.prog 4 #[.int .u8 cl, .int .u32 re, .int .u32 sh, .slice A n c] w fun e w' => e = .returned (.bool true) ∧ Below w.heap.size w w' := by
  have hd : decide ((60 : Int) < (n : Int)) = true := by simp; omega
  have hd' : decide (60 < n) = true := by simp; omega
  go_enter Try.func4, Try.ntmps4
  go_wp2_with fail
  refine (awake_any _).mono ?_
  rintro e w1 ⟨rfl, hb1⟩
  have W1 := Lib.hid hb1
  clear hb1
  go_wp2_with fail
  refine (awake_any _).mono ?_
  rintro e w2 ⟨rfl, hb2⟩
  have W2 : Hid (Below w.heap.size w w2) := W1.out.trans (hb2.mono W1.out.size)
  clear hb2
  go_wp2_with fail
  go_ret
  exact ⟨rfl, W2.out⟩
end Go.Proofs.Ytgjicnjibhofkaa
