/- The walk of the law QuotaBack: for any numbers, acts and classes it returns true and turns nothing that was there. -/
import Derived.Test.YtgjicnjibhofkaaNews
import Derived.Test.YtgjicnjibhofkaaIns
import Derived.Test.YtgjicnjibhofkaaReservesWalk
namespace Go.Proofs.Ytgjicnjibhofkaa
open Go.RowKit

/-- Where the loop stands. -/
def SumRel (w : World) (g q R S : Nat) (w' : World) : Prop := ∃ L, QAt w' g q R S L ∧ Below w.heap.size w w'
theorem add_sub {R S : Nat} {L : List Nat} {x n : Int} (h : fits R S L x n = true) : canSub (addOf R S L x n) x n = true ∧ subOf (addOf R S L x n) x n = L := by
  have e : addOf R S L x n = plus L x.toNat n.toNat := by simp [addOf, h]
  simp [fits] at h
  obtain ⟨k, rfl, hk⟩ := has_iff.1 h.1.1
  have hn : 0 ≤ n := by have := h.1.2; simp [isz] at this; exact this.1
  have hc : canSub (plus L k n.toNat) k n = true := by
    have h1 : has (plus L k n.toNat) k = true := has_iff.2 ⟨k, rfl, by rw [plus_length]; exact hk⟩
    have h2 : atOf (plus L k n.toNat) k = atOf L k + n.toNat := at_set_self hk
    simp [canSub, h1, h2, hn]
    omega
  simp only [Int.toNat_natCast] at e
  rw [e]
  refine ⟨hc, ?_⟩
  simp [subOf, hc, less_plus]
theorem move_move {L : List Nat} {x y n : Int} (h : canMove L x y n = true) : canMove (moveOf L x y n) y x n = true ∧ moveOf (moveOf L x y n) y x n = L := by
  have e : moveOf L x y n = plus (less L x.toNat n.toNat) y.toNat n.toNat := by simp [moveOf, h]
  simp [canMove, canSub] at h
  obtain ⟨k, rfl, hk⟩ := has_iff.1 h.1.1.1
  obtain ⟨j, rfl, hj⟩ := has_iff.1 h.2
  have hn : 0 ≤ n := h.1.1.2
  obtain ⟨m, rfl⟩ : ∃ m : Nat, n = m := ⟨n.toNat, by omega⟩
  have hm : m ≤ atOf L k := by have := h.1.2; simpa using this
  simp only [Int.toNat_natCast] at e
  obtain ⟨b1, b2⟩ := move_back hm hj
  have hc : canMove (plus (less L k m) j m) j k m = true := by
    have h1 : has (plus (less L k m) j m) j = true := has_iff.2 ⟨j, rfl, by rw [plus_length, less_length]; exact hj⟩
    have h2 : has (plus (less L k m) j m) k = true := has_iff.2 ⟨k, rfl, by rw [plus_length, less_length]; exact hk⟩
    simp [canMove, canSub, h1, h2]
    omega
  rw [e]
  refine ⟨hc, ?_⟩
  simp [moveOf, hc, b2]

set_option maxRecDepth 100000 in
set_option maxHeartbeats 8000000 in
theorem back_near (re sh pa pb n0 : Int) (A : Option Addr) (n c : Nat) (X Y Z V : Nat → Int) (w : World) (hn : n ≤ 60) (hr0 : 0 ≤ re) (hr1 : re ≤ 4294967295) (hs0 : 0 ≤ sh) (hs1 : sh ≤ 4294967295) (hp0 : 0 ≤ pa) (hp1 : pa ≤ 255) (hq0 : 0 ≤ pb) (hq1 : pb ≤ 255) (ha : ActsIn w A n X Y Z V) :
    Calls Try.prog 5 #[.int .u32 re, .int .u32 sh, .slice A n c, .int .u8 pa, .int .u8 pb, .int .i64 n0] w fun e w' => e = .returned (.bool true) ∧ Below w.heap.size w w' := by
  have HA := Lib.hid ha
  clear ha
  have hd : decide ((60 : Int) < (n : Int)) = false := by simp; omega
  have hd' : decide (60 < n) = false := by simp; omega
  obtain ⟨R, hR⟩ : ∃ R : Nat, re % 1073741824 = R := ⟨(re % 1073741824).toNat, by omega⟩
  obtain ⟨S, hS⟩ : ∃ S : Nat, sh % 1073741824 = S := ⟨(sh % 1073741824).toNat, by omega⟩
  have hR2 : R ≤ 1073741824 := by omega
  have hS2 : S ≤ 1073741824 := by omega
  go_enter Try.func5, Try.ntmps5
  go_wp2_with (first | (go_at_call 7; (with_reducible refine (awake_any _).mono ?_); rintro e w1 ⟨rfl, hb1⟩; have W1 := Lib.hid hb1; clear hb1) | (go_at_call 8; (with_reducible refine (new_ 5 R S _ _ _ _ (by omega) (by omega) (by omega) (by omega) (by omega) hR2 hS2).mono ?_); rintro e w2 ⟨g, q, rfl, hr, a1, a2, hb2⟩; have R2 := Lib.hid hr; have W2 : Hid (Below w.heap.size w w2) := W1.out.trans (hb2.mono W1.out.size); have hsz1 := W1.out.size; have a1' : w.heap.size ≤ g := (by omega); have a2' : w.heap.size ≤ q := (by omega); clear hr hb2 W1 hsz1 a1 a2))
  go_loopw [15, 41] (fun _ i w' => ∃ k : Nat, k ≤ n ∧ i = .int .i64 k ∧ SumRel w g q R S w') (fun _ i _ => n - (intOf i).toNat)
  case atStart => exact ⟨0, by omega, rfl, _, R2.out, W2.out⟩
  case round =>
    clear R2 W2
    obtain ⟨k, hk, rfl, L, hr1, hr4⟩ := hrel
    have R3 := Lib.hid hr1
    have W3 := Lib.hid hr4
    clear hr1 hr4
    by_cases hlt : k < n
    · have hd5 : decide ((k : Int) < (n : Int)) = true := by simp; omega
      obtain ⟨a, rfl, hca, hcb, hcc, hcv, hx0, hx1, hy0, hy1, hz0, hz1, hv0, hv1⟩ := HA.out k hlt
      have hcb' : wr.cell? (a.add (k * 4 + 1)) = some (.int .i8 (Y k)) := (W3.out.cell (World.block_lt_of_cell? w _ hcb)).trans hcb
      have hcv' : wr.cell? (a.add (k * 4 + 3)) = some (.int .i64 (V k)) := (W3.out.cell (World.block_lt_of_cell? w _ hcv)).trans hcv
      rw [addr_one] at hcb'
      rw [addr_three] at hcv'
      generalize Y k = Y0 at *
      generalize V k = V0 at *
      clear hca hcb hcc hcv hx0 hx1 hz0 hz1
      have HW : Hid (IntKind.i64.wrap Y0 = Y0) := by show _ = _; rw [IntKind.wrap_i64]; omega
      go_wp2_with fail
      go_region_with (go_at_call 13; rw [HW.out]; (with_reducible refine (add_ g q R S _ _ L _ R3.out.drew).mono ?_); rintro e w5 ⟨rfl, hq5, hf5⟩; have HR : Hid (SumRel w g q R S w5) := ⟨_, hq5, below_two W3.out.drew hf5 a1' a2' W3.out.drew.size⟩; clear hq5 hf5)
      all_goals
        go_wp2_with fail
        go_roundw
        case rel => exact ⟨k + 1, by omega, by go_num, HR.out⟩
        case measure => simp [intOf]; omega
    · obtain rfl : k = n := by omega
      have hd5 : decide ((k : Int) < (k : Int)) = false := by simp
      clear HA hn hd hd' hlt hk
      obtain ⟨x, hx⟩ : ∃ x : Nat, pa % 5 = x := ⟨(pa % 5).toNat, by omega⟩
      obtain ⟨y, hy⟩ : ∃ y : Nat, pb % 5 = y := ⟨(pb % 5).toNat, by omega⟩
      go_upto_region 11 with (first | (go_at_call 9; (with_reducible refine (bytes_ g q R S _ L _ R3.out).mono ?_); rintro e w' ⟨rfl, rfl⟩) | (go_at_call 19; (with_reducible refine (shared_ g q R S L _ R3.out).mono ?_); rintro e w' ⟨rfl, rfl⟩))
      have HB : Hid (∀ W1 W2 : World, Below w.heap.size w W1 → Far (two g q) W1 W2 → Below w.heap.size w W2) := fun W1 W2 hb hf => below_two hb hf a1' a2' hb.size
      rcases hf : fits R S L (x : Nat) n0 with _ | _
      · have he : addOf R S L (x : Nat) n0 = L := by simp [addOf, hf]
        go_upto_region 13 with (first | (go_at_call 13; (with_reducible refine (add_ g q R S _ _ L _ R3.out).mono ?_); rintro e w6 ⟨rfl, hq6, hf6⟩; rw [hf]; rw [he] at hq6; have Q6 := Lib.hid hq6; have B6 := Lib.hid (HB.out _ _ W3.out hf6); clear hq6 hf6))
        clear he
        clear hf
        rcases hm : canMove L (x : Nat) (y : Nat) n0 with _ | _
        · have he : moveOf L (x : Nat) (y : Nat) n0 = L := by simp [moveOf, hm]
          go_upto_region 15 with (first | (go_at_call 17; (with_reducible refine (move_ g q R S _ _ _ L _ Q6.out).mono ?_); rintro e w7 ⟨rfl, hq7, hf7⟩; rw [hm]; rw [he] at hq7; have Q7 := Lib.hid hq7; have B7 := Lib.hid (HB.out _ _ B6.out hf7); clear hq7 hf7))
          clear he hm
          go_wp2_with (first | (go_at_call 9; (with_reducible refine (bytes_ g q R S _ L _ Q7.out).mono ?_); rintro e w' ⟨rfl, rfl⟩) | (go_at_call 19; (with_reducible refine (shared_ g q R S L _ Q7.out).mono ?_); rintro e w' ⟨rfl, rfl⟩))
          go_ret
          exact ⟨rfl, B7.out⟩
        · obtain ⟨he1, he2⟩ := move_move hm
          go_upto_region 15 with (first | (go_at_call 17; (with_reducible refine (move_ g q R S _ _ _ L _ Q6.out).mono ?_); rintro e w5 ⟨rfl, hq5, hf5⟩; rw [hm]; have Q5 := Lib.hid hq5; have B5 := Lib.hid (HB.out _ _ B6.out hf5); clear hq5 hf5) | (go_at_call 17; (with_reducible refine (move_ g q R S _ _ _ _ _ Q5.out).mono ?_); rintro e w7 ⟨rfl, hq7, hf7⟩; rw [he1]; rw [he2] at hq7; have Q7 := Lib.hid hq7; have B7 := Lib.hid (HB.out _ _ B5.out hf7); clear hq7 hf7))
          clear he1 he2 hm Q5 B5
          go_wp2_with (first | (go_at_call 9; (with_reducible refine (bytes_ g q R S _ L _ Q7.out).mono ?_); rintro e w' ⟨rfl, rfl⟩) | (go_at_call 19; (with_reducible refine (shared_ g q R S L _ Q7.out).mono ?_); rintro e w' ⟨rfl, rfl⟩))
          go_ret
          exact ⟨rfl, B7.out⟩
      · obtain ⟨he1, he2⟩ := add_sub hf
        go_upto_region 13 with (first | (go_at_call 13; (with_reducible refine (add_ g q R S _ _ L _ R3.out).mono ?_); rintro e w5 ⟨rfl, hq5, hf5⟩; rw [hf]; have Q5 := Lib.hid hq5; have B5 := Lib.hid (HB.out _ _ W3.out hf5); clear hq5 hf5) | (go_at_call 15; (with_reducible refine (sub_ g q R S _ _ _ _ Q5.out).mono ?_); rintro e w6 ⟨rfl, hq6, hf6⟩; rw [he1]; rw [he2] at hq6; have Q6 := Lib.hid hq6; have B6 := Lib.hid (HB.out _ _ B5.out hf6); clear hq6 hf6))
        clear he1 he2 Q5 B5
        clear hf
        rcases hm : canMove L (x : Nat) (y : Nat) n0 with _ | _
        · have he : moveOf L (x : Nat) (y : Nat) n0 = L := by simp [moveOf, hm]
          go_upto_region 15 with (first | (go_at_call 17; (with_reducible refine (move_ g q R S _ _ _ L _ Q6.out).mono ?_); rintro e w7 ⟨rfl, hq7, hf7⟩; rw [hm]; rw [he] at hq7; have Q7 := Lib.hid hq7; have B7 := Lib.hid (HB.out _ _ B6.out hf7); clear hq7 hf7))
          clear he hm
          go_wp2_with (first | (go_at_call 9; (with_reducible refine (bytes_ g q R S _ L _ Q7.out).mono ?_); rintro e w' ⟨rfl, rfl⟩) | (go_at_call 19; (with_reducible refine (shared_ g q R S L _ Q7.out).mono ?_); rintro e w' ⟨rfl, rfl⟩))
          go_ret
          exact ⟨rfl, B7.out⟩
        · obtain ⟨he1, he2⟩ := move_move hm
          go_upto_region 15 with (first | (go_at_call 17; (with_reducible refine (move_ g q R S _ _ _ L _ Q6.out).mono ?_); rintro e w5 ⟨rfl, hq5, hf5⟩; rw [hm]; have Q5 := Lib.hid hq5; have B5 := Lib.hid (HB.out _ _ B6.out hf5); clear hq5 hf5) | (go_at_call 17; (with_reducible refine (move_ g q R S _ _ _ _ _ Q5.out).mono ?_); rintro e w7 ⟨rfl, hq7, hf7⟩; rw [he1]; rw [he2] at hq7; have Q7 := Lib.hid hq7; have B7 := Lib.hid (HB.out _ _ B5.out hf7); clear hq7 hf7))
          clear he1 he2 hm Q5 B5
          go_wp2_with (first | (go_at_call 9; (with_reducible refine (bytes_ g q R S _ L _ Q7.out).mono ?_); rintro e w' ⟨rfl, rfl⟩) | (go_at_call 19; (with_reducible refine (shared_ g q R S L _ Q7.out).mono ?_); rintro e w' ⟨rfl, rfl⟩))
          go_ret
          exact ⟨rfl, B7.out⟩

set_option maxRecDepth 100000 in
set_option maxHeartbeats 2000000 in
theorem back_far (re sh pa pb n0 : Int) (A : Option Addr) (n c : Nat) (w : World) (hn : 60 < n) :
    Calls Try.prog 5 #[.int .u32 re, .int .u32 sh, .slice A n c, .int .u8 pa, .int .u8 pb, .int .i64 n0] w fun e w' => e = .returned (.bool true) ∧ Below w.heap.size w w' := by
  have hd : decide ((60 : Int) < (n : Int)) = true := by simp; omega
  have hd' : decide (60 < n) = true := by simp; omega
  go_enter Try.func5, Try.ntmps5
  go_wp2_with fail
  refine (awake_any _).mono ?_
  rintro e w1 ⟨rfl, hb1⟩
  have W1 := Lib.hid hb1
  clear hb1
  go_wp2_with fail
  refine (awake_any _).mono ?_
  rintro e w2 ⟨rfl, hb2⟩
  have W2 : Hid (Below w.heap.size w w2) := W1.out.trans (hb2.mono W1.out.size)
  clear hb2
  go_wp2_with fail
  go_ret
  exact ⟨rfl, W2.out⟩
end Go.Proofs.Ytgjicnjibhofkaa
