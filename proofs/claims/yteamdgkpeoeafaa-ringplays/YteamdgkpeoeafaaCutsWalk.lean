/- The walk of the law RingCuts: for any numbers and any place it returns true and turns nothing that was there. -/
import Derived.Test.YteamdgkpeoeafaaTurnsWalk
namespace Go.Proofs.Yteamdgkpeoeafaa
open Go.RowKit

/-- Numbers as values. -/
def ints (zs : List Int) : List Value := zs.map (Value.int .i64)
theorem ints_length (zs : List Int) : (ints zs).length = zs.length := by simp [ints]
theorem ints_app (a b : List Int) : ints (a ++ b) = ints a ++ ints b := by simp [ints]
theorem ints_at {zs : List Int} {k : Nat} (h : k < zs.length) : (ints zs)[k]? = some (.int .i64 (zs.getD k 0)) := by
  simp [ints, List.getD_eq_getElem?_getD, List.getElem?_eq_getElem h]
theorem ints_erase (zs : List Int) (k : Nat) : (ints zs).eraseIdx k = ints (zs.eraseIdx k) := by
  induction zs generalizing k with
  | nil => rfl
  | cons z r ih =>
    rcases k with _ | k
    · rfl
    · show Value.int .i64 z :: (ints r).eraseIdx k = _
      rw [ih]
      rfl
theorem ints_cons {zs : List Int} {k : Nat} (h : k < zs.length) : ints (zs.drop k) = .int .i64 (zs.getD k 0) :: ints (zs.drop (k + 1)) := by
  rw [List.drop_eq_getElem_cons h]
  simp only [ints, List.map_cons, List.getD_eq_getElem?_getD, List.getElem?_eq_getElem h, Option.getD_some]
theorem ints_snoc {zs : List Int} {k : Nat} (h : k < zs.length) : ints (zs.take k) ++ [.int .i64 (zs.getD k 0)] = ints (zs.take (k + 1)) := by
  rw [List.take_succ_eq_append_getElem h]
  simp only [ints, List.map_append, List.map_cons, List.map_nil, List.getD_eq_getElem?_getD, List.getElem?_eq_getElem h, Option.getD_some]

/-- What a numbers' slice holds is read in every world that has only grown. -/
def Reads (w : World) (ad : Addr) (n : Nat) (zs : List Int) : Prop := zs.length = n ∧ ∀ k, k < n → w.cell? (ad.add k) = some (.int .i64 (zs.getD k 0))
theorem Reads.below {w w' : World} {ad : Addr} {n : Nat} {zs : List Int} (h : Reads w ad n zs) (hb : Below w.heap.size w w') : Reads w' ad n zs :=
  ⟨h.1, fun k hk => (hb.cell (World.block_lt_of_cell? w _ (h.2 k hk))).trans (h.2 k hk)⟩

theorem far_cell {S : Nat → Prop} {w w' : World} {ad : Addr} {k : Nat} {v : Value} (hf : Far S w w') (h : w.cell? (ad.add k) = some v) (hn : ¬ S ad.block) : w'.cell? (ad.add k) = some v :=
  (World.cell?_of_block (hf.block _ (World.block_lt_of_cell? w _ h) (by rw [Addr.block_add]; exact hn))).trans h

theorem erase_at {zs : List Int} {p k : Nat} (hne : k ≠ p) : (zs.eraseIdx p).getD (if k ≤ p then k else k - 1) 0 = zs.getD k 0 := by
  rw [List.getD_eq_getElem?_getD, List.getD_eq_getElem?_getD, List.getElem?_eraseIdx]
  by_cases h : k ≤ p
  · rw [if_pos h, if_pos (by omega)]
  · rw [if_neg h, if_neg (by omega), show k - 1 + 1 = k by omega]

set_option maxRecDepth 100000 in
set_option maxHeartbeats 1000000 in
theorem cuts_far (A : Option Addr) (n c : Nat) (x : Int) (w : World) (hn : n ≤ 9223372036854775807) (h : n = 0 ∨ 50 < n) :
    Calls Try.prog 6 #[.slice A n c, .int .u8 x] w fun e w' => e = .returned (.bool true) ∧ Below w.heap.size w w' := by
  rcases h with rfl | h
  · go_enter Try.func6, Try.ntmps6
    go_wp2_with fail
    refine (awake_any _).mono ?_
    rintro e w1 ⟨rfl, hb⟩
    have HB := Lib.hid hb
    clear hb
    go_wp2_with fail
    refine (awake_any _).mono ?_
    rintro e w2 ⟨rfl, hb⟩
    have HC := Lib.hid hb
    clear hb
    go_wp2
    go_ret
    exact ⟨rfl, HB.out.trans (HC.out.mono HB.out.size)⟩
  · have hd0 : ((n : Int) == 0) = false := by simp; omega
    have hd : decide ((50 : Int) < (n : Int)) = true := by simp; omega
    go_enter Try.func6, Try.ntmps6
    go_wp2_with fail
    refine (awake_any _).mono ?_
    rintro e w1 ⟨rfl, hb⟩
    have HB := Lib.hid hb
    clear hb
    go_wp2_with fail
    refine (awake_any _).mono ?_
    rintro e w2 ⟨rfl, hb⟩
    have HC := Lib.hid hb
    clear hb
    go_wp2
    go_ret
    exact ⟨rfl, HB.out.trans (HC.out.mono HB.out.size)⟩

set_option maxRecDepth 100000 in
set_option maxHeartbeats 4000000 in
theorem cuts_near (ad : Addr) (n c : Nat) (x : Int) (zs : List Int) (w : World) (h1 : 1 ≤ n) (h2 : n ≤ 50) (hx0 : 0 ≤ x) (hx1 : x ≤ 255) (ha : Reads w ad n zs) :
    Calls Try.prog 6 #[.slice (some ad) n c, .int .u8 x] w fun e w' => e = .returned (.bool true) ∧ Below w.heap.size w w' := by
  have HA := Lib.hid ha
  have HN := Lib.hid ha.1
  clear ha
  have hd0 : ((n : Int) == 0) = false := by simp; omega
  have hd : decide ((50 : Int) < (n : Int)) = false := by simp; omega
  go_enter Try.func6, Try.ntmps6
  go_wp2_with (first | (go_at_call 7; (with_reducible refine (awake_any _).mono ?_); rintro e w1 ⟨rfl, hb1⟩; have W1 := Lib.hid hb1; clear hb1) | (go_at_call 8; (with_reducible refine (newin_I n _ _ rfl h1 (by omega)).mono ?_); rintro e w2 ⟨g, q, rfl, hr, hg, hq, hb2⟩; have R2 := Lib.hid hr; have W2 : Hid (Below w.heap.size w w2) := W1.out.trans (hb2.mono W1.out.size); have hsz1 := W1.out.size; clear hr hb2))
  have hgw : w.heap.size ≤ g := by omega
  have hqw : w.heap.size ≤ q := by omega
  go_loopw [7, 35] (fun _ i w' => ∃ k : Nat, k ≤ n ∧ i = .int .i64 k ∧ RingAt 54 3 w' g q n (ints (zs.take k)) ∧ Below w.heap.size w w') (fun _ i _ => n - (intOf i).toNat)
  case atStart => exact ⟨0, Nat.zero_le _, rfl, R2.out, W2.out⟩
  case round =>
    obtain ⟨k, hk, rfl, hr, hb⟩ := hrel
    have R3 := Lib.hid hr
    have W3 := Lib.hid hb
    clear hr
    by_cases hlt : k < n
    · have hd2 : decide ((k : Int) < (n : Int)) = true := by simp; omega
      have hck : wr.cell? (ad.add k) = some (.int .i64 (zs.getD k 0)) := (hb.cell (World.block_lt_of_cell? w _ (HA.out.2 k hlt))).trans (HA.out.2 k hlt)
      have HL : Hid ((ints (zs.take k)).length < n) := by have := HN.out; show _ < _; rw [ints_length, List.length_take]; omega
      have HS := Lib.hid (ints_snoc (zs := zs) (k := k) (by have := HN.out; omega))
      generalize zs.getD k 0 = z at *
      clear hb
      go_wp2_with (first | (go_at_call 11; (with_reducible refine (push_I g q n _ _ _ R3.out HL.out).mono ?_); rintro e w3 ⟨rfl, hr3, hf3⟩; rw [HS.out] at hr3; have R4 := Lib.hid hr3; have W4 : Hid (Below w.heap.size w w3) := below_both W3.out hf3 hgw hqw W3.out.size; clear hr3 hf3))
      go_roundw
      case rel => exact ⟨k + 1, by omega, by go_num, R4.out, W4.out⟩
      case measure => simp [intOf]; omega
    · obtain rfl : k = n := by omega
      obtain ⟨p, hp⟩ : ∃ p : Nat, x % (k : Int) = p := ⟨(x % (k : Int)).toNat, by have := Int.emod_nonneg x (show (k : Int) ≠ 0 by omega); omega⟩
      have hpk : p < k := by have := Int.emod_lt_of_pos x (show (0 : Int) < (k : Int) by omega); omega
      have hd2 : decide ((k : Int) < (k : Int)) = false := by simp
      have R4 : Hid (RingAt 54 3 wr g q k (ints zs)) := by
        have := R3.out
        rw [List.take_of_length_le (by have := HN.out; omega)] at this
        exact this
      have hat := Lib.hid (ints_at (zs := zs) (k := p) (by have := HN.out; omega))
      have hck : wr.cell? (ad.add p) = some (.int .i64 (zs.getD p 0)) := (hb.cell (World.block_lt_of_cell? w _ (HA.out.2 p hpk))).trans (HA.out.2 p hpk)
      have HSH : Hid (∀ i, i < p → ∃ z, (ints zs)[i]? = some (.int .i64 z)) := fun i hi => ⟨_, ints_at (by have := HN.out; omega)⟩
      clear hb R3
      go_wp2_with fail
      simp only [hp]
      clear hp
      refine (cut_I g q k p _ (ints zs) _ _ R4.out rfl hat.out HSH.out).mono ?_
      rintro e w3 ⟨rfl, hr3, hf3⟩
      rw [ints_erase] at hr3
      have R5 := Lib.hid hr3
      have W5 : Hid (Below w.heap.size w w3) := below_both W3.out hf3 hgw hqw W3.out.size
      have HEL : Hid ((zs.eraseIdx p).length = k - 1) := by have := HN.out; show _ = _; rw [List.length_eraseIdx, if_pos (by omega)]; omega
      have HEL2 : Hid ((ints (zs.eraseIdx p)).length = k - 1) := by show _ = _; rw [ints_length]; exact HEL.out
      have hck2 : w3.cell? (ad.add p) = some (.int .i64 (zs.getD p 0)) := (W5.out.cell (World.block_lt_of_cell? w _ (HA.out.2 p hpk))).trans (HA.out.2 p hpk)
      have HEA : Hid (∀ j, j < k → j ≠ p → (zs.eraseIdx p).getD (if j ≤ p then j else j - 1) 0 = zs.getD j 0) := fun j _ hne => erase_at hne
      clear hr3 hf3 hat HSH R4
      generalize zs.eraseIdx p = es at *
      have hk1 : ((k - 1 : Nat) : Int) = (k : Int) - 1 := by omega
      have hkn : (((k - 1 : Nat) : Int) != (k : Int) - 1) = false := by rw [hk1]; simp
      go_wp2_with (first | (go_at_call 9; (with_reducible refine (lenin_I g q k (k - 1) _ _ R5.out HEL2.out).mono ?_); rintro e w' ⟨rfl, rfl⟩))
      have HAB : Hid (ad.block < w.heap.size) := by have := World.block_lt_of_cell? w _ (HA.out.2 0 (by omega)); rw [Addr.block_add] at this; exact this
      clear hck hck2 hkn hd2
      go_loopw [11, 12, 13, 76] (fun _ _ _ i w' => ∃ j : Nat, j ≤ k ∧ i = .int .i64 j ∧ RingAt 54 3 w' g q k (ints (es.drop (if j ≤ p then j else j - 1))) ∧ Below w.heap.size w w') (fun _ _ _ i _ => k - (intOf i).toNat)
      case atStart => exact ⟨0, Nat.zero_le _, rfl, by simpa using R5.out, W5.out⟩
      case round =>
        obtain ⟨j, hj, rfl, hr, hb⟩ := hrel
        have R6 := Lib.hid hr
        have W6 := Lib.hid hb
        clear hr
        by_cases hjk : j < k
        · have hd2 : decide ((j : Int) < (k : Int)) = true := by simp; omega
          by_cases hjp : j = p
          · subst hjp
            have hd3 : ((j : Int) == (j : Int)) = true := by simp
            clear hb
            go_wp2
            go_roundw
            case rel =>
              refine ⟨j + 1, by omega, by go_num, ?_, W6.out⟩
              have := R6.out
              rw [if_pos (Nat.le_refl _)] at this
              rw [if_neg (by omega), show j + 1 - 1 = j by omega]
              exact this
            case measure => simp [intOf]; omega
          · have hd3 : ((j : Int) == (p : Int)) = false := by simp; omega
            have hcj : wr.cell? (ad.add j) = some (.int .i64 (zs.getD j 0)) := (hb.cell (World.block_lt_of_cell? w _ (HA.out.2 j hjk))).trans (HA.out.2 j hjk)
            obtain ⟨t, ht⟩ : ∃ t, (if j ≤ p then j else j - 1) = t := ⟨_, rfl⟩
            have htl : t < es.length := by have := HEL.out; rw [this, ← ht]; split <;> omega
            have R7 : Hid (RingAt 54 3 wr g q k (.int .i64 (zs.getD j 0) :: ints (es.drop (t + 1)))) := by
              have := R6.out
              have e := HEA.out j hjk hjp
              rw [ht] at this e
              rw [ints_cons htl, e] at this
              exact this
            have HT : Hid ((if j + 1 ≤ p then j + 1 else j + 1 - 1) = t + 1) := by
              show _ = _
              rw [← ht]
              by_cases h : j ≤ p
              · rw [if_pos h, if_pos (by omega)]
              · rw [if_neg h, if_neg (by omega)]; omega
            clear hb ht htl R6
            generalize zs.getD j 0 = z at *
            go_wp2_with (first | (go_at_call 12; (with_reducible refine (pop_I g q k _ _ _ R7.out).mono ?_); rintro e w4 ⟨rfl, hr4, hf4⟩; have R8 := Lib.hid hr4; have W8 : Hid (Below w.heap.size w w4) := below_both W6.out hf4 hgw hqw W6.out.size; have hcj2 : w4.cell? (ad.add j) = some (.int .i64 z) := far_cell hf4 hcj (fun e => by have := HAB.out; rcases e with e | e <;> omega); clear hr4 hf4))
            go_roundw
            case rel =>
              refine ⟨j + 1, by omega, by go_num, ?_, W8.out⟩
              rw [HT.out]
              exact R8.out
            case measure => simp [intOf]; omega
        · obtain rfl : j = k := by omega
          have hd2 : decide ((j : Int) < (j : Int)) = false := by simp
          have HZ : Hid ((ints (es.drop (if j ≤ p then j else j - 1))).length = 0) := by
            have := HEL.out
            show _ = _
            rw [ints_length, List.length_drop, this, if_neg (by omega)]
            omega
          clear hb
          go_wp2_with (first | (go_at_call 9; (with_reducible refine (lenin_I g q j 0 _ _ R6.out HZ.out).mono ?_); rintro e w' ⟨rfl, rfl⟩))
          go_ret
          exact ⟨rfl, W6.out⟩
end Go.Proofs.Yteamdgkpeoeafaa
