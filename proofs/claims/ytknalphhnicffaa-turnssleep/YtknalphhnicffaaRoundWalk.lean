/- The walk of the law TurnsRound over the program's contracts. -/
import Derived.Test.YtknalphhnicffaaRowed
namespace Go.Proofs.Ytknalphhnicffaa
open Go.RowKit

/-- Those that are awake, from the j-th on; u: the first one is no longer fresh. -/
def lis (n j : Nat) (u : Bool) : List Cls := (List.range n).map fun i => ⟨n - 1 - (j + i) % n, !(u && decide (i = 0)), 0⟩
def restOf (n j : Nat) : List Cls := (List.range (n - 1)).map fun i => ⟨n - 1 - (j + 1 + i) % n, true, 0⟩
theorem lis_cons {n : Nat} (j : Nat) (u : Bool) (h : 1 ≤ n) : lis n j u = ⟨n - 1 - j % n, !u, 0⟩ :: restOf n j := by
  obtain ⟨p, rfl⟩ : ∃ p, n = p + 1 := ⟨n - 1, by omega⟩
  unfold lis restOf
  rw [List.range_succ_eq_map, List.map_cons, List.map_map]
  congr 1
  · simp
  · simp only [Nat.add_sub_cancel]
    apply List.map_congr_left
    intro i _
    simp [Function.comp, Nat.add_assoc, Nat.add_comm 1 i]
theorem lis_next {n : Nat} (j : Nat) (h : 1 ≤ n) : restOf n j ++ [⟨n - 1 - j % n, true, 0⟩] = lis n (j + 1) false := by
  obtain ⟨p, rfl⟩ : ∃ p, n = p + 1 := ⟨n - 1, by omega⟩
  unfold lis restOf
  rw [Nat.add_sub_cancel, List.range_succ, List.map_append]
  congr 1
  have : (j + 1 + p) % (p + 1) = j % (p + 1) := by rw [Nat.add_assoc, Nat.add_comm 1 p, Nat.add_mod_right]
  simp [this]
theorem lis_length (n j : Nat) (u : Bool) : (lis n j u).length = n := by simp [lis]
theorem lis_def (n j : Nat) (u : Bool) (c : Int) : defOf (lis n j u) c = 0 := by
  have : ∀ (M : List Cls), (∀ x ∈ M, x.d = 0) → defOf M c = 0 := by
    intro M
    induction M with
    | nil => intro _; rfl
    | cons x xs ih =>
      intro h
      unfold defOf
      split
      · exact h x (by simp)
      · exact ih (fun y hy => h y (by simp [hy]))
  apply this
  intro x hx
  obtain ⟨i, _, rfl⟩ := List.mem_map.1 hx
  rfl
/-- After k picks. -/
def stOf (n : Nat) : Nat → List Cls
  | 0 => lis n 0 false
  | k + 1 => lis n k true
theorem round_fresh {n l j : Nat} {hd : Nat → Int} (h : 1 ≤ n) (hl : 1 ≤ l) (hl2 : l ≤ 9216) (hh : ∀ c, c < n → hd c = l) : Picks l hd (lis n j false) (lis n j true) (some (n - 1 - j % n)) := by
  have hj : n - 1 - j % n < n := by omega
  have hx := hh _ hj
  have hlen : len (hd (n - 1 - j % n)) = l := by rw [hx]; unfold len; omega
  have := Picks.takes (Q := l) (hd := hd) (x := ⟨n - 1 - j % n, true, 0⟩) (xs := restOf n j) (by show 1 ≤ hd (n - 1 - j % n); rw [hx]; omega) (by show len (hd (n - 1 - j % n)) ≤ _; rw [hlen]; simp [due])
  rw [lis_cons j false h, lis_cons j true h]
  have e : due l ⟨n - 1 - j % n, true, 0⟩ - len (hd (n - 1 - j % n)) = 0 := by rw [hlen]; simp [due]
  rw [e] at this
  exact this
theorem round_pick {n l : Nat} {hd : Nat → Int} (h : 1 ≤ n) (hl : 1 ≤ l) (hl2 : l ≤ 9216) (hh : ∀ c, c < n → hd c = l) (k : Nat) : Picks l hd (stOf n k) (stOf n (k + 1)) (some (n - 1 - k % n)) := by
  rcases k with _ | k
  · exact round_fresh h hl hl2 hh
  · have hj : n - 1 - k % n < n := by omega
    have hx := hh _ hj
    have hlen : len (hd (n - 1 - k % n)) = l := by rw [hx]; unfold len; omega
    show Picks l hd (lis n k true) (lis n (k + 1) true) _
    rw [lis_cons k true h]
    refine Picks.waits (by show 1 ≤ hd (n - 1 - k % n); rw [hx]; omega) (by show _ < len (hd (n - 1 - k % n)); rw [hlen]; simp [due]; omega) ?_
    have e : due l ⟨n - 1 - k % n, !true, 0⟩ = 0 := by simp [due]
    rw [e]
    rw [lis_next k h]
    exact round_fresh h hl hl2 hh
/-- c of them have woken. -/
def woken (n c : Nat) : List Cls := (List.range c).map fun i => ⟨n - 1 - i, true, 0⟩
theorem woken_all {n : Nat} : woken n n = stOf n 0 := by
  show woken n n = lis n 0 false
  unfold woken lis
  apply List.map_congr_left
  intro i hi
  have := List.mem_range.1 hi
  simp [Nat.mod_eq_of_lt this]
theorem woken_wake {n c : Nat} (h : c < n) : wakeOf n (woken n c) ((n - 1 - c : Nat) : Int) = woken n (c + 1) := by
  have hc : canWake n (woken n c) ((n - 1 - c : Nat) : Int) = true := by
    have h1 : isIn (woken n c) ((n - 1 - c : Nat) : Int) = false := by
      rw [isIn_not]
      intro x hx
      obtain ⟨i, hi, rfl⟩ := List.mem_map.1 hx
      have := List.mem_range.1 hi
      show ((n - 1 - i : Nat) : Int) ≠ _
      omega
    simp only [canWake, h1]
    simp
    omega
  unfold wakeOf
  rw [if_pos hc]
  simp [woken, List.range_succ]
theorem hd_all {n l c : Nat} (h : c < n) : hdOf (List.replicate n (l : Int)) c = l := by simp [hdOf, List.getD_eq_getElem?_getD, h]

theorem told_some (k : Nat) : told (some k) = (k : Nat) := rfl
theorem st_length (n k : Nat) : (stOf n k).length = n := by cases k <;> exact lis_length _ _ _
theorem st_def (n k : Nat) (c : Int) : defOf (stOf n k) c = 0 := by cases k <;> exact lis_def _ _ _ _
/-- Where the loops stand. -/
def RoundRel (At : (Nat → Prop) → World → Nat → Nat → Nat → List Cls → Prop) (w : World) (g n l : Nat) (L : List Cls) (v : Value) (m : Nat) (w' : World) : Prop :=
  Ro At (from_ w.heap.size) w.heap.size g n l L v m (List.replicate m (l : Int)) w' ∧ Below w.heap.size w w'
section
variable {At : (Nat → Prop) → World → Nat → Nat → Nat → List Cls → Prop}
theorem apart_id {B : Nat} {r : Option Nat} : ∀ k, apart (from_ B) r k → B ≤ k := fun _ h => h.1
set_option maxRecDepth 100000 in
set_option maxHeartbeats 4000000 in
theorem round_any (P : Prog At) (x y z : Int) (w : World) (hx0 : 0 ≤ x) (hx1 : x ≤ 255) (hy0 : 0 ≤ y) (hy1 : y ≤ 255) (hz0 : 0 ≤ z) (hz1 : z ≤ 65535) :
    Calls Try.prog 6 #[.int .u8 x, .int .u8 y, .int .u16 z] w fun e w' => e = .returned (.bool true) ∧ Below w.heap.size w w' := by
  have HP := Lib.hid P
  clear P
  obtain ⟨n, hn⟩ : ∃ n : Nat, 1 + x % 100 = n := ⟨(1 + x % 100).toNat, by omega⟩
  obtain ⟨l, hl⟩ : ∃ l : Nat, 1 + z % 9216 = l := ⟨(1 + z % 9216).toNat, by omega⟩
  obtain ⟨many, rfl⟩ : ∃ m : Nat, y = m := ⟨y.toNat, by omega⟩
  have hn1 : 1 ≤ n := by omega
  have hn2 : n ≤ 100 := by omega
  have hl1 : 1 ≤ l := by omega
  have hl2 : l ≤ 9216 := by omega
  have hmany : many ≤ 255 := by omega
  go_enter Try.func6, Try.ntmps6
  go_wp2_with (first | (go_at_call 8; (with_reducible refine (awake_any HP.out _).mono ?_); rintro e w1 ⟨rfl, hb1⟩; have W1 := Lib.hid hb1; clear hb1) | (go_at_call 10; (with_reducible refine (HP.out.new n l _ _ _ (by omega) (by omega) (by omega) (by omega) (by omega) (by omega)).mono ?_); rintro e w2 ⟨g, rfl, hr, hb⟩; have W2 : Hid (Below w.heap.size w w2) := W1.out.trans (hb.mono W1.out.size); have R2 : Hid (At (from_ w.heap.size) w2 g n l []) := HP.out.weak hr (fun k hk h => Nat.le_trans W1.out.size h); clear hr hb))
  have R0 : Hid (RoundRel At w g n l (woken n 0) (.slice none 0 0) 0 w2) := ⟨Ro.new HP.out R2.out (from_le W2.out) W2.out.size, W2.out⟩
  clear W1 W2 R2
  go_loopw [11, 12, 33] (fun hsl _ i w' => ∃ (c : Nat) (Z : Option Addr) (cap : Nat), c ≤ n ∧ i = .int .i64 c ∧ hsl = .slice Z c cap ∧ RoundRel At w g n l (woken n c) (.slice Z c cap) c w') (fun _ _ i _ => n - (intOf i).toNat)
  case atStart => exact ⟨0, none, 0, by omega, rfl, rfl, R0.out⟩
  case round =>
    clear R0
    obtain ⟨c, Z, cap, hc, rfl, rfl, hr⟩ := hrel
    have R3 := Lib.hid hr.1
    have W3 := Lib.hid hr.2
    clear hr
    by_cases hlt : c < n
    · have hd5 : decide ((c : Int) < (n : Int)) = true := by simp; omega
      have hd6 : decide (c < n) = true := by simpa using hlt
      have HWK : Hid (wakeOf n (woken n c) ((n : Int) - 1 - (c : Int)) = woken n (c + 1)) := by
        have := woken_wake hlt
        rw [show ((n - 1 - c : Nat) : Int) = (n : Int) - 1 - (c : Int) by omega] at this
        exact this
      have HREP : Hid (List.replicate c (l : Int) ++ [(l : Int)] = List.replicate (c + 1) (l : Int)) := by show _ = _; rw [← List.replicate_succ']
      go_wp2_with (first | (go_at_call 11; (with_reducible refine (HP.out.wake _ g n l _ _ _ R3.out.at_ R3.out.room).mono ?_); rintro e w4 ⟨rfl, hr, hf⟩; rw [HWK.out] at hr; have W4 : Hid (Below w.heap.size w w4) := below_far W3.out hf apart_id W3.out.size; have R5 := Lib.hid ((R3.out.turn hr hf).below HP.out (below_one w4 (.cells #[.int .i64 (l : Nat)] 3))); have W5 : Hid (Below w.heap.size w (w4.alloc (.cells #[.int .i64 (l : Nat)] 3))) := W4.out.alloc W4.out.size _; have V5 : Hid (Vals (w4.alloc (.cells #[.int .i64 (l : Nat)] 3)) (some ⟨w4.heap.size, 0, none⟩) 1 (ints [(l : Int)])) := Vals.of_blk (Blk.new w4 3 (ints [(l : Int)])) rfl; clear hr hf) | (at_builtin; refine wpList_appI rfl (.tmp 42) (.tmp 44) rfl w.heap.size (.slice Z c cap) c (List.replicate c (l : Int)) rfl (by exact R5.out.row) (some ⟨w4.heap.size, 0, none⟩) 1 1 [(l : Int)] rfl (by exact V5.out) (c + 1) rfl (List.replicate (c + 1) (l : Int)) (by exact HREP.out) (by omega) (by exact R5.out.le) ?_; intro Z6 cap6 w6 O6 G6 E6; have R6 : Hid (RoundRel At w g n l (woken n (c + 1)) (.slice Z6 (c + 1) cap6) (c + 1) w6) := ⟨R5.out.grown HP.out O6.out G6.out E6.out, W5.out.grown G6.out W5.out.size (fun j e => (R5.out.row.lt j e).1)⟩; clear O6 G6 E6))
      go_roundw
      case rel => exact ⟨c + 1, Z6, cap6, by omega, by go_num, rfl, R6.out⟩
      case measure => simp [intOf]; omega
    · obtain rfl : c = n := by omega
      have hd5 : decide ((c : Int) < (c : Int)) = false := by simp
      have R4 : Hid (RoundRel At w g c l (stOf c 0) (.slice Z c cap) c wr) := by
        have h1 := R3.out
        rw [woken_all] at h1
        exact ⟨h1, W3.out⟩
      clear R3 W3
      go_wp2_with fail
      go_loopw [13, 14, 15, 49] (fun _ _ _ i w' => ∃ k : Nat, k ≤ many ∧ i = .int .i64 k ∧ RoundRel At w g c l (stOf c k) (.slice Z c cap) c w') (fun _ _ _ i _ => many - (intOf i).toNat)
      case atStart => exact ⟨0, by omega, rfl, R4.out⟩
      case round =>
        clear R4
        obtain ⟨k, hk, rfl, hr⟩ := hrel
        have R5 := Lib.hid hr.1
        have W5 := Lib.hid hr.2
        clear hr
        by_cases hlk : k < many
        · have hd6 : decide ((k : Int) < (many : Int)) = true := by simp; omega
          have hd7 : decide (k < many) = true := by simpa using hlk
          have HPK : Hid (Picks l (hdOf (List.replicate c (l : Int))) (stOf c k) (stOf c (k + 1)) (some (c - 1 - k % c))) := round_pick hn1 hl1 hl2 (fun j hj => hd_all hj) k
          have HDF : Hid (∀ j, defOf (stOf c (k + 1)) j = 0) := st_def c (k + 1)
          obtain ⟨m, hm⟩ : ∃ m, k % c = m := ⟨_, rfl⟩
          have hmc : m < c := by rw [← hm]; exact Nat.mod_lt _ (by omega)
          have hmi : (k : Int) % (c : Int) = (m : Int) := by rw [← hm]; simp
          rw [hm] at HPK
          obtain ⟨d, hd⟩ : ∃ d, c - 1 - m = d := ⟨_, rfl⟩
          have hdi : (c : Int) - 1 - (m : Int) = (d : Int) := by omega
          rw [hd] at HPK
          clear hm hd
          go_wp2_with (first | (go_at_call 16; (with_reducible refine (HP.out.pick _ g c l Z c cap (List.replicate c (l : Int)) (stOf c k) (stOf c (k + 1)) (some d) _ R5.out.at_ R5.out.room R5.out.len R5.out.vals R5.out.notrow HPK.out).mono ?_); rintro e w6 ⟨rfl, hr, hf⟩; rw [told_some]; have R6 := Lib.hid (R5.out.turn hr hf); have W6 : Hid (Below w.heap.size w w6) := below_far W5.out hf apart_id W5.out.size; clear hr hf) | (go_at_call 20; (with_reducible refine (HP.out.deficit _ g c l _ _ _ R6.out.at_).mono ?_); rintro e w7 ⟨rfl, hb⟩; rw [HDF.out]; have R7 : Hid (RoundRel At w g c l (stOf c (k + 1)) (.slice Z c cap) c w7) := ⟨R6.out.below HP.out hb, W6.out.trans (hb.mono W6.out.size)⟩; clear hb))
          go_roundw
          case rel => exact ⟨k + 1, by omega, by go_num, R7.out⟩
          case measure => simp [intOf]; omega
        · obtain rfl : k = many := by omega
          have hd6 : decide ((k : Int) < (k : Int)) = false := by simp
          have HSL := Lib.hid (st_length c k)
          go_wp2_with (go_at_call 12; (with_reducible refine (HP.out.awake _ g c l _ _ R5.out.at_).mono ?_); rintro e w9 ⟨⟨A9, c9, rfl, hv, _⟩, hb⟩; rw [HSL.out]; have W9 : Hid (Below w.heap.size w w9) := W5.out.trans (hb.mono W5.out.size); clear hv hb)
          go_ret
          exact ⟨rfl, W9.out⟩
end
end Go.Proofs.Ytknalphhnicffaa
