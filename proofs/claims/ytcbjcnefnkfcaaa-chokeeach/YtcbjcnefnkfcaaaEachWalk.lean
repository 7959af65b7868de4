/- The walk of ChokeEach: of as many draws as there are things, one behind the other, each is picked once. Conditions: the program's contracts. -/
import Derived.Test.YtcbjcnefnkfcaaaProgs
namespace Go.Proofs.Ytcbjcnefnkfcaaa
open Go.RowKit

/-! Plain numbers. -/
/-- The draw that picks x, counted from m on. -/
def ord (m n x : Nat) : Nat := (x + n - m) % n
theorem ord_pick {m n k : Nat} (hm : m < n) (hk : k < n) : ord m n ((m + k) % n) = k := by
  unfold ord
  by_cases h : m + k < n
  · rw [Nat.mod_eq_of_lt h, show m + k + n - m = k + n by omega, Nat.add_mod_right, Nat.mod_eq_of_lt hk]
  · have e : (m + k) % n = m + k - n := by rw [Nat.mod_eq_sub_mod (by omega), Nat.mod_eq_of_lt (by omega)]
    rw [e, show m + k - n + n - m = k by omega, Nat.mod_eq_of_lt hk]
theorem ord_only {m n k x : Nat} (hm : m < n) (hx : x < n) (h : ord m n x = k) : x = (m + k) % n := by
  subst h
  unfold ord
  by_cases h : m ≤ x
  · rw [show x + n - m = (x - m) + n by omega, Nat.add_mod_right, Nat.mod_eq_of_lt (a := x - m) (by omega), show m + (x - m) = x by omega, Nat.mod_eq_of_lt hx]
  · rw [Nat.mod_eq_of_lt (a := x + n - m) (by omega), show m + (x + n - m) = x + n by omega, Nat.add_mod_right, Nat.mod_eq_of_lt hx]
/-- How often x was picked in k draws. -/
def cn (m n k x : Nat) : Int := if x < n ∧ ord m n x < k then 1 else 0
def cns (m n k : Nat) : List Value := (List.range 256).map fun x => .int .i64 (cn m n k x)
theorem cns_len (m n k : Nat) : (cns m n k).length = 256 := by unfold cns; rw [List.length_map, List.length_range]
theorem cns_at {m n k x : Nat} (h : x < 256) : (cns m n k)[x]? = some (.int .i64 (cn m n k x)) := by
  unfold cns
  rw [List.getElem?_map, List.getElem?_range h]
  rfl
theorem cns_zero (m n : Nat) : cns m n 0 = List.replicate 256 (.int .i64 0) := by
  apply List.ext_getElem?
  intro x
  by_cases h : x < 256
  · rw [cns_at h, List.getElem?_replicate, if_pos h]
    unfold cn
    rw [if_neg (fun h2 => absurd h2.2 (Nat.not_lt_zero _))]
  · rw [List.getElem?_eq_none (by rw [cns_len]; omega), List.getElem?_eq_none (by rw [List.length_replicate]; omega)]
theorem cn_pick {m n k : Nat} (hm : m < n) (hk : k < n) : cn m n k ((m + k) % n) = 0 := by
  unfold cn
  rw [ord_pick hm hk, if_neg (by omega)]
theorem cns_next {m n k : Nat} (hm : m < n) (hk : k < n) (hn : n ≤ 256) : (cns m n k).set ((m + k) % n) (.int .i64 1) = cns m n (k + 1) := by
  have hx : (m + k) % n < n := Nat.mod_lt _ (by omega)
  apply List.ext_getElem?
  intro x
  rw [List.getElem?_set]
  by_cases h : x < 256
  · rw [cns_at (k := k + 1) h]
    by_cases e : (m + k) % n = x
    · subst e
      rw [if_pos rfl, if_pos (by rw [cns_len]; omega)]
      unfold cn
      rw [ord_pick hm hk, if_pos ⟨hx, by omega⟩]
    · rw [if_neg e, cns_at h]
      have : cn m n k x = cn m n (k + 1) x := by
        unfold cn
        by_cases hxn : x < n
        · have : ord m n x ≠ k := fun h2 => e (ord_only hm hxn h2).symm
          by_cases h3 : ord m n x < k
          · rw [if_pos ⟨hxn, h3⟩, if_pos ⟨hxn, by omega⟩]
          · rw [if_neg (fun h4 => h3 h4.2), if_neg (fun h4 => by have := h4.2; omega)]
        · rw [if_neg (fun h4 => hxn h4.1), if_neg (fun h4 => hxn h4.1)]
      rw [this]
  · rw [List.getElem?_eq_none (l := cns m n (k + 1)) (by rw [cns_len]; omega)]
    split
    · rw [if_neg (by rw [cns_len]; omega)]
    · exact List.getElem?_eq_none (by rw [cns_len]; omega)
theorem cn_all {m n x : Nat} (hx : x < n) : cn m n n x = 1 := by
  unfold cn
  rw [if_pos ⟨hx, Nat.mod_lt _ (by omega)⟩]
set_option maxRecDepth 100000 in
theorem zero34 (w : World) : (Instr.alloc 34 true (.tuple #[])).run Try.prog w = .ok (.pointer (some ⟨w.heap.size, 0, none⟩)) (w.alloc (.cells (List.replicate 256 (.int .i64 0)).toArray 34)) := by kernel_rfl
theorem wpList_new34 {ops : Array Oper} {rest : List Oper} {o : Oper} {a : Act} {w : World} {Q : Exit → Act → World → Prop} (hgd : o.guard = none) (ho : o.op = .alloc 34)
    (h : ∀ w', Hid (Blk w' w.heap.size 34 (List.replicate 256 (.int .i64 0))) → Hid (Below w.heap.size w w') → wpList Try.prog ops Q rest (a.put o.dst (.pointer (some ⟨w.heap.size, 0, none⟩))) w') : wpList Try.prog ops Q (o :: rest) a w := by
  have e := zero34 w
  generalize List.replicate 256 (Value.int .i64 0) = z at e h
  refine wpList_plain hgd fun K hK => ?_
  unfold Oper.wp
  simp only [execOp, ho]
  simp [e, Oper.upon]
  exact hK _ _ (h _ (Blk.new w 34 _) ((Below.refl _ w).alloc (Nat.le_refl _) _))
set_option maxRecDepth 100000 in
set_option maxHeartbeats 4000000 in
theorem each_zero (P : ProgC) (d : Int) (w : World) : Calls Try.prog 5 #[.int .u64 d, .int .u8 0] w (Ans (.bool true) w) := by
  have HA := Lib.hid (fun W => awake_ P W)
  clear P
  go_enter Try.func5, Try.ntmps5
  go_wp2_with (first
    | (go_at_call 6; (with_reducible refine (HA.out w).mono ?_); rintro e w1 ⟨rfl, hb⟩; have W1 := Lib.hid hb; clear hb)
    | (go_at_call 6; (with_reducible refine (HA.out w1).mono ?_); rintro e w2 ⟨rfl, hb⟩; have W2 : Hid (Below w.heap.size w w2) := W1.out.trans (hb.mono W1.out.size); clear hb))
  go_ret
  exact ⟨rfl, W2.out⟩
set_option maxRecDepth 100000 in
set_option maxHeartbeats 4000000 in
theorem each_some (P : ProgC) (d : Int) (n : Nat) (w : World) (hd : u64 d) (h1 : 1 ≤ n) (h2 : n ≤ 255) : Calls Try.prog 5 #[.int .u64 d, .int .u8 (n : Int)] w (Ans (.bool true) w) := by
  have HA := Lib.hid (fun W => awake_ P W)
  have HP := Lib.hid P
  obtain ⟨D, hD⟩ : ∃ D : Nat, Int.tmod d 1152921504606846976 = (D : Int) := ⟨(Int.tmod d 1152921504606846976).toNat, by
    have := Int.tmod_nonneg 1152921504606846976 hd.1
    omega⟩
  have hDl : D < 1152921504606846976 := by
    have := Int.tmod_lt_of_pos d (show (0 : Int) < 1152921504606846976 by omega)
    omega
  have hn0 : ¬ (n : Int) = 0 := by omega
  have hnb : ((n : Int) == 0) = false := by simp; omega
  clear P hd
  go_enter Try.func5, Try.ntmps5
  go_upto_region 3 with (go_at_call 6; (with_reducible refine (HA.out w).mono ?_); rintro e w1 ⟨rfl, hb⟩; have W1 := Lib.hid hb; clear hb)
  go_upto_region 4 with (refine wpList_new34 rfl rfl ?_; intro w2 B2 W2)
  rw [← cns_zero (D % n) n] at B2
  have W2' : Hid (Below w.heap.size w w2) := W1.out.trans (W2.out.mono W1.out.size)
  have HG : Hid (w.heap.size ≤ w1.heap.size) := W1.out.size
  have hm : D % n < n := Nat.mod_lt _ (by omega)
  have hwn : IntKind.i64.wrap (n : Int) = (n : Int) := by rw [IntKind.wrap_i64]; omega
  clear HA W1 W2
  generalize w1.heap.size = g at *
  go_wp2_with fail
  go_loopw [6, 7, 8, 19] (fun _ _ _ i w' => ∃ k : Nat, k ≤ n ∧ i = .int .i64 k ∧ Blk w' g 34 (cns (D % n) n k) ∧ Below w.heap.size w w') (fun _ _ _ i _ => n - (intOf i).toNat)
  case atStart => exact ⟨0, by omega, rfl, B2.out, W2'.out⟩
  case round =>
    clear B2 W2'
    obtain ⟨k, hk, rfl, hb, hbe⟩ := hrel
    have BR := Lib.hid hb
    have WR := Lib.hid hbe
    clear hb hbe
    by_cases hlt : k < n
    · have hxn : (D % n + k) % n < n := Nat.mod_lt _ (by omega)
      have hpk := HP.out.pick ((D : Int) + (k : Int)) (n : Int) wr ⟨by omega, by omega⟩ (by omega) (by omega)
      have he : ((D : Int) + (k : Int)) % (n : Int) = (((D % n + k) % n : Nat) : Int) := by
        rw [Nat.mod_add_mod]
        simp
      rw [he] at hpk
      have HPK := Lib.hid hpk
      have c0 : (cns (D % n) n k)[(D % n + k) % n]? = some (.int .i64 0) := by rw [cns_at (by omega), cn_pick hm hlt]
      have hnx := cns_next hm hlt (show n ≤ 256 by omega)
      obtain ⟨x, hx⟩ : ∃ x, (D % n + k) % n = x := ⟨_, rfl⟩
      rw [hx] at hxn HPK c0 hnx
      have HC0 := Lib.hid c0
      have HNX := Lib.hid hnx
      have hwk : IntKind.u64.wrap (k : Int) = (k : Int) := by rw [IntKind.wrap_u64]; omega
      have hws : IntKind.u64.wrap ((D : Int) + (k : Int)) = (D : Int) + (k : Int) := by rw [IntKind.wrap_u64]; omega
      have hx0 : ¬ (x : Int) < 0 := by omega
      have hx1 : ¬ (n : Int) ≤ (x : Int) := by omega
      clear hpk he c0 hnx hx
      go_upto_region 8 with (go_at_call 7; (with_reducible refine HPK.out.mono ?_); rintro e w3 ⟨rfl, hb⟩; have B3 := Lib.hid (BR.out.below hb); have W3 : Hid (Below w.heap.size w w3) := WR.out.trans (hb.mono WR.out.size); clear hb)
      have c1 : w3.cell? ⟨g, x, none⟩ = some (.int .i64 0) := by rw [B3.out.cell]; exact HC0.out
      have f1 := B3.out.frozen x
      have hx2 : x < 256 := by omega
      have FIN : Hid (Blk (w3.setCell ⟨g, x, none⟩ (.int .i64 1)) g 34 (cns (D % n) n (k + 1)) ∧ Below w.heap.size w (w3.setCell ⟨g, x, none⟩ (.int .i64 1))) := by
        refine ⟨?_, below_only W3.out ((Far.refl (only g) w3).set_ (p := ⟨g, x, none⟩) (fun _ => rfl) _) HG.out W3.out.size⟩
        have := B3.out.set_ x (.int .i64 1)
        rwa [HNX.out] at this
      clear HPK BR WR B3 W3 HC0 HNX hwk hws
      go_wp2_with fail
      go_roundw
      case rel => exact ⟨k + 1, by omega, by go_num, FIN.out.1, FIN.out.2⟩
      case measure => simp [intOf]; omega
    · have hkn : k = n := by omega
      subst hkn
      clear hlt hk
      go_wp2_with fail
      go_loopw [9, 53] (fun _ i w' => ∃ j : Nat, j ≤ k ∧ i = .int .i64 j ∧ Blk w' g 34 (cns (D % k) k k) ∧ Below w.heap.size w w') (fun _ i _ => k - (intOf i).toNat)
      case atStart => exact ⟨0, by omega, rfl, BR.out, WR.out⟩
      case round =>
        clear BR WR
        obtain ⟨j, hj, rfl, hb, hbe⟩ := hrel
        have BR := Lib.hid hb
        have WR := Lib.hid hbe
        clear hb hbe
        by_cases hlt : j < k
        · have c0 := BR.out.cell j
          rw [cns_at (by omega), cn_all hlt] at c0
          have hj2 : j < 256 := by omega
          go_wp2_with fail
          go_roundw
          case rel => exact ⟨j + 1, by omega, by go_num, BR.out, WR.out⟩
          case measure => simp [intOf]; omega
        · have hjk : j = k := by omega
          subst hjk
          go_wp2
          go_ret
          exact ⟨rfl, WR.out⟩
end Go.Proofs.Ytcbjcnefnkfcaaa
