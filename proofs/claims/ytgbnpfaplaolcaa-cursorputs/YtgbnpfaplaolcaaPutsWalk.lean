/- The walk of the law CursorPuts: for any numbers and any kinds it returns true and turns nothing that was there. -/
import Derived.Test.YtgbnpfaplaolcaaPutsNums
import Derived.Test.YtgbnpfaplaolcaaTakesWalk
import Derived.Deep.RegionHeld3
namespace Go.Proofs.Ytgbnpfaplaolcaa
open Go.RowKit

set_option maxRecDepth 100000 in
set_option maxHeartbeats 1000000 in
theorem puts_far (A K : Option Addr) (n c nk ck : Nat) (w : World) (hn : n ≤ 9223372036854775807) (h : 100 < n ∨ nk < n) :
    Calls Try.prog 3 #[.slice A n c, .slice K nk ck] w fun e w' => e = .returned (.bool true) ∧ Below w.heap.size w w' := by
  by_cases h1 : 100 < n
  · have hd : decide ((100 : Int) < (n : Int)) = true := by simp; omega
    clear h
    go_enter Try.func3, Try.ntmps3
    go_wp2_with fail
    refine (awake_any _).mono ?_
    rintro e w1 ⟨rfl, hb⟩
    have HB := Lib.hid hb
    clear hb
    go_wp2_with fail
    refine (awake_any _).mono ?_
    rintro e w2 ⟨rfl, hb⟩
    have HC := Lib.hid hb
    clear hb
    go_wp2
    go_ret
    exact ⟨rfl, HB.out.trans (HC.out.mono HB.out.size)⟩
  · have hd : decide ((100 : Int) < (n : Int)) = false := by simp; omega
    have hd2 : decide (nk < n) = true := by simp; omega
    clear h
    go_enter Try.func3, Try.ntmps3
    go_wp2_with fail
    refine (awake_any _).mono ?_
    rintro e w1 ⟨rfl, hb⟩
    have HB := Lib.hid hb
    clear hb
    go_wp2_with fail
    refine (awake_any _).mono ?_
    rintro e w2 ⟨rfl, hb⟩
    have HC := Lib.hid hb
    clear hb
    go_wp2
    go_ret
    exact ⟨rfl, HB.out.trans (HC.out.mono HB.out.size)⟩

theorem refNumber_is (x m : Nat) (z : Int) (w : World) (hz : z = m) (hm : m ≤ 8) : Calls Try.prog 10 #[.int .u64 x, .int .i64 z] w (NumPost w x m) := by
  subst hz
  exact refNumber_any x m w hm

/-- The numbers that came in: each cell a number X, each kind Y. -/
def PutsArgs (w : World) (A K : Option Addr) (n : Nat) (X Y : Nat → Nat) : Prop :=
  ∀ k, k < n → ∃ al ak : Addr, A = some al ∧ K = some ak ∧ w.cell? (al.add k) = some (.int .u64 (X k)) ∧ w.cell? (ak.add k) = some (.int .u8 (Y k)) ∧ X k < 18446744073709551616 ∧ Y k ≤ 255

/-- What the arguments hold is read in every world that has only grown. -/
theorem keep_of_below {wr W : World} {p q : Addr} {u v : Value} (hp : wr.cell? p = some u) (hq : wr.cell? q = some v) (hb : Below wr.heap.size wr W) : W.cell? p = some u ∧ W.cell? q = some v ∧ Below wr.heap.size wr W :=
  ⟨(hb.cell (World.block_lt_of_cell? wr _ hp)).trans hp, (hb.cell (World.block_lt_of_cell? wr _ hq)).trans hq, hb⟩

theorem below_via {wr W W' : World} {p q : Addr} {u v : Value} (hb : Below W.heap.size W W') (h : W.cell? p = some u ∧ W.cell? q = some v ∧ Below wr.heap.size wr W) : Below wr.heap.size wr W' := h.2.2.trans (hb.mono h.2.2.size)

theorem below_fin {wr W : World} {p q : Addr} {u v : Value} (h : W.cell? p = some u ∧ W.cell? q = some v ∧ Below wr.heap.size wr W) : Below wr.heap.size wr W := h.2.2

/-- Where the second loop stands: the numbers from k on, and all of them once more, are left. -/
def Puts2Rel (w : World) (g q : Nat) (l : List Int) (v : Value) (n : Nat) (W : List Int) (w' : World) : Prop :=
  InAt w' g q false l ∧ w'.ownsRow w.heap.size 5 1 v n (cel W) ∧ Below w.heap.size w w'

set_option maxRecDepth 100000 in
set_option maxHeartbeats 4000000 in
theorem puts_near (A K : Option Addr) (n c nk ck : Nat) (X Y M : Nat → Nat) (w : World) (h : n ≤ 100) (hk : n ≤ nk) (hm : nk ≤ 9223372036854775807) (ha : PutsArgs w A K n X Y) (hM : ∀ k, M k = manyF (Y k)) :
    Calls Try.prog 3 #[.slice A n c, .slice K nk ck] w fun e w' => e = .returned (.bool true) ∧ Below w.heap.size w w' := by
  have HA := Lib.hid ha
  have HM := Lib.hid hM
  have hM8 : ∀ k, M k ≤ 8 := fun k => by have := hM k; have := manyF_cases (Y k); omega
  have HW : Hid (∀ k, (putW X M k).length ≤ 8 * k) := putW_len hM8
  clear ha hM hM8
  have hd : decide ((100 : Int) < (n : Int)) = false := by simp; omega
  have hd2 : decide (nk < n) = false := by simp; omega
  go_enter Try.func3, Try.ntmps3
  go_wp2_with (first | (go_at_call 8; (with_reducible refine (awake_any _).mono ?_); rintro e w1 ⟨rfl, hb1⟩; have W1 := Lib.hid hb1; clear hb1))
  have hsz1 := W1.out.size
  go_loopw [6, 7, 8, 31] (fun v _ _ i w' => ∃ k : Nat, k ≤ n ∧ i = .int .i64 k ∧ PutsRel w w1.heap.size (putW X M k) v w') (fun _ _ _ i _ => n - (intOf i).toNat)
  case atStart => exact ⟨0, Nat.zero_le _, rfl, none, none, 0, 0, rfl, OutAt.new w1 _, World.ownsRow_nil _ _ _ _, (fun q e => by cases e), W1.out.alloc W1.out.size _⟩
  case round =>
    obtain ⟨k, hk1, rfl, r, A1, n1, c1, rfl, ho, hown, hne, hbw⟩ := hrel
    have HO := Lib.hid ho
    have HR := Lib.hid hown
    have HN := Lib.hid hne
    have HV := Lib.hid hbw
    clear ho hown hne hbw
    by_cases hlt : k < n
    · obtain ⟨al, ak, rfl, rfl, hcl, hck, hx, hy⟩ := HA.out k hlt
      have hwk := HW.out k
      have HX := Lib.hid hx
      clear hx
      obtain ⟨m, hmk⟩ : ∃ m, M k = m := ⟨_, rfl⟩
      have HMK : Hid (manyF (Y k) = m) := (HM.out k).symm.trans hmk
      have HWS : Hid (putW X M (k + 1) = putW X M k ++ numB (X k) m) := by show _ = _; rw [putW_succ, hmk]
      have hn1 : (putW X M k).length = n1 := by have := HR.out.1; rw [cel_length] at this; omega
      have hn1' : n1 ≤ 800 := by omega
      have hl2 : (putW X M k).length ≤ 800 := by omega
      have hm4 := manyF_cases (Y k)
      rw [HMK.out] at hm4
      clear hmk hn1 hwk
      generalize X k = x at *
      generalize Y k = y at *
      generalize putW X M k = W at *
      have hcl1 : wr.cell? (al.add k) = some (.int .u64 x) := (HV.out.cell (World.block_lt_of_cell? w _ hcl)).trans hcl
      have hck1 : wr.cell? (ak.add k) = some (.int .u8 y) := (HV.out.cell (World.block_lt_of_cell? w _ hck)).trans hck
      have hszr := HV.out.size
      rcases hm4 with rfl | rfl | rfl | rfl
      · go_wp2_with (first | (go_at_call 9; (with_reducible refine (many_is y 1 _ hy HMK.out).mono ?_); rintro e w' ⟨rfl, rfl⟩) | (go_at_call 10; (with_reducible refine (refNumber_is x 1 1 _ rfl (by omega)).mono ?_); rintro e w3 ⟨An, cn, rfl, hnu, hb3⟩; have HNU := Lib.hid hnu; have W3 : Hid (Below w.heap.size w w3) := HV.out.trans (hb3.mono hszr); have O3 := Lib.hid (HO.out.far (Far.of_below hb3 nobody) (fun e => e) (fun _ _ e => e)); have R3 := Lib.hid ((Far.of_below hb3 nobody).row HR.out (fun _ _ e => e)); clear hnu hb3) | (at_builtin; refine wpList_app_to rfl (.tmp 39) (.tmp 45) rfl w.heap.size (.slice A1 n1 c1) n1 W rfl (by exact R3.out) An 1 cn (numB x 1) rfl (by exact Byts.of_own HNU.out) (n1 + 1) rfl (W ++ numB x 1) rfl (by omega) (by exact W3.out.size) ?_; intro A4 c4 w4 H1 H2 H3; have W4 : Hid (Below w.heap.size w w4) := W3.out.grown H2.out W3.out.size (fun k e => (R3.out.lt k e).1); have hs4 := W4.out.size; have O4 : Hid (OutAt w4 w.heap.size w1.heap.size r W) := puts_out O3.out H2.out (by obtain ⟨_, _, hb, _⟩ := O3.out; exact hb.row_apart R3.out (by decide)) HN.out; have hcl4 : w4.cell? (al.add k) = some (.int .u64 x) := (W4.out.cell (World.block_lt_of_cell? w _ hcl)).trans hcl) | (go_at_call 11; (with_reducible refine (outU8_any w.heap.size w1.heap.size r W _ _ O4.out (by omega) hs4).mono ?_); rintro e w5 ⟨rfl, r5, ho5, hf5, hr5⟩; rw [numB_low1] at ho5; have HO5 := Lib.hid ho5; have HF5 := Lib.hid hf5; have HR5 := Lib.hid hr5; clear ho5 hf5 hr5))
        go_roundw
        case rel =>
          refine ⟨k + 1, by omega, by go_num, ?_⟩
          rw [HWS.out]
          exact puts_step hsz1 O3.out R3.out H1.out H2.out H3.out HN.out W3.out HO5.out HF5.out HR5.out
        case measure => simp [intOf]; omega
      · go_wp2_with (first | (go_at_call 9; (with_reducible refine (many_is y 2 _ hy HMK.out).mono ?_); rintro e w' ⟨rfl, rfl⟩) | (go_at_call 10; (with_reducible refine (refNumber_is x 2 2 _ rfl (by omega)).mono ?_); rintro e w3 ⟨An, cn, rfl, hnu, hb3⟩; have HNU := Lib.hid hnu; have W3 : Hid (Below w.heap.size w w3) := HV.out.trans (hb3.mono hszr); have O3 := Lib.hid (HO.out.far (Far.of_below hb3 nobody) (fun e => e) (fun _ _ e => e)); have R3 := Lib.hid ((Far.of_below hb3 nobody).row HR.out (fun _ _ e => e)); clear hnu hb3) | (at_builtin; refine wpList_app_to rfl (.tmp 39) (.tmp 45) rfl w.heap.size (.slice A1 n1 c1) n1 W rfl (by exact R3.out) An 2 cn (numB x 2) rfl (by exact Byts.of_own HNU.out) (n1 + 2) rfl (W ++ numB x 2) rfl (by omega) (by exact W3.out.size) ?_; intro A4 c4 w4 H1 H2 H3; have W4 : Hid (Below w.heap.size w w4) := W3.out.grown H2.out W3.out.size (fun k e => (R3.out.lt k e).1); have hs4 := W4.out.size; have O4 : Hid (OutAt w4 w.heap.size w1.heap.size r W) := puts_out O3.out H2.out (by obtain ⟨_, _, hb, _⟩ := O3.out; exact hb.row_apart R3.out (by decide)) HN.out; have hcl4 : w4.cell? (al.add k) = some (.int .u64 x) := (W4.out.cell (World.block_lt_of_cell? w _ hcl)).trans hcl) | (go_at_call 12; rw [IntKind.wrap_u16]; (with_reducible refine (outU16_any w.heap.size w1.heap.size r W _ _ O4.out (by omega) hs4 (by omega) (by omega)).mono ?_); rintro e w5 ⟨rfl, r5, ho5, hf5, hr5⟩; rw [numB_low2] at ho5; have HO5 := Lib.hid ho5; have HF5 := Lib.hid hf5; have HR5 := Lib.hid hr5; clear ho5 hf5 hr5))
        go_roundw
        case rel =>
          refine ⟨k + 1, by omega, by go_num, ?_⟩
          rw [HWS.out]
          exact puts_step hsz1 O3.out R3.out H1.out H2.out H3.out HN.out W3.out HO5.out HF5.out HR5.out
        case measure => simp [intOf]; omega
      · go_wp2_with (first | (go_at_call 9; (with_reducible refine (many_is y 4 _ hy HMK.out).mono ?_); rintro e w' ⟨rfl, rfl⟩) | (go_at_call 10; (with_reducible refine (refNumber_is x 4 4 _ rfl (by omega)).mono ?_); rintro e w3 ⟨An, cn, rfl, hnu, hb3⟩; have HNU := Lib.hid hnu; have W3 : Hid (Below w.heap.size w w3) := HV.out.trans (hb3.mono hszr); have O3 := Lib.hid (HO.out.far (Far.of_below hb3 nobody) (fun e => e) (fun _ _ e => e)); have R3 := Lib.hid ((Far.of_below hb3 nobody).row HR.out (fun _ _ e => e)); clear hnu hb3) | (at_builtin; refine wpList_app_to rfl (.tmp 39) (.tmp 45) rfl w.heap.size (.slice A1 n1 c1) n1 W rfl (by exact R3.out) An 4 cn (numB x 4) rfl (by exact Byts.of_own HNU.out) (n1 + 4) rfl (W ++ numB x 4) rfl (by omega) (by exact W3.out.size) ?_; intro A4 c4 w4 H1 H2 H3; have W4 : Hid (Below w.heap.size w w4) := W3.out.grown H2.out W3.out.size (fun k e => (R3.out.lt k e).1); have hs4 := W4.out.size; have O4 : Hid (OutAt w4 w.heap.size w1.heap.size r W) := puts_out O3.out H2.out (by obtain ⟨_, _, hb, _⟩ := O3.out; exact hb.row_apart R3.out (by decide)) HN.out; have hcl4 : w4.cell? (al.add k) = some (.int .u64 x) := (W4.out.cell (World.block_lt_of_cell? w _ hcl)).trans hcl) | (go_at_call 13; (with_reducible refine (outU32_any w.heap.size w1.heap.size r W _ _ O4.out (by omega) hs4 (by omega) (by omega)).mono ?_); rintro e w5 ⟨rfl, r5, ho5, hf5, hr5⟩; rw [numB_low4] at ho5; have HO5 := Lib.hid ho5; have HF5 := Lib.hid hf5; have HR5 := Lib.hid hr5; clear ho5 hf5 hr5))
        go_roundw
        case rel =>
          refine ⟨k + 1, by omega, by go_num, ?_⟩
          rw [HWS.out]
          exact puts_step hsz1 O3.out R3.out H1.out H2.out H3.out HN.out W3.out HO5.out HF5.out HR5.out
        case measure => simp [intOf]; omega
      · go_wp2_with (first | (go_at_call 9; (with_reducible refine (many_is y 8 _ hy HMK.out).mono ?_); rintro e w' ⟨rfl, rfl⟩) | (go_at_call 10; (with_reducible refine (refNumber_is x 8 8 _ rfl (by omega)).mono ?_); rintro e w3 ⟨An, cn, rfl, hnu, hb3⟩; have HNU := Lib.hid hnu; have W3 : Hid (Below w.heap.size w w3) := HV.out.trans (hb3.mono hszr); have O3 := Lib.hid (HO.out.far (Far.of_below hb3 nobody) (fun e => e) (fun _ _ e => e)); have R3 := Lib.hid ((Far.of_below hb3 nobody).row HR.out (fun _ _ e => e)); clear hnu hb3) | (at_builtin; refine wpList_app_to rfl (.tmp 39) (.tmp 45) rfl w.heap.size (.slice A1 n1 c1) n1 W rfl (by exact R3.out) An 8 cn (numB x 8) rfl (by exact Byts.of_own HNU.out) (n1 + 8) rfl (W ++ numB x 8) rfl (by omega) (by exact W3.out.size) ?_; intro A4 c4 w4 H1 H2 H3; have W4 : Hid (Below w.heap.size w w4) := W3.out.grown H2.out W3.out.size (fun k e => (R3.out.lt k e).1); have hs4 := W4.out.size; have O4 : Hid (OutAt w4 w.heap.size w1.heap.size r W) := puts_out O3.out H2.out (by obtain ⟨_, _, hb, _⟩ := O3.out; exact hb.row_apart R3.out (by decide)) HN.out; have hcl4 : w4.cell? (al.add k) = some (.int .u64 x) := (W4.out.cell (World.block_lt_of_cell? w _ hcl)).trans hcl) | (go_at_call 14; (with_reducible refine (outU64_any w.heap.size w1.heap.size r W _ _ O4.out (by omega) hs4 (by omega) (by have := HX.out; omega)).mono ?_); rintro e w5 ⟨rfl, r5, ho5, hf5, hr5⟩; rw [show ((x : Int)).toNat = x by omega] at ho5; have HO5 := Lib.hid ho5; have HF5 := Lib.hid hf5; have HR5 := Lib.hid hr5; clear ho5 hf5 hr5))
        go_roundw
        case rel =>
          refine ⟨k + 1, by omega, by go_num, ?_⟩
          rw [HWS.out]
          exact puts_step hsz1 O3.out R3.out H1.out H2.out H3.out HN.out W3.out HO5.out HF5.out HR5.out
        case measure => simp [intOf]; omega
    · obtain rfl : k = n := by omega
      have hwk := HW.out k
      have hn1 : (putW X M k).length = n1 := by have := HR.out.1; rw [cel_length] at this; omega
      have HN1 := Lib.hid hn1
      have hn1' : n1 ≤ 800 := by omega
      have hl2 : (putW X M k).length ≤ 800 := by omega
      have HWO := Lib.hid (putW_octs (X := X) (M := M) k)
      have HT0 : Hid (putT X M k 0 = putW X M k) := putT_all k
      have HT1 : Hid (putT X M k k = []) := putT_none k
      have HTS : Hid (∀ j, j < k → putT X M k j = numB (X j) (M j) ++ putT X M k (j + 1)) := fun j hj => putT_step hj
      clear hn1 hwk
      generalize putW X M k = W at *
      generalize putT X M k = T at *
      have hszr := HV.out.size
      have PO := Lib.hid HO.out.where_
      go_wp2_with fail
      refine (outRaw_any w.heap.size w1.heap.size r W W A1 n1 c1 _ HO.out (by omega) (by omega) hszr (Byts.of_own HR.out)).mono ?_
      rintro e w3 ⟨rfl, r3, ho3, hf3, _⟩
      have hgo : (Value.slice A1 n1 c1).ownBlock ≠ some w1.heap.size := by obtain ⟨_, _, hb, _⟩ := HO.out; exact hb.row_apart HR.out (by decide)
      have O3 := Lib.hid ho3
      have R3 := Lib.hid (hf3.row HR.out (fun j hj e => by
        rcases e with e | e
        · exact hgo (by rw [hj, e])
        · exact HN.out j hj e))
      have W3 : Hid (Below w.heap.size w w3) := below_out HV.out hf3 hsz1 (fun j e => (PO.out.2 j e).1) hszr
      clear ho3 hf3 hgo
      go_wp2_with fail
      have hl4 : (W ++ W).length = n1 + n1 := by have := HN1.out; simp; omega
      have HL4 := Lib.hid hl4
      refine (outBytes_in w.heap.size w1.heap.size r3 (W ++ W) (n1 + n1) _ O3.out (by omega) hl4).mono ?_
      rintro e w4 ⟨bx, rfl, hbx, hkx, hb4⟩
      clear hl4
      have R4 := Lib.hid ((Far.of_below hb4 nobody).row R3.out (fun _ _ e => e))
      have X4 := Lib.hid hkx
      have W4 : Hid (Below w.heap.size w w4) := W3.out.trans (hb4.mono W3.out.size)
      have t1 := text_blk (n1 + n1) hkx HL4.out
      have t2 := text_is c1 (Byts.of_own R4.out)
      have t3 := strOfNums_app W W
      have t4 : ¬ 9223372036854775807 < (strOfNums W).size + (strOfNums W).size := by rw [strOfNums_size]; omega
      clear hkx hb4 O3 R3
      go_wp2_with fail
      clear t1 t2 t3 t4
      refine (new_in (some ⟨bx, 0, none⟩) (n1 + n1) (n1 + n1) (W ++ W) _ (by omega) (Byts.of_all X4.out HL4.out)).mono ?_
      rintro e w5 ⟨g, q, rfl, hi, hg, hq, hb5⟩
      have I5 : Hid (InAt w5 g q false (T 0 ++ W)) := by rw [HT0.out]; exact hi
      have R5 := Lib.hid ((Far.of_below hb5 nobody).row R4.out (fun _ _ e => e))
      have W5 : Hid (Below w.heap.size w w5) := W4.out.trans (hb5.mono W4.out.size)
      have hgw : w.heap.size ≤ g := Nat.le_trans W4.out.size hg
      have hltq := hi.lt
      have hrow : Hid (∀ j, (Value.slice A1 n1 c1).ownBlock = some j → j < w4.heap.size) := fun j hj => (R4.out.lt j hj).2
      clear hi hb5 R4 X4
      go_wp2
      go_loopw [11, 12, 13, 93] (fun _ _ _ i w' => ∃ j : Nat, j ≤ k ∧ i = .int .i64 j ∧ Puts2Rel w g q (T j ++ W) (.slice A1 n1 c1) n1 W w') (fun _ _ _ i _ => k - (intOf i).toNat)
      case atStart => exact ⟨0, Nat.zero_le _, rfl, I5.out, R5.out, W5.out⟩
      case round =>
        obtain ⟨j, hj, rfl, hi, hr6, hw6⟩ := hrel
        have I6 := Lib.hid hi
        have R6 := Lib.hid hr6
        have W6 := Lib.hid hw6
        clear hi hr6 hw6 I5 R5 W5
        by_cases hlt2 : j < k
        · obtain ⟨al, ak, rfl, rfl, hcl, hck, hx, hy⟩ := HA.out j hlt2
          have HX := Lib.hid hx
          obtain ⟨m, hmj⟩ : ∃ m, M j = m := ⟨_, rfl⟩
          have HMJ : Hid (manyF (Y j) = m) := (HM.out j).symm.trans hmj
          have HTJ : Hid (T j = numB (X j) m ++ T (j + 1)) := by show _ = _; rw [HTS.out j hlt2, hmj]
          have hm8 : m ≤ 8 := by have := manyF_cases (Y j); have := HMJ.out; omega
          clear hx hmj
          generalize X j = x at *
          generalize Y j = y at *
          have hcl1 : wr.cell? (al.add j) = some (.int .u64 x) := (W6.out.cell (World.block_lt_of_cell? w _ hcl)).trans hcl
          have hck1 : wr.cell? (ak.add j) = some (.int .u8 y) := (W6.out.cell (World.block_lt_of_cell? w _ hck)).trans hck
          have hjn : j < nk := by omega
          have hjn2 : (j : Int) < (nk : Int) := by omega
          have hjn3 : (j : Int) < (k : Int) := by omega
          have hj0 : (0 : Int) ≤ (j : Int) := by omega
          have HTK : Hid ((numB x m).take m = numB x m) := List.take_of_length_le (by rw [numB_length]; exact Nat.le_refl _)
          have HOC := Lib.hid (numB_octs x m)
          obtain ⟨nb, hnb⟩ : ∃ nb, numB x m = nb := ⟨_, rfl⟩
          have HNB := Lib.hid hnb
          rw [hnb] at HTK HOC HTJ
          clear hnb
          go_upto_region 27 with fail
          go_cut [12] (fun s wx => s = .int .u64 (numF 0 nb) ∧ Below wr.heap.size wr wx)
          case first =>
            go_region_held3 (fun W' => W'.cell? (al.add j) = some (.int .u64 x) ∧ W'.cell? (ak.add j) = some (.int .u8 y) ∧ Below wr.heap.size wr W')
              (first | assumption | exact keep_of_below hcl1 hck1 ((Below.refl _ _).drew) | exact keep_of_below hcl1 hck1 B8.out | exact keep_of_below hcl1 hck1 B7.out | exact keep_of_below hcl1 hck1 (B8.out.alloc B8.out.size _) | exact keep_of_below hcl1 hck1 (B7.out.alloc B7.out.size _) | exact keep_of_below hcl1 hck1 ((Below.refl _ _).drew.alloc (Nat.le_refl _) _) | exact keep_of_below hcl1 hck1 ((B8.out.setCell (by have := B7.out.size; simp; omega) _).setCell (by have := B7.out.size; simp; omega) _) | exact keep_of_below hcl1 hck1 ((B8.out.setCell (by simp) _).setCell (by simp) _))
              (first | (go_at_call 9; (with_reducible refine (many_is y m _ hy HMJ.out).mono ?_); rintro e w' ⟨rfl, rfl⟩) | (go_at_call 10; (with_reducible refine (refNumber_is x m _ _ rfl hm8).mono ?_); rintro e w7 ⟨An, cn, rfl, hnu, hb7⟩; rw [HNB.out] at hnu; have B7 : Hid (Below wr.heap.size wr w7) := below_via (p := al.add j) (q := ak.add j) (u := .int .u64 x) (v := .int .u8 y) hb7 (by assumption); (try (have hk7 := (Blk.new wr.drew 41 [.slice none 0 0, .bool false]).far (Far.of_below hb7 nobody) (fun e => e); have HK7 := Lib.hid hk7; clear hk7)); obtain ⟨_, _, hen, hcn, _⟩ := Byts.of_row hnu; cases hen; obtain ⟨Z, hZ⟩ : ∃ Z, CutAt An cn m Z := ⟨_, rfl⟩; have HZ := Lib.hid hZ; have HNU := Lib.hid hnu; clear hnu hb7 hZ) | (go_at_call 18; (with_reducible refine (refTake_ok An Z m cn nb nb _ m _ rfl (Nat.le_refl _) hcn HZ.out (by first | exact Byts.of_own HNU.out | exact Byts.of_own (HNU.out.alloc _)) HTK.out HOC.out hm8).mono ?_); rintro e w8 ⟨rfl, hb8⟩; have B8 : Hid (Below wr.heap.size wr w8) := below_via (p := al.add j) (q := ak.add j) (u := .int .u64 x) (v := .int .u8 y) hb8 (by assumption); (try (have hk8 := (Blk.new w7 41 [.slice none 0 0, .bool false]).far (Far.of_below hb8 nobody) (fun e => e); have d0 : w8.cell? ⟨w7.heap.size, 0, none⟩ = some (.slice none 0 0) := hk8.cell 0; have d1 : w8.cell? ⟨w7.heap.size, 1, none⟩ = some (.bool false) := hk8.cell 1; have g0 := hk8.frozen 0; have g1 := hk8.frozen 1; clear hk8)); (try (have hk8 := HK7.out.far (Far.of_below hb8 nobody) (fun e => e); have d0 : w8.cell? ⟨wr.heap.size, 0, none⟩ = some (.slice none 0 0) := hk8.cell 0; have d1 : w8.cell? ⟨wr.heap.size, 1, none⟩ = some (.bool false) := hk8.cell 1; have g0 : w8.frozen? ⟨wr.heap.size, 0, none⟩ = false := hk8.frozen 0; have g1 : w8.frozen? ⟨wr.heap.size, 1, none⟩ = false := hk8.frozen 1; clear hk8)); clear hb8))
            all_goals
              go_wp2_with fail
              go_meet
              case rel => exact ⟨rfl, below_fin (p := al.add j) (q := ak.add j) (u := .int .u64 x) (v := .int .u8 y) (by assumption)⟩
          case rest =>
            obtain ⟨rfl, hbc⟩ := hcut
            have hckc : wc.cell? (ak.add j) = some (.int .u8 y) := (hbc.cell (World.block_lt_of_cell? wr _ hck1)).trans hck1
            have IC : Hid (InAt wc g q false (nb ++ (T (j + 1) ++ W))) := by
              have := I6.out.far (Far.of_below hbc nobody) (fun e => e) (fun e => e)
              rw [HTJ.out, List.append_assoc] at this
              exact this
            have RC := Lib.hid ((Far.of_below hbc nobody).row R6.out (fun _ _ e => e))
            have WC : Hid (Below w.heap.size w wc) := W6.out.trans (hbc.mono W6.out.size)
            have hnl : nb.length = m := by rw [← HNB.out, numB_length]
            have HNL := Lib.hid hnl
            have HML : Hid (m ≤ (nb ++ (T (j + 1) ++ W)).length) := by show _ ≤ _; simp; omega
            have HTN : Hid ((nb ++ (T (j + 1) ++ W)).take m = nb) := List.take_left' hnl
            have HDN : Hid ((nb ++ (T (j + 1) ++ W)).drop m = T (j + 1) ++ W) := List.drop_left' hnl
            clear hbc I6 R6 W6 hnl hcl1 hck1
            go_wp2_with (go_at_call 19; (with_reducible refine (one_ok g q false _ nb y m _ IC.out hy HMJ.out HML.out HTN.out HOC.out).mono ?_); rintro e w9 ⟨rfl, hi9, hf9⟩; rw [HDN.out] at hi9; have I9 := Lib.hid hi9; have R9 := Lib.hid (hf9.row RC.out (fun b hb e => by have := hrow.out b hb; unfold only at e; omega)); have W9 : Hid (Below w.heap.size w w9) := below_only WC.out hf9 hgw WC.out.size; clear hi9 hf9)
            go_roundw
            case rel => exact ⟨j + 1, by omega, by go_num, I9.out, R9.out, W9.out⟩
            case measure => simp [intOf]; omega
        · have I7 : Hid (InAt wr.drew g q false W) := by
            have := I6.out
            rw [show T j = [] from by rw [show j = k by omega]; exact HT1.out, List.nil_append] at this
            exact this
          have R7 : Hid (wr.drew.ownsRow w.heap.size 5 1 (.slice A1 n1 c1) n1 (cel W)) := R6.out
          have W7 := Lib.hid W6.out.drew
          have HLW : Hid (W.length ≤ 1000000) := by show _ ≤ _; omega
          clear I6 R6 W6
          go_wp2
          refine wp_region_held_drew (S := fun W' => (convert 23 9 (.slice A1 n1 c1)).run Try.prog W' = .ok (.string (strOfNums W)) W') (by kernel_rfl) ?_ (fun hHeld => ?_)
          · exact text_is c1 (Byts.of_own R7.out)
          refine wpAnyH_take (i := 0) (oi := ⟨some 125, _, _, _, _, _⟩) (v := ?_) rfl (by kernel_rfl) (by kernel_rfl) (by kernel_rfl) (fun _ _ _ h => h) (Or.inl ⟨by rfl, ?_⟩) (by assumption) ?_
          rotate_left
          · (intro w hSw; (try dsimp only at hSw); go_simp)
            first | done | (with_reducible rfl)
          try simp only [Act.put, List.setIfInBounds_toArray, List.set_cons_zero, List.set_cons_succ]
          refine wpAnyH_take (i := 1) (oi := ⟨some 126, _, _, _, _, _⟩) (v := ?_) rfl (by kernel_rfl) (by kernel_rfl) (by kernel_rfl) (fun _ _ _ h => h) (Or.inl ⟨by rfl, ?_⟩) (by assumption) ?_
          rotate_left
          · (intro w hSw; (try dsimp only at hSw); go_simp)
            first | done | (with_reducible rfl)
          try simp only [Act.put, List.setIfInBounds_toArray, List.set_cons_zero, List.set_cons_succ]
          refine wpAnyH_take (i := 5) (oi := ⟨some 130, _, _, _, _, _⟩) (v := ?_) rfl (by kernel_rfl) (by kernel_rfl) (by kernel_rfl) (fun _ _ _ h => h) (Or.inl ⟨by rfl, ?_⟩) (by assumption) ?_
          rotate_left
          · (intro w hSw; (try dsimp only at hSw); go_simp)
            first | done | (with_reducible rfl)
          try simp only [Act.put, List.setIfInBounds_toArray, List.set_cons_zero, List.set_cons_succ]
          refine wpAnyH_take (i := 6) (oi := ⟨some 131, _, _, _, _, _⟩) (v := ?_) rfl (by kernel_rfl) (by kernel_rfl) (by kernel_rfl) (fun _ _ _ h => h) (Or.inl ⟨by rfl, ?_⟩) (by assumption) ?_
          rotate_left
          · (intro w hSw; (try dsimp only at hSw); go_simp)
            first | done | (with_reducible rfl)
          try simp only [Act.put, List.setIfInBounds_toArray, List.set_cons_zero, List.set_cons_succ]
          refine wpAnyH_ready (rs := [2]) (by kernel_rfl) (by simp) ?_
          refine AllReadyH.cons (o := ⟨some 127, _, _, _, _, _⟩) rfl (fun K hK => ?_) AllReadyH.nil
          go_simp
          refine (left_any g q false W _ I7.out).mono ?_
          rintro e w' ⟨rfl, rfl⟩
          refine hK.out _ _ ?_ (fun hHeld => ?_)
          · exact text_is c1 (Byts.of_own R7.out)
          clear hK K
          try simp only [Act.put, List.setIfInBounds_toArray, List.set_cons_zero, List.set_cons_succ]
          refine wpAnyH_ready (rs := [3]) (by kernel_rfl) (by simp) ?_
          refine AllReadyH.cons (o := ⟨some 128, _, _, _, _, _⟩) rfl (fun K hK => ?_) AllReadyH.nil
          go_simp
          refine (raw_ok g q false W _ W.length _ I7.out rfl (Nat.le_refl _) HLW.out).mono ?_
          rintro e w8 ⟨bv, rfl, hbv, hkv, hi8, hf8⟩
          rw [List.take_length] at hkv
          rw [List.drop_length] at hi8
          have t5 := text_blk W.length hkv rfl
          have I8 := Lib.hid hi8
          have R8 := Lib.hid (hf8.row R7.out (fun b hb e => by have := hrow.out b hb; unfold only at e; omega))
          have W8 : Hid (Below w.heap.size w w8) := below_only W7.out hf8 hgw W7.out.size
          clear hbv hkv hi8 hf8
          refine hK.out _ _ ?_ (fun hHeld => ?_)
          · exact text_is c1 (Byts.of_own R8.out)
          clear hK K
          try simp only [Act.put, List.setIfInBounds_toArray, List.set_cons_zero, List.set_cons_succ]
          refine wpAnyH_ready (rs := [4]) (by kernel_rfl) (by simp) ?_
          refine AllReadyH.cons (o := ⟨some 129, _, _, _, _, _⟩) rfl (fun K hK => ?_) AllReadyH.nil
          go_simp
          refine hK.out _ _ ?_ (fun hHeld => ?_)
          · exact text_is c1 (Byts.of_own R8.out)
          clear hK K
          try simp only [Act.put, List.setIfInBounds_toArray, List.set_cons_zero, List.set_cons_succ]
          refine wpAnyH_take (i := 7) (oi := ⟨some 132, _, _, _, _, _⟩) (v := ?_) rfl (by kernel_rfl) (by kernel_rfl) (by kernel_rfl) (fun _ _ _ h => h) (Or.inl ⟨by rfl, ?_⟩) (by assumption) ?_
          rotate_left
          · (intro w hSw; (try dsimp only at hSw); go_simp)
            first | done | (with_reducible rfl)
          try simp only [Act.put, List.setIfInBounds_toArray, List.set_cons_zero, List.set_cons_succ]
          refine wpAnyH_take (i := 8) (oi := ⟨some 133, _, _, _, _, _⟩) (v := ?_) rfl (by kernel_rfl) (by kernel_rfl) (by kernel_rfl) (fun _ _ _ h => h) (Or.inl ⟨by rfl, ?_⟩) (by assumption) ?_
          rotate_left
          · (intro w hSw; (try dsimp only at hSw); go_simp)
            first | done | (with_reducible rfl)
          try simp only [Act.put, List.setIfInBounds_toArray, List.set_cons_zero, List.set_cons_succ]
          refine wpAnyH_take (i := 9) (oi := ⟨some 134, _, _, _, _, _⟩) (v := ?_) rfl (by kernel_rfl) (by kernel_rfl) (by kernel_rfl) (fun _ _ _ h => h) (Or.inl ⟨by rfl, ?_⟩) (by assumption) ?_
          rotate_left
          · (intro w hSw; (try dsimp only at hSw); go_simp)
            first | done | (with_reducible rfl)
          try simp only [Act.put, List.setIfInBounds_toArray, List.set_cons_zero, List.set_cons_succ]
          refine wpAnyH_ready (rs := [10]) (by kernel_rfl) (by simp) ?_
          refine AllReadyH.cons (o := ⟨some 135, _, _, _, _, _⟩) rfl (fun K hK => ?_) AllReadyH.nil
          go_simp
          refine (done_any g q false [] true _ I8.out rfl).mono ?_
          rintro e w' ⟨rfl, rfl⟩
          refine hK.out _ _ ?_ (fun hHeld => ?_)
          · exact text_is c1 (Byts.of_own R8.out)
          clear hK K
          try simp only [Act.put, List.setIfInBounds_toArray, List.set_cons_zero, List.set_cons_succ]
          refine wpAnyH_take (i := 11) (oi := ⟨some 136, _, _, _, _, _⟩) (v := ?_) rfl (by kernel_rfl) (by kernel_rfl) (by kernel_rfl) (fun _ _ _ h => h) (Or.inl ⟨by rfl, ?_⟩) (by assumption) ?_
          rotate_left
          · (intro w hSw; (try dsimp only at hSw); go_simp)
            first | done | (with_reducible rfl)
          try simp only [Act.put, List.setIfInBounds_toArray, List.set_cons_zero, List.set_cons_succ]
          refine wpAnyH_take (i := 12) (oi := ⟨some 4, _, _, _, _, _⟩) (v := ?_) rfl (by kernel_rfl) (by kernel_rfl) (by kernel_rfl) (fun _ _ _ h => h) (Or.inl ⟨by rfl, ?_⟩) (by assumption) ?_
          rotate_left
          · (intro w hSw; (try dsimp only at hSw); go_simp)
            first | done | (with_reducible rfl)
          try simp only [Act.put, List.setIfInBounds_toArray, List.set_cons_zero, List.set_cons_succ]
          refine wpAnyH_done (by kernel_rfl) ?_ _
          go_wp2
          go_ret
          exact ⟨rfl, W8.out⟩
end Go.Proofs.Ytgbnpfaplaolcaa
