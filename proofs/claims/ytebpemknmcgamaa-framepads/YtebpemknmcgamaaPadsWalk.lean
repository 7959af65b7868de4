/- The walk of the law FramePads: for any bytes and any behind them it returns true and turns nothing that was there. -/
import Derived.Test.YtebpemknmcgamaaMore
namespace Go.Proofs.Ytebpemknmcgamaa
open Go.RowKit

/-- Are two structs the same, as a step of the walk. -/
theorem wpList_eql {ops : Array Oper} {rest : List Oper} {op : Oper} {a : Act} {w : World} {Q : Exit → Act → World → Prop} (hw : Region.wanted op (yielded ops a.tmps) = true) (t : TypeId) (hg : Try.prog.eqGuardType Try.prog.depth t = false) (x y : Operand) (u : TypeId) (ho : op.op = .binOp .eql t x y u)
    (X Y : Array Value) (hx : a.eval x = .agg X) (hy : a.eval y = .agg Y) (r : Bool) (h : (Op.equalIn 10000 t (.agg X) (.agg Y)).run Try.prog w = .ok r w) (hk : wpList Try.prog ops Q rest (a.put op.dst (.bool r)) w) : wpList Try.prog ops Q (op :: rest) a w := by
  have h1 : (Op.equal t (.agg X) (.agg Y)).run Try.prog w = .ok r w := h
  unfold wpList
  rw [if_pos hw]
  refine .inl ?_
  unfold Oper.wp execOp
  simp [ho, hx, hy, eqGuard, binOp, hg, h1, Oper.upon]
  exact hk
theorem pak_45 {n : Nat} {v : Bool} {p : Int} {s d : List Int} {a b : Nat} (hs : Sixteen s) (hd : Sixteen d) : (pak n v p s d a b)[45]? = some (.int .i64 ((n : Nat) : Int)) := by
  have c1 := flo_length (v := v) (p := p) (a := a) (b := b) hs hd
  have c2 := prx_length (v := v) hs
  rw [pak, show 45 = 44 + 1 by rfl, List.getElem?_cons_succ, List.getElem?_append_right (by omega), c1, List.getElem?_append_right (by omega), c2]
  rfl
theorem pak_set45 {n k : Nat} {v : Bool} {p : Int} {s d : List Int} {a b : Nat} (hs : Sixteen s) (hd : Sixteen d) : (pak n v p s d a b).set 45 (.int .i64 ((k : Nat) : Int)) = pak k v p s d a b := by
  have c1 := flo_length (v := v) (p := p) (a := a) (b := b) hs hd
  have c2 := prx_length (v := v) hs
  rw [pak, pak, show 45 = 44 + 1 by rfl, List.set_cons_succ, List.set_append_right _ _ (by omega), c1, List.set_append_right _ _ (by omega), c2]
  rfl

set_option maxHeartbeats 1000000 in
theorem pads_far1 (C : Prog) (A B : Option Addr) (n c m k : Nat) (w : World) (hn : 5000 < n) : Calls Try.prog 8 #[.slice A n c, .slice B m k] w fun e w' => e = .returned (.bool true) ∧ Below w.heap.size w w' := by
  have hd : decide ((5000 : Int) < (n : Int)) = true := by simp; omega
  have hd2 : decide (5000 < n) = true := by simpa using hn
  go_enter Try.func8, Try.ntmps8
  go_wp2_with fail
  refine (awake_any C _).mono ?_
  rintro e w1 ⟨rfl, hb⟩
  have HB := Lib.hid hb
  clear hb
  go_wp2_with fail
  refine (awake_any C _).mono ?_
  rintro e w2 ⟨rfl, hb⟩
  have HC := Lib.hid hb
  clear hb
  go_wp2
  go_ret
  exact ⟨rfl, HB.out.trans (HC.out.mono HB.out.size)⟩

set_option maxHeartbeats 1000000 in
theorem pads_far2 (C : Prog) (A B : Option Addr) (n c m k : Nat) (w : World) (hn : n ≤ 5000 ∧ 200 < m) : Calls Try.prog 8 #[.slice A n c, .slice B m k] w fun e w' => e = .returned (.bool true) ∧ Below w.heap.size w w' := by
  have hd : decide ((5000 : Int) < (n : Int)) = false := by simp; omega
  have hd2 : decide (5000 < n) = false := by simp; omega
  have hdd : decide ((200 : Int) < (m : Int)) = true := by simp; omega
  have hdd2 : decide (200 < m) = true := by simp; omega
  go_enter Try.func8, Try.ntmps8
  go_wp2_with fail
  refine (awake_any C _).mono ?_
  rintro e w1 ⟨rfl, hb⟩
  have HB := Lib.hid hb
  clear hb
  go_wp2_with fail
  refine (awake_any C _).mono ?_
  rintro e w2 ⟨rfl, hb⟩
  have HC := Lib.hid hb
  clear hb
  go_wp2
  go_ret
  exact ⟨rfl, HB.out.trans (HC.out.mono HB.out.size)⟩

theorem pads_far (C : Prog) (A B : Option Addr) (n c m k : Nat) (w : World) (hn : 5000 < n ∨ 200 < m) : Calls Try.prog 8 #[.slice A n c, .slice B m k] w fun e w' => e = .returned (.bool true) ∧ Below w.heap.size w w' := by
  by_cases h : 5000 < n
  · exact pads_far1 C A B n c m k w h
  · exact pads_far2 C A B n c m k w (by omega)

set_option maxRecDepth 100000 in
set_option maxHeartbeats 4000000 in
theorem pads_near (C : Prog) (A B : Option Addr) (n c m k : Nat) (bs ms : List Int) (w : World) (h : Byts w A n bs) (ho : Octs bs) (hc : n ≤ c) (h' : Byts w B m ms) (ho' : Octs ms) (hn : n ≤ 5000) (hm : m ≤ 200) : Calls Try.prog 8 #[.slice A n c, .slice B m k] w fun e w' => e = .returned (.bool true) ∧ Below w.heap.size w w' := by
  have hd : decide ((5000 : Int) < (n : Int)) = false := by simp; omega
  have hd2 : decide (5000 < n) = false := by simp; omega
  have hdd : decide ((200 : Int) < (m : Int)) = false := by simp; omega
  have hdd2 : decide (200 < m) = false := by simp; omega
  obtain ⟨⟨P, r⟩, hP⟩ : ∃ R, pk bs = R := ⟨_, rfl⟩
  have hbn := h.1
  have hbm := h'.1
  have HK := Lib.hid (pk_is ho hP)
  have LP := Lib.hid HK.out.1.length
  have H := Lib.hid h
  have HO := Lib.hid ho
  have H' := Lib.hid h'
  have HO' := Lib.hid ho'
  have HP := Lib.hid hP
  clear h ho hP h' ho'
  go_enter Try.func8, Try.ntmps8
  go_upto_region 4 with (first | (go_at_call 9; (with_reducible refine (awake_any C _).mono ?_); rintro e x1 ⟨rfl, hb⟩; have W1 := Lib.hid hb; clear hb) | (go_at_call 10; (with_reducible refine (C.parse A n c r bs P _ (H.out.below W1.out) HO.out (by omega) hc HP.out).mono ?_); rintro e x2 ⟨rfl, hb⟩; have W2 : Hid (Below w.heap.size w x2) := W1.out.trans (hb.mono W1.out.size); clear hb) | (refine wpList_packet rfl (.tmp 5) (.tmp 25) rfl x2 P rfl rfl LP.out (one_all HK.out.1.each) ?_; intro x3 B3 hb; have W3 : Hid (Below w.heap.size w x3) := W2.out.trans (hb.out.mono W2.out.size); clear hb))
  by_cases h0 : r = 0
  · subst h0
    obtain ⟨v, q, s, d, x, y, hPe, hP2, hs, hd', os, od, hq, hx, hy⟩ := pk_more (ms := ms) HO.out HP.out (by omega)
    subst hPe
    rw [hbn, hbm] at hP2
    rw [hbn] at B3 LP
    have HP2 := Lib.hid hP2
    have S1 := Lib.hid hs
    have S2 := Lib.hid hd'
    have HQ : Hid (∀ W, (Op.equalIn 10000 32 (.agg (pak (n + m) v q s d x y).toArray) (.agg (pak (n + m) v q s d x y).toArray)).run Try.prog W = .ok true W) := fun W => eq_pak hs hd' os od hq hx hy (by omega) W
    have LP2 : Hid ((pak (n + m) v q s d x y).length = 46) := pak_length hs hd'
    clear hP2 hs hd' os od hq hx hy HK HP
    have Y3 : Hid (Below x3.heap.size x3 (x3.alloc (.cells #[] 5))) := (Below.refl _ x3).alloc (Nat.le_refl _) _
    have R3 := Lib.hid (own_new x3 x3.heap.size (Nat.le_refl _))
    go_upto_region 7 with (first | (refine wpList_app_to rfl (.tmp 33) (.tmp 34) rfl x3.heap.size (.slice (some ⟨x3.heap.size, 0, none⟩) 0 0) 0 [] rfl R3.out A n c bs rfl (H.out.below (W3.out.trans (Y3.out.mono W3.out.size))) n (by omega) bs rfl (by omega) Y3.out.size ?_; intro A4 c4 x4 R4 G4 _; have Y4 : Hid (Below x3.heap.size x3 x4) := Y3.out.grown G4.out Y3.out.size (fun k e => (R3.out.lt k e).1)) | (refine wpList_app_to rfl (.tmp 35) (.tmp 36) rfl x3.heap.size (.slice A4 n c4) n bs rfl R4.out B m k ms rfl (H'.out.below (W3.out.trans (Y4.out.mono W3.out.size))) (n + m) rfl (bs ++ ms) rfl (by omega) Y4.out.size ?_; intro A5 c5 x5 R5 G5 _; have Y5 : Hid (Below x3.heap.size x3 x5) := Y4.out.grown G5.out Y4.out.size (fun k e => (R4.out.lt k e).1); have hc5 := own_cap R5.out; have HB5 := Lib.hid (Byts.of_own R5.out); have W5 : Hid (Below w.heap.size w x5) := W3.out.trans (Y5.out.mono W3.out.size); have B5 := Lib.hid (kept B3.out Y5.out)) | (go_at_call 10; (with_reducible refine (C.parse A5 (n + m) c5 0 (bs ++ ms) (pak (n + m) v q s d x y) _ HB5.out (HO.out.app HO'.out) (by omega) hc5 HP2.out).mono ?_); rintro e x6 ⟨rfl, hb⟩; have W6 : Hid (Below w.heap.size w x6) := W5.out.trans (hb.mono W5.out.size); have B6 := Lib.hid (kept B5.out hb); clear hb) | (refine wpList_packet rfl (.tmp 7) (.tmp 39) rfl x6 (pak (n + m) v q s d x y) rfl rfl LP2.out (one_all pak_each) ?_; intro x7 C7 hb; have W7 : Hid (Below w.heap.size w x7) := W6.out.trans (hb.out.mono W6.out.size); have B7 := Lib.hid (kept B6.out hb.out); clear hb))
    have hg2 : x2.heap.size < x6.heap.size := B6.out.lt
    have hg0 : w.heap.size ≤ x2.heap.size := W2.out.size
    clear R3 R4 R5 G4 G5 Y3 Y4 Y5 HB5 B3 B5 B6 HP2 W1 W2 W3 W5 W6
    generalize x2.heap.size = G at *
    generalize x6.heap.size = G2 at *
    have k5 : x7.cell? ⟨G, 45, none⟩ = some (.int .i64 ((n : Nat) : Int)) := (B7.out.cell 45).trans (pak_45 S1.out S2.out)
    have f5 := B7.out.frozen 45
    go_upto_region 8 with (fail)
    have B8 : Hid (Blk (x7.setCell ⟨G, 45, none⟩ (.int .i64 ((n : Int) + (m : Int)))) G 32 (pak (n + m) v q s d x y)) := by
      have := B7.out.set_ 45 (.int .i64 (((n + m : Nat) : Nat) : Int))
      rw [pak_set45 S1.out S2.out] at this
      exact this
    have C8 : Hid (Blk (x7.setCell ⟨G, 45, none⟩ (.int .i64 ((n : Int) + (m : Int)))) G2 32 (pak (n + m) v q s d x y)) := C7.out.other (p := ⟨G, 45, none⟩) (by show G2 ≠ G; omega) _
    have W8 : Hid (Below w.heap.size w (x7.setCell ⟨G, 45, none⟩ (.int .i64 ((n : Int) + (m : Int))))) := W7.out.setCell (p := ⟨G, 45, none⟩) hg0 _
    generalize (x7.setCell ⟨G, 45, none⟩ (.int .i64 ((n : Int) + (m : Int)))) = x8 at *
    go_wp2_with (first | (refine wpList_whole_packet (by rfl) (.tmp 5) rfl G rfl (pak (n + m) v q s d x y) B8.out LP2.out ?_) | (refine wpList_whole_packet (by rfl) (.tmp 7) rfl G2 rfl (pak (n + m) v q s d x y) C8.out LP2.out ?_) | (refine wpList_eql (by rfl) 32 (by kernel_rfl) (.tmp 50) (.tmp 51) 32 rfl (pak (n + m) v q s d x y).toArray (pak (n + m) v q s d x y).toArray rfl rfl true (HQ.out _) ?_))
    go_ret
    exact ⟨rfl, W8.out⟩
  · have hne : ((r : Int) != 0) = true := by simp; omega
    obtain rfl : P = pak0 := HK.out.2 h0
    go_wp2_with (first | (refine wpList_whole_packet (by rfl) (.tmp 5) rfl x2.heap.size rfl pak0 B3.out LP.out ?_) | (refine wpList_build rfl 32 [] rfl [] rfl pak0 (run_pak0 _) ?_) | (refine wpList_eql (by rfl) 32 (by kernel_rfl) (.tmp 29) (.tmp 30) 32 rfl pak0.toArray pak0.toArray rfl rfl true (eq_pak0 _) ?_))
    go_ret
    exact ⟨rfl, W3.out⟩
end Go.Proofs.Ytebpemknmcgamaa
