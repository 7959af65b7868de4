/- The contracts of the document's Add, Sub and Move. Conditions: those of each theorem. -/
import Derived.Test.YtgjicnjibhofkaaRefFits
namespace Go.Proofs.Ytgjicnjibhofkaa
open Go.RowKit

/-- The argument in block w.heap.size, the result's empty block behind it. -/
def Two3 (w : World) (A : Option Addr) (n c R S : Nat) (W : World) : Prop := Below w.heap.size w W ∧ BoxAt w.heap.size A n c R S W ∧ Blk W (w.heap.size + 1) 32 [.slice none 0 0, .int .i64 0, .int .i64 0]
theorem Two3.new (w : World) (A : Option Addr) (n c R S : Nat) : Two3 w A n c R S ((w.alloc (boxOf A n c R S)).alloc noneOf) := by
  refine ⟨((Below.refl _ _).alloc (Nat.le_refl _) _).alloc (by simp) _, Blk.alloc (BoxAt.new w A n c R S) _, ?_⟩
  have := Blk.new (w.alloc (boxOf A n c R S)) 32 [.slice none 0 0, .int .i64 0, .int .i64 0]
  simpa using this
theorem Two3.be {w : World} {A : Option Addr} {n c R S : Nat} {W : World} (h : Two3 w A n c R S W) : Below w.heap.size w W := h.1
theorem Two3.below {w : World} {A : Option Addr} {n c R S : Nat} {W W' : World} (h : Two3 w A n c R S W) (hb : Below W.heap.size W W') : Two3 w A n c R S W' :=
  ⟨h.1.trans (hb.mono h.1.size), h.2.1.below hb, h.2.2.far (Far.of_below hb nobody) (fun e => e)⟩
theorem Two3.none_ {w : World} {A : Option Addr} {n c R S : Nat} {W : World} (h : Two3 w A n c R S W) : W.cell? ⟨w.heap.size + 1, 0, none⟩ = some (.slice none 0 0) ∧ W.cell? ⟨w.heap.size + 1, 1, none⟩ = some (.int .i64 0) ∧ W.cell? ⟨w.heap.size + 1, 2, none⟩ = some (.int .i64 0) ∧ W.frozen? ⟨w.heap.size + 1, 0, none⟩ = false ∧ W.frozen? ⟨w.heap.size + 1, 1, none⟩ = false ∧ W.frozen? ⟨w.heap.size + 1, 2, none⟩ = false :=
  ⟨h.2.2.cell 0, h.2.2.cell 1, h.2.2.cell 2, h.2.2.frozen 0, h.2.2.frozen 1, h.2.2.frozen 2⟩
/-- What stands when the result has been stored. -/
abbrev stored3 (W : World) (h : Nat) (A : Option Addr) (n c R S : Nat) : World := ((W.setCell ⟨h, 0, none⟩ (.slice A n c)).setCell ⟨h, 1, none⟩ (.int .i64 (R : Nat))).setCell ⟨h, 2, none⟩ (.int .i64 (S : Nat))
theorem below_stored {w W : World} {B h : Nat} (hb : Below B w W) (hh : B ≤ h) (A : Option Addr) (n c R S : Nat) : Below B w (stored3 W h A n c R S) := ((hb.setCell hh _).setCell hh _).setCell hh _
theorem far_stored (W : World) (h : Nat) (A : Option Addr) (n c R S : Nat) : Far (fun k => k = h) W (stored3 W h A n c R S) := (((Far.refl (fun k => k = h) _).set_ (p := ⟨h, 0, none⟩) (fun _ => rfl) _).set_ (p := ⟨h, 1, none⟩) (fun _ => rfl) _).set_ (p := ⟨h, 2, none⟩) (fun _ => rfl) _
/-- What the document's Add, Sub and Move answer. -/
def RefOut (b : Nat → Prop) (n R S : Nat) (L' : List Nat) (ok : Bool) (w : World) (e : Ending) (w' : World) : Prop :=
  (∃ A' c', e = .returned (.tuple #[doc A' n c' R S, .bool ok]) ∧ RefAt b w' A' L') ∧ Below w.heap.size w w'
theorem refOut_not {b : Nat → Prop} {n c R S : Nat} {A : Option Addr} {L : List Nat} {w W : World} (h : RefAt b w A L) (hB : Below w.heap.size w W) :
    RefOut b n R S L false w (.returned (.tuple #[doc A n c R S, .bool false])) (stored3 W (w.heap.size + 1) A n c R S) :=
  ⟨⟨A, c, rfl, h.below (below_stored hB (by omega) _ _ _ _ _)⟩, below_stored hB (by omega) _ _ _ _ _⟩
theorem refOut_yes {b : Nat → Prop} {n c' R S B : Nat} {A' : Option Addr} {L' : List Nat} {w W : World} (hbw : ∀ k, w.heap.size ≤ k → b k) (h : RefAt (fun k => B ≤ k) W A' L') (hB : w.heap.size + 1 < B) (hW : Below w.heap.size w W) :
    RefOut b n R S L' true w (.returned (.tuple #[doc A' n c' R S, .bool true])) (stored3 W (w.heap.size + 1) A' n c' R S) := by
  refine ⟨⟨A', c', rfl, ?_⟩, below_stored hW (by omega) _ _ _ _ _⟩
  exact (h.far (far_stored W (w.heap.size + 1) A' n c' R S) (fun k hk e => by have : B ≤ k := hk; omega)).weak (fun k _ hk => hbw k (by have : B ≤ k := hk; omega))
set_option maxHeartbeats 1000000 in
theorem refAdd_ (b : Nat → Prop) (n c R S : Nat) (A : Option Addr) (x y : Int) (L : List Nat) (w : World) (h : RefAt b w A L) (hn : L.length = n) (hok : Ok R S L) (hbw : ∀ k, w.heap.size ≤ k → b k) :
    Calls Try.prog 14 #[doc A n c R S, .int .i64 x, .int .i64 y] w (RefOut b n R S (addOf R S L x y) (fits R S L x y) w) := by
  have T0 := Lib.hid (Two3.new w A n c R S)
  have C12 := Lib.hid (refFits_ b n c R S A x y L _ (h.below T0.out.1) hn hok)
  rcases hh : fits R S L x y with _ | _
  · have e0 : addOf R S L x y = L := by simp [addOf, hh]
    rw [e0]
    rw [hh] at C12
    have HP := Lib.hid (fun W hB => refOut_not (n := n) (c := c) (R := R) (S := S) (W := W) h hB)
    clear h hn hok hbw e0 hh
    go_enter Try.func14, Try.ntmps14
    go_wp2_with (go_at_call 12; (with_reducible refine C12.out.mono ?_); rintro e w3 ⟨rfl, hb3⟩; have T3 := Lib.hid (T0.out.below hb3); obtain ⟨q0, q1, q2⟩ := T3.out.2.1.cells; obtain ⟨r0, r1, r2, f0, f1, f2⟩ := T3.out.none_; clear hb3)
    refine bodyPost_ret (v := .tuple #[doc A n c R S, .bool false]) ?_ rfl (HP.out _ T3.out.1)
    simp [results, Try.results14, go_sem, *]
  · have h0 := hh
    simp [fits] at h0
    obtain ⟨⟨hx, hz⟩, hu⟩ := h0
    obtain ⟨k, rfl, hk⟩ := has_iff.1 hx
    obtain ⟨m, rfl, hm⟩ : ∃ m : Nat, y = m ∧ m ≤ 1073741824 := by
      simp [isz] at hz
      exact ⟨y.toNat, by omega, by omega⟩
    have e0 : addOf R S L k m = L.set k (atOf L k + m) := by simp [addOf, hh, plus]
    rw [e0]
    rw [hh] at C12
    have hat : atOf L k ≤ 139586437120 := Nat.le_trans (at_le L k) hok.all
    have C26 := Lib.hid (fun W (hB : Below w.heap.size w W) => refWith_ b n c R S k (atOf L k + m) A k m L W (h.below hB) hn (by have := hok.hi; omega) (by omega) rfl (by omega) (by omega))
    have HP := Lib.hid (fun A' c' B W h hB hW => refOut_yes (n := n) (R := R) (S := S) (A' := A') (c' := c') (L' := L.set k (atOf L k + m)) (B := B) (W := W) hbw h hB hW)
    clear h hn hok hbw e0 hh hx hz hu hk hm hat
    generalize L.set k (atOf L k + m) = L' at *
    go_enter Try.func14, Try.ntmps14
    go_wp2_with (first | (go_at_call 12; (with_reducible refine C12.out.mono ?_); rintro e w3 ⟨rfl, hb3⟩; have T3 := Lib.hid (T0.out.below hb3); obtain ⟨q0, q1, q2⟩ := T3.out.2.1.cells; clear hb3) | (go_at_call 26; (with_reducible refine (C26.out _ T3.out.be).mono ?_); rintro e w4 ⟨⟨A4, c4, rfl, hr4⟩, hb4⟩; have T4 := Lib.hid (T3.out.below hb4); obtain ⟨r0, r1, r2, f0, f1, f2⟩ := T4.out.none_; have R4 := Lib.hid hr4; clear hr4 hb4))
    refine bodyPost_ret (v := .tuple #[doc A4 n c4 R S, .bool true]) ?_ rfl (HP.out _ _ _ _ R4.out T3.out.2.2.lt T4.out.1)
    simp [results, Try.results14, go_sem, *]
set_option maxHeartbeats 1000000 in
theorem refSub_ (b : Nat → Prop) (n c R S : Nat) (A : Option Addr) (x y : Int) (L : List Nat) (w : World) (h : RefAt b w A L) (hn : L.length = n) (hok : Ok R S L) (hbw : ∀ k, w.heap.size ≤ k → b k) :
    Calls Try.prog 16 #[doc A n c R S, .int .i64 x, .int .i64 y] w (RefOut b n R S (subOf L x y) (canSub L x y) w) := by
  have T0 := Lib.hid (Two3.new w A n c R S)
  have C25 := Lib.hid (fun W => refHas_ n c R S A x L W hn)
  rcases hc : canSub L x y with _ | _
  · have e0 : subOf L x y = L := by simp [subOf, hc]
    rw [e0]
    have HP := Lib.hid (fun W hB => refOut_not (n := n) (c := c) (R := R) (S := S) (W := W) h hB)
    rcases hh : has L x with _ | _
    · rw [hh] at C25
      clear h hn hok hbw e0 hh hc
      go_enter Try.func16, Try.ntmps16
      go_wp2_with (go_at_call 25; (with_reducible refine (C25.out _).mono ?_); rintro e w3 ⟨rfl, hb3⟩; have T3 := Lib.hid (T0.out.below hb3); obtain ⟨q0, q1, q2⟩ := T3.out.2.1.cells; obtain ⟨r0, r1, r2, f0, f1, f2⟩ := T3.out.none_; clear hb3)
      refine bodyPost_ret (v := .tuple #[doc A n c R S, .bool false]) ?_ rfl (HP.out _ T3.out.1)
      simp [results, Try.results16, go_sem, *]
    · rw [hh] at C25
      by_cases hy : y < 0
      · have hd : decide (y < 0) = true := by simpa using hy
        clear h hn hok hbw e0 hh hc hy
        go_enter Try.func16, Try.ntmps16
        go_wp2_with (go_at_call 25; (with_reducible refine (C25.out _).mono ?_); rintro e w3 ⟨rfl, hb3⟩; have T3 := Lib.hid (T0.out.below hb3); obtain ⟨q0, q1, q2⟩ := T3.out.2.1.cells; obtain ⟨r0, r1, r2, f0, f1, f2⟩ := T3.out.none_; clear hb3)
        refine bodyPost_ret (v := .tuple #[doc A n c R S, .bool false]) ?_ rfl (HP.out _ T3.out.1)
        simp [results, Try.results16, go_sem, *]
      · have hd : decide (y < 0) = false := by simpa using hy
        obtain ⟨k, rfl, hk⟩ := has_iff.1 hh
        obtain ⟨m, rfl⟩ : ∃ m : Nat, y = m := ⟨y.toNat, by omega⟩
        have hm : atOf L k < m := by
          simp [canSub, hh] at hc
          omega
        have hd2 : decide (((atOf L k : Nat) : Int) < (m : Int)) = true := by simp; omega
        have hd3 : decide (atOf L k < m) = true := by simpa using hm
        obtain ⟨ad, rfl, hcl⟩ := h.at_ hk
        rw [hn] at hk
        have HC := Lib.hid hcl
        clear h hn hok hbw e0 hh hc hy hcl hm
        generalize atOf L k = a at *
        go_enter Try.func16, Try.ntmps16
        go_wp2_with (go_at_call 25; (with_reducible refine (C25.out _).mono ?_); rintro e w3 ⟨rfl, hb3⟩; have T3 := Lib.hid (T0.out.below hb3); obtain ⟨q0, q1, q2⟩ := T3.out.2.1.cells; obtain ⟨r0, r1, r2, f0, f1, f2⟩ := T3.out.none_; have qc : w3.cell? (ad.add k) = some (.int .i64 (a : Nat)) := (T3.out.1.cell (World.block_lt_of_cell? w _ HC.out)).trans HC.out; clear hb3)
        refine bodyPost_ret (v := .tuple #[doc (some ad) n c R S, .bool false]) ?_ rfl (HP.out _ T3.out.1)
        simp [results, Try.results16, go_sem, *]
  · have h0 := hc
    simp [canSub] at h0
    obtain ⟨⟨hh, hy⟩, hm⟩ := h0
    rw [hh] at C25
    obtain ⟨k, rfl, hk⟩ := has_iff.1 hh
    obtain ⟨m, rfl⟩ : ∃ m : Nat, y = m := ⟨y.toNat, by omega⟩
    simp at hm
    have e0 : subOf L k m = L.set k (atOf L k - m) := by simp [subOf, hc, less]
    rw [e0]
    have hat : atOf L k ≤ 139586437120 := Nat.le_trans (at_le L k) hok.all
    have C26 := Lib.hid (fun W (hB : Below w.heap.size w W) => refWith_ b n c R S k (atOf L k - m) A k (-(m : Int)) L W (h.below hB) hn (by have := hok.hi; omega) (by omega) rfl (by omega) (by omega))
    have HP := Lib.hid (fun A' c' B W h hB hW => refOut_yes (n := n) (R := R) (S := S) (A' := A') (c' := c') (L' := L.set k (atOf L k - m)) (B := B) (W := W) hbw h hB hW)
    have hd : decide ((m : Int) < 0) = false := by simp
    have hd2 : decide (((atOf L k : Nat) : Int) < (m : Int)) = false := by simp; omega
    have hd3 : decide (atOf L k < m) = false := by simpa using hm
    obtain ⟨ad, rfl, hcl⟩ := h.at_ hk
    rw [hn] at hk
    have HC := Lib.hid hcl
    have hmm : m ≤ 139586437120 := by omega
    clear h hn hok hbw e0 hh hc hy hcl hm hat
    generalize L.set k (atOf L k - m) = L' at *
    generalize atOf L k = a at *
    go_enter Try.func16, Try.ntmps16
    go_wp2_with (first | (go_at_call 25; (with_reducible refine (C25.out _).mono ?_); rintro e w3 ⟨rfl, hb3⟩; have T3 := Lib.hid (T0.out.below hb3); obtain ⟨q0, q1, q2⟩ := T3.out.2.1.cells; have qc : w3.cell? (ad.add k) = some (.int .i64 (a : Nat)) := (T3.out.1.cell (World.block_lt_of_cell? w _ HC.out)).trans HC.out; clear hb3) | (go_at_call 26; (with_reducible refine (C26.out _ T3.out.be).mono ?_); rintro e w4 ⟨⟨A4, c4, rfl, hr4⟩, hb4⟩; have T4 := Lib.hid (T3.out.below hb4); obtain ⟨r0, r1, r2, f0, f1, f2⟩ := T4.out.none_; have R4 := Lib.hid hr4; clear hr4 hb4))
    refine bodyPost_ret (v := .tuple #[doc A4 n c4 R S, .bool true]) ?_ rfl (HP.out _ _ _ _ R4.out T3.out.2.2.lt T4.out.1)
    simp [results, Try.results16, go_sem, *]
set_option maxHeartbeats 2000000 in
theorem refMove_ (b : Nat → Prop) (n c R S : Nat) (A : Option Addr) (x z y : Int) (L : List Nat) (w : World) (h : RefAt b w A L) (hn : L.length = n) (hok : Ok R S L) (hbw : ∀ k, w.heap.size ≤ k → b k) :
    Calls Try.prog 18 #[doc A n c R S, .int .i64 x, .int .i64 z, .int .i64 y] w (RefOut b n R S (moveOf L x z y) (canMove L x z y) w) := by
  have T0 := Lib.hid (Two3.new w A n c R S)
  have C16 := Lib.hid (refSub_ b n c R S A x y L _ (h.below T0.out.1) hn hok (fun k hk => hbw k (Nat.le_trans T0.out.1.size hk)))
  have C25 := Lib.hid (fun W => refHas_ n c R S A z L W hn)
  rcases hc : canSub L x y with _ | _
  · have e1 : canMove L x z y = false := by simp [canMove, hc]
    have e0 : moveOf L x z y = L := by simp [moveOf, e1]
    rw [e0, e1]
    rw [hc] at C16
    have HP := Lib.hid (fun W hB => refOut_not (n := n) (c := c) (R := R) (S := S) (W := W) h hB)
    clear h hn hok hbw e0 e1 hc
    go_enter Try.func18, Try.ntmps18
    go_wp2_with (go_at_call 16; (with_reducible refine C16.out.mono ?_); rintro e w3 ⟨⟨A3, c3, rfl, hr3⟩, hb3⟩; have T4 := Lib.hid ((T0.out.below hb3).below (below_one w3 (boxOf A3 n c3 R S))); obtain ⟨q0, q1, q2⟩ := T4.out.2.1.cells; obtain ⟨r0, r1, r2, f0, f1, f2⟩ := T4.out.none_; clear hb3 hr3)
    refine bodyPost_ret (v := .tuple #[doc A n c R S, .bool false]) ?_ rfl (HP.out _ T4.out.1)
    simp [results, Try.results18, go_sem, *]
  · rw [hc] at C16
    rcases hh : has L z with _ | _
    · have e1 : canMove L x z y = false := by simp [canMove, hh]
      have e0 : moveOf L x z y = L := by simp [moveOf, e1]
      rw [e0, e1]
      rw [hh] at C25
      have HP := Lib.hid (fun W hB => refOut_not (n := n) (c := c) (R := R) (S := S) (W := W) h hB)
      clear h hn hok hbw e0 e1 hc hh
      go_enter Try.func18, Try.ntmps18
      go_wp2_with (first | (go_at_call 16; (with_reducible refine C16.out.mono ?_); rintro e w3 ⟨⟨A3, c3, rfl, hr3⟩, hb3⟩; have T4 := Lib.hid ((T0.out.below hb3).below (below_one w3 (boxOf A3 n c3 R S))); obtain ⟨q0, q1, q2⟩ := T4.out.2.1.cells; clear hb3 hr3) | (go_at_call 25; (with_reducible refine (C25.out _).mono ?_); rintro e w5 ⟨rfl, hb5⟩; have T5 := Lib.hid (T4.out.below hb5); obtain ⟨s0, s1, s2⟩ := T5.out.2.1.cells; obtain ⟨r0, r1, r2, f0, f1, f2⟩ := T5.out.none_; clear hb5))
      refine bodyPost_ret (v := .tuple #[doc A n c R S, .bool false]) ?_ rfl (HP.out _ T5.out.1)
      simp [results, Try.results18, go_sem, *]
    · have e1 : canMove L x z y = true := by simp [canMove, hc, hh]
      rw [e1]
      rw [hh] at C25
      have h0 := hc
      simp [canSub] at h0
      obtain ⟨⟨hx, hy⟩, hm⟩ := h0
      obtain ⟨k, rfl, hk⟩ := has_iff.1 hx
      obtain ⟨j, rfl, hj⟩ := has_iff.1 hh
      obtain ⟨m, rfl⟩ : ∃ m : Nat, y = m := ⟨y.toNat, by omega⟩
      simp at hm
      have e2 : subOf L k m = less L k m := by simp [subOf, hc]
      have e0 : moveOf L k j m = (less L k m).set j (atOf (less L k m) j + m) := by simp [moveOf, e1, plus]
      rw [e0]
      rw [e2] at C16
      have hat : atOf (less L k m) j ≤ 139586437120 := Nat.le_trans (at_le _ j) (hok.less k m).all
      have hmm : m ≤ 139586437120 := Nat.le_trans hm (Nat.le_trans (at_le L k) hok.all)
      have C26 := Lib.hid (fun W b' A' c' (hr : RefAt b' W A' (less L k m)) => refWith_ b' n c' R S j (atOf (less L k m) j + m) A' j m (less L k m) W hr (by rw [less_length]; exact hn) (by have := hok.hi; omega) (by omega) rfl (by omega) (by omega))
      have HP := Lib.hid (fun A' c' B W h hB hW => refOut_yes (n := n) (R := R) (S := S) (A' := A') (c' := c') (L' := (less L k m).set j (atOf (less L k m) j + m)) (B := B) (W := W) hbw h hB hW)
      clear h hn hok hbw e0 e1 e2 hc hh hx hy hm hk hj hat hmm
      generalize (less L k m).set j (atOf (less L k m) j + m) = L' at *
      generalize less L k m = L2 at *
      go_enter Try.func18, Try.ntmps18
      go_wp2_with (first | (go_at_call 16; (with_reducible refine C16.out.mono ?_); rintro e w3 ⟨⟨A3, c3, rfl, hr3⟩, hb3⟩; have T4 := Lib.hid ((T0.out.below hb3).below (below_one w3 (boxOf A3 n c3 R S))); obtain ⟨q0, q1, q2⟩ := T4.out.2.1.cells; have X4 := Lib.hid (BoxAt.new w3 A3 n c3 R S); have R4 := Lib.hid (hr3.below (below_one w3 (boxOf A3 n c3 R S))); clear hb3 hr3) | (go_at_call 25; (with_reducible refine (C25.out _).mono ?_); rintro e w5 ⟨rfl, hb5⟩; have T5 := Lib.hid (T4.out.below hb5); have R5 := Lib.hid (R4.out.below hb5); obtain ⟨s0, s1, s2⟩ := (X4.out.below hb5).cells; clear hb5) | (go_at_call 26; (with_reducible refine (C26.out _ _ _ _ R5.out).mono ?_); rintro e w6 ⟨⟨A6, c6, rfl, hr6⟩, hb6⟩; have T6 := Lib.hid (T5.out.below hb6); obtain ⟨r0, r1, r2, f0, f1, f2⟩ := T6.out.none_; have R6 := Lib.hid hr6; clear hr6 hb6))
      refine bodyPost_ret (v := .tuple #[doc A6 n c6 R S, .bool true]) ?_ rfl (HP.out _ _ _ _ R6.out T5.out.2.2.lt T6.out.1)
      simp [results, Try.results18, go_sem, *]
end Go.Proofs.Ytgjicnjibhofkaa
