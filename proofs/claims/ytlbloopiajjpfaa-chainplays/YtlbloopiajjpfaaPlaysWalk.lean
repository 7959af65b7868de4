/- The walk of the law ChainPlays: for any numbers of lines and places and any acts it returns true and turns nothing that was there. -/
import Derived.Test.YtlbloopiajjpfaaSame
import Derived.Test.YtlbloopiajjpfaaIns
namespace Go.Proofs.Ytlbloopiajjpfaa
open Go.RowKit

/-- Blocks from B on, but for h. -/
def apartOf (B h : Nat) : Nat → Prop := fun k => B ≤ k ∧ k ≠ h
/-- Where the loop stands: chains and the document's lines (the variable at block h) hold the same places. -/
def PlaysRel (w : World) (g q s h n m : Nat) (B : Nat) (L : List (List Nat)) (w' : World) : Prop :=
  ChAt w' g q s n m L ∧ (∃ A c, Blk w' h 32 [.slice A n c, .int .i64 (m : Nat)] ∧ RefAt (apartOf B h) w' A L) ∧ Below w.heap.size w w'
/-- How the blocks lie. -/
structure PlaysAt (w : World) (g q s h B : Nat) : Prop where
  g1 : w.heap.size ≤ g
  q1 : w.heap.size ≤ q
  s1 : w.heap.size ≤ s
  h1 : w.heap.size ≤ h
  g2 : g < B
  q2 : q < B
  s2 : s < B
  h2 : B ≤ h
theorem PlaysAt.out {w : World} {g q s h B : Nat} (p : PlaysAt w g q s h B) : ∀ k, apartOf B h k → ¬ three g q s k := fun k hk e => by
  have := p.g2
  have := p.q2
  have := p.s2
  have := hk.1
  rcases e with e | e | e <;> omega
theorem PlaysAt.noh {w : World} {g q s h B : Nat} (p : PlaysAt w g q s h B) : ¬ three g q s h := fun e => by
  have := p.g2
  have := p.q2
  have := p.s2
  have := p.h2
  rcases e with e | e | e <;> omega
/-- The chains have turned, the document's lines not yet. -/
theorem plays_turn {w wr w5 : World} {g q s h n m B : Nat} {L : List (List Nat)} {A : Option Addr} {c : Nat} (p : PlaysAt w g q s h B) (hb : Below w.heap.size w wr) (h1 : Blk wr h 32 [.slice A n c, .int .i64 (m : Nat)]) (h2 : RefAt (apartOf B h) wr A L) (hf : Far (three g q s) wr w5) :
    Blk w5 h 32 [.slice A n c, .int .i64 (m : Nat)] ∧ RefAt (apartOf B h) w5 A L ∧ Below w.heap.size w w5 ∧ ∀ k, w5.heap.size ≤ k → apartOf B h k := by
  have hB := h1.far hf p.noh
  refine ⟨hB, h2.far hf p.out, below_three hb hf p.g1 p.q1 p.s1 hb.size, fun k hk => ?_⟩
  have := hB.lt
  have := p.h2
  exact ⟨by omega, by omega⟩
/-- Nothing turns. -/
theorem plays_stay {w w5 w6 : World} {g q s h n m B : Nat} {L L' : List (List Nat)} {A : Option Addr} {c : Nat} (h0 : ChAt w5 g q s n m L') (h1 : Blk w5 h 32 [.slice A n c, .int .i64 (m : Nat)]) (h2 : RefAt (apartOf B h) w5 A L) (h3 : Below w.heap.size w w5) (h4 : ∀ k, w5.heap.size ≤ k → apartOf B h k) (hb : Below w5.heap.size w5 w6) :
    ChAt w6 g q s n m L' ∧ Blk w6 h 32 [.slice A n c, .int .i64 (m : Nat)] ∧ RefAt (apartOf B h) w6 A L ∧ Below w.heap.size w w6 ∧ ∀ k, w6.heap.size ≤ k → apartOf B h k :=
  ⟨h0.below hb, h1.far (Far.of_below hb nobody) (fun e => e), h2.below hb, h3.trans (hb.mono h3.size), fun k hk => h4 k (Nat.le_trans hb.size hk)⟩
/-- The document's lines are put into their variable. -/
theorem plays_put {w w5 w6 : World} {g q s h n m B : Nat} {L' : List (List Nat)} {A : Option Addr} {c : Nat} {v v' : Value} (p : PlaysAt w g q s h B) (h0 : ChAt w5 g q s n m L') (h1 : Blk w5 h 32 [v, v']) (hb5 : Below w.heap.size w w5) (h2 : RefAt (apartOf B h) w6 A L') (hb6 : Below w5.heap.size w5 w6) :
    PlaysRel w g q s h n m B L' ((w6.setCell ⟨h, 0, none⟩ (.slice A n c)).setCell ⟨h, 1, none⟩ (.int .i64 (m : Nat))) := by
  have hF : Far (fun k => k = h) w6 ((w6.setCell ⟨h, 0, none⟩ (.slice A n c)).setCell ⟨h, 1, none⟩ (.int .i64 (m : Nat))) := ((Far.refl (fun k => k = h) _).set_ (p := ⟨h, 0, none⟩) (fun _ => rfl) _).set_ (p := ⟨h, 1, none⟩) (fun _ => rfl) _
  have h1' := h1.far (Far.of_below hb6 nobody) (fun e => e)
  have hb := hb5.trans (hb6.mono hb5.size)
  have := p.g2
  have := p.q2
  have := p.s2
  have := p.h2
  refine ⟨(h0.below hb6).far hF (by omega) (by omega) (by omega), ⟨A, c, ?_, h2.far hF (fun k hk => hk.2)⟩, (hb.setCell p.h1 _).setCell p.h1 _⟩
  have := (h1'.set_ 0 (.slice A n c)).set_ 1 (.int .i64 (m : Nat))
  simpa using this
theorem PlaysRel.drewN {w w' : World} {g q s h n m B : Nat} {L : List (List Nat)} (hr : PlaysRel w g q s h n m B L w') (N : Nat) : PlaysRel w g q s h n m B L (w'.drewN N) := ⟨hr.1.drewN N, hr.2.1, below_drewN hr.2.2 N⟩
theorem PlaysRel.below {w w' w'' : World} {g q s h n m B : Nat} {L : List (List Nat)} (hr : PlaysRel w g q s h n m B L w') (hb : Below w'.heap.size w' w'') : PlaysRel w g q s h n m B L w'' := by
  obtain ⟨h1, ⟨A, c, h2, h3⟩, h4⟩ := hr
  exact ⟨h1.below hb, ⟨A, c, h2.far (Far.of_below hb nobody) (fun e => e), h3.below hb⟩, h4.trans (hb.mono h4.size)⟩
theorem plays_first {w w2 w3 : World} {g q s n m : Nat} {A : Option Addr} {c : Nat} (h1 : ChAt w2 g q s n m (List.replicate n [])) (h2 : RefAt (fun k => w2.heap.size ≤ k) w3 A (List.replicate n [])) (hb2 : Below w.heap.size w w2) (hb3 : Below w2.heap.size w2 w3) :
    PlaysRel w g q s w3.heap.size n m w2.heap.size (List.replicate n []) (w3.alloc (Obj.cells #[Value.slice A n c, Value.int IntKind.i64 (m : Nat)] 32)) := by
  have hb4 : Below w3.heap.size w3 (w3.alloc (Obj.cells #[Value.slice A n c, Value.int IntKind.i64 (m : Nat)] 32)) := (Below.refl _ _).alloc (Nat.le_refl _) _
  exact ⟨(h1.below hb3).below hb4, ⟨A, c, Blk.new w3 32 [.slice A n c, .int .i64 (m : Nat)], (h2.weak (fun k hk h => ⟨h, by omega⟩)).below hb4⟩, (hb2.trans (hb3.mono hb2.size)).trans (hb4.mono (hb2.trans (hb3.mono hb2.size)).size)⟩

set_option maxRecDepth 100000 in
set_option maxHeartbeats 8000000 in
theorem plays_near (n m : Nat) (x y : Int) (A : Option Addr) (r c : Nat) (X Y Z : Nat → Int) (w : World) (hr : r ≤ 100) (hx : x = n) (hy : y = m) (h1 : 1 ≤ n) (h2 : n ≤ 129) (h3 : 1 ≤ m) (h4 : m ≤ 4096) (ha : ActsIn w A r X Y Z) :
    Calls Try.prog 3 #[.int .i64 x, .int .i64 y, .slice A r c] w fun e w' => e = .returned (.bool true) ∧ Below w.heap.size w w' := by
  subst hx hy
  have HA := Lib.hid ha
  clear ha
  have hd : decide ((100 : Int) < (r : Int)) = false := by simp; omega
  have hd' : decide (100 < r) = false := by simp; omega
  have d1 : decide ((n : Int) < 1) = false := by simp; omega
  have d2 : decide ((129 : Int) < (n : Int)) = false := by simp; omega
  have d3 : decide ((m : Int) < 1) = false := by simp; omega
  have d4 : decide ((4096 : Int) < (m : Int)) = false := by simp; omega
  go_enter Try.func3, Try.ntmps3
  go_wp2_with (first | (go_at_call 7; (with_reducible refine (awake_any _).mono ?_); rintro e w1 ⟨rfl, hb1⟩; have W1 := Lib.hid hb1; clear hb1) | (go_at_call 8; (with_reducible refine (new_ n m _ _ _ rfl rfl h1 h2 h3 h4).mono ?_); rintro e w2 ⟨g, q, s, rfl, hr2, ha2, hb2⟩; have R2 := Lib.hid hr2; have HN := Lib.hid ha2; have W2 : Hid (Below w.heap.size w w2) := W1.out.trans (hb2.mono W1.out.size); clear hr2 ha2 hb2) | (go_at_call 11; (with_reducible refine (refNew_ n m _ h2).mono ?_); rintro e w3 ⟨⟨A3, c3, rfl, hr3⟩, hb3⟩; have R3 := Lib.hid hr3; have B3 := Lib.hid hb3; clear hr3 hb3))
  have R0 := Lib.hid (plays_first (c := c3) R2.out R3.out W2.out B3.out)
  have HP : Hid (PlaysAt w g q s w3.heap.size w2.heap.size) := by
    have hlt := R2.out.lt
    have hs1 := W1.out.size
    have hs2 := W2.out.size
    have hs3 := B3.out.size
    obtain ⟨a1, a2, a3, _⟩ := HN.out
    exact ⟨by omega, by omega, by omega, by omega, by omega, by omega, by omega, by omega⟩
  clear R2 R3 W2 B3 HN W1
  generalize w3.heap.size = h at *
  generalize w2.heap.size = B at *
  go_loopw [10, 11, 12, 13, 14, 15, 16, 17, 18, 68] (fun _ _ _ _ _ _ _ _ _ i w' => ∃ (k : Nat) (L : List (List Nat)), k ≤ r ∧ i = .int .i64 k ∧ PlaysRel w g q s h n m B L w') (fun _ _ _ _ _ _ _ _ _ i _ => r - (intOf i).toNat)
  case atStart => exact ⟨0, _, by omega, rfl, R0.out⟩
  case round =>
    clear R0
    obtain ⟨k, L, hk, rfl, hrel'⟩ := hrel
    have R1 := Lib.hid hrel'
    have W1 : Hid (Below w.heap.size w wr) := hrel'.2.2
    clear hrel'
    by_cases hlt : k < r
    · have hd5 : decide ((k : Int) < (r : Int)) = true := by simp; omega
      obtain ⟨a, rfl, hca, hcb, hcc, hx0, hx1, hy0, hy1, hz0, hz1⟩ := HA.out k hlt
      have hca' : wr.cell? (a.add (k * 3)) = some (.int .u8 (X k)) := (W1.out.cell (World.block_lt_of_cell? w _ hca)).trans hca
      have hcb' : wr.cell? (a.add (k * 3 + 1)) = some (.int .i16 (Y k)) := (W1.out.cell (World.block_lt_of_cell? w _ hcb)).trans hcb
      have hcc' : wr.cell? (a.add (k * 3 + 2)) = some (.int .i16 (Z k)) := (W1.out.cell (World.block_lt_of_cell? w _ hcc)).trans hcc
      rw [addr_one] at hcb'
      rw [addr_two] at hcc'
      generalize X k = X0 at *
      generalize Y k = Y0 at *
      generalize Z k = Z0 at *
      clear hca hcb hcc
      obtain ⟨t, ht⟩ : ∃ t : Nat, X0 % 4 = t := ⟨(X0 % 4).toNat, by omega⟩
      have ht4 : t < 4 := by omega
      go_wp2_with fail
      go_quiet (fail)
      go_upto_block 2 with fail
      have R4 := Lib.hid (R1.out.drewN nq)
      generalize wr.drewN nq = wq at *
      go_cut [13, 14, 15, 16, 17, 18, 88] from 89 to 142 (fun _ _ _ _ _ _ _ wx => ∃ L' : List (List Nat), PlaysRel w g q s h n m B L' wx)
      case first =>
        obtain ⟨r1, ⟨A1, c1, r2, r3⟩, r4⟩ := R4.out
        have C1 := Lib.hid r1
        have HSH := Lib.hid r1.rows
        have HLEN := Lib.hid r1.len
        have HT := Lib.hid (fun w5 hf => plays_turn (w5 := w5) HP.out r4 r2 r3 hf)
        have HPUT := Lib.hid (fun w5 w6 L' A c v v' h0 h1 hb5 h2 hb6 => plays_put (w5 := w5) (w6 := w6) (n := n) (m := m) (L' := L') (A := A) (c := c) (v := v) (v' := v') HP.out h0 h1 hb5 h2 hb6)
        clear r1 r2 r3 r4 hca' hcb' hcc' R1 R4 W1
        by_cases ht2 : t < 2
        · have hts : t = 0 ∨ t = 1 := by omega
          rcases hts with rfl | rfl
          all_goals
            go_wp2_with (first | (go_at_call 10; (with_reducible refine (push_ g q s n m _ _ L _ C1.out).mono ?_); rintro e w5 ⟨rfl, hc5, hf5⟩; have C5 := Lib.hid hc5; obtain ⟨t1, t2, t3, t4⟩ := HT.out w5 hf5; have q0 : w5.cell? ⟨h, 0, none⟩ = some (.slice A1 n c1) := t1.cell 0; have q1 : w5.cell? ⟨h, 1, none⟩ = some (.int .i64 (m : Nat)) := t1.cell 1; have T1 := Lib.hid t1; have T2 := Lib.hid t2; have T3 := Lib.hid t3; have T4 := Lib.hid t4; clear hc5 hf5 t1 t2 t3 t4) | (go_at_call 12; (with_reducible refine (refPush_ (apartOf B h) n m c1 A1 _ _ L _ T2.out HLEN.out h2 HSH.out T4.out).mono ?_); rintro e w6 ⟨⟨A6, c6, rfl, hr6⟩, hb6⟩; have R6 := Lib.hid hr6; have B6 := Lib.hid hb6; have T6 := Lib.hid (T1.out.far (Far.of_below hb6 nobody) (fun e => e)); have q2 : w6.cell? ⟨h, 0, none⟩ = some (.slice A1 n c1) := T6.out.cell 0; have q3 : w6.cell? ⟨h, 1, none⟩ = some (.int .i64 (m : Nat)) := T6.out.cell 1; have f2 := T6.out.frozen 0; have f3 := T6.out.frozen 1; clear hr6 hb6))
            go_meet
            case rel => exact ⟨_, HPUT.out _ _ _ _ _ _ _ C5.out T1.out T3.out R6.out B6.out⟩
        · by_cases ht3 : t = 2
          · subst ht3
            go_wp2_with (first | (go_at_call 13; (with_reducible refine (pop_ g q s n m _ L _ C1.out).mono ?_); rintro e w5 ⟨rfl, hc5, hf5⟩; have C5 := Lib.hid hc5; obtain ⟨t1, t2, t3, t4⟩ := HT.out w5 hf5; have q0 : w5.cell? ⟨h, 0, none⟩ = some (.slice A1 n c1) := t1.cell 0; have q1 : w5.cell? ⟨h, 1, none⟩ = some (.int .i64 (m : Nat)) := t1.cell 1; have T1 := Lib.hid t1; have T2 := Lib.hid t2; have T3 := Lib.hid t3; have T4 := Lib.hid t4; clear hc5 hf5 t1 t2 t3 t4) | (go_at_call 15; (with_reducible refine (refAt_ (apartOf B h) n m c1 A1 _ _ L _ T2.out HLEN.out).mono ?_); rintro e w6 ⟨rfl, hb6⟩; obtain ⟨u0, u1, u2, u3, u4⟩ := plays_stay C5.out T1.out T2.out T3.out T4.out hb6; have q2 : w6.cell? ⟨h, 0, none⟩ = some (.slice A1 n c1) := u1.cell 0; have q3 : w6.cell? ⟨h, 1, none⟩ = some (.int .i64 (m : Nat)) := u1.cell 1; have U0 := Lib.hid u0; have U1 := Lib.hid u1; have U2 := Lib.hid u2; have U3 := Lib.hid u3; have U4 := Lib.hid u4; clear u0 u1 u2 u3 u4 hb6) | (go_at_call 14; (with_reducible refine (told_ (atOf L Y0 0) _ _ _ _ rfl rfl rfl).mono ?_); rintro e w' ⟨rfl, rfl⟩) | (go_at_call 16; (with_reducible refine (refCut_ (apartOf B h) n m c1 A1 _ _ L _ U2.out HLEN.out h2 HSH.out U4.out).mono ?_); rintro e w7 ⟨⟨A7, c7, rfl, hr7⟩, hb7⟩; have R7 := Lib.hid hr7; have B7 := Lib.hid hb7; have T7 := Lib.hid (U1.out.far (Far.of_below hb7 nobody) (fun e => e)); have q4 : w7.cell? ⟨h, 0, none⟩ = some (.slice A1 n c1) := T7.out.cell 0; have q5 : w7.cell? ⟨h, 1, none⟩ = some (.int .i64 (m : Nat)) := T7.out.cell 1; have f4 := T7.out.frozen 0; have f5 := T7.out.frozen 1; clear hr7 hb7))
            go_meet
            case rel => exact ⟨_, HPUT.out _ _ _ _ _ _ _ U0.out U1.out U3.out R7.out B7.out⟩
          · obtain rfl : t = 3 := by omega
            go_wp2_with (first | (go_at_call 17; (with_reducible refine (cut_ g q s n m _ _ L _ C1.out).mono ?_); rintro e w5 ⟨rfl, hc5, hf5⟩; have C5 := Lib.hid hc5; obtain ⟨t1, t2, t3, t4⟩ := HT.out w5 hf5; have q0 : w5.cell? ⟨h, 0, none⟩ = some (.slice A1 n c1) := t1.cell 0; have q1 : w5.cell? ⟨h, 1, none⟩ = some (.int .i64 (m : Nat)) := t1.cell 1; have T1 := Lib.hid t1; have T2 := Lib.hid t2; have T3 := Lib.hid t3; have T4 := Lib.hid t4; clear hc5 hf5 t1 t2 t3 t4) | (go_at_call 15; (with_reducible refine (refAt_ (apartOf B h) n m c1 A1 _ _ L _ T2.out HLEN.out).mono ?_); rintro e w6 ⟨rfl, hb6⟩; obtain ⟨u0, u1, u2, u3, u4⟩ := plays_stay C5.out T1.out T2.out T3.out T4.out hb6; have q2 : w6.cell? ⟨h, 0, none⟩ = some (.slice A1 n c1) := u1.cell 0; have q3 : w6.cell? ⟨h, 1, none⟩ = some (.int .i64 (m : Nat)) := u1.cell 1; have U0 := Lib.hid u0; have U1 := Lib.hid u1; have U2 := Lib.hid u2; have U3 := Lib.hid u3; have U4 := Lib.hid u4; clear u0 u1 u2 u3 u4 hb6) | (go_at_call 14; (with_reducible refine (told_ (atOf L Y0 Z0) _ _ _ _ rfl rfl rfl).mono ?_); rintro e w' ⟨rfl, rfl⟩) | (go_at_call 16; (with_reducible refine (refCut_ (apartOf B h) n m c1 A1 _ _ L _ U2.out HLEN.out h2 HSH.out U4.out).mono ?_); rintro e w7 ⟨⟨A7, c7, rfl, hr7⟩, hb7⟩; have R7 := Lib.hid hr7; have B7 := Lib.hid hb7; have T7 := Lib.hid (U1.out.far (Far.of_below hb7 nobody) (fun e => e)); have q4 : w7.cell? ⟨h, 0, none⟩ = some (.slice A1 n c1) := T7.out.cell 0; have q5 : w7.cell? ⟨h, 1, none⟩ = some (.int .i64 (m : Nat)) := T7.out.cell 1; have f4 := T7.out.frozen 0; have f5 := T7.out.frozen 1; clear hr7 hb7))
            go_meet
            case rel => exact ⟨_, HPUT.out _ _ _ _ _ _ _ U0.out U1.out U3.out R7.out B7.out⟩
      case rest =>
        obtain ⟨L', hr'⟩ := hcut
        have R5 := Lib.hid hr'
        obtain ⟨r1, ⟨A1, c1, r2, r3⟩, r4⟩ := hr'
        have q0 : wc.cell? ⟨h, 0, none⟩ = some (.slice A1 n c1) := r2.cell 0
        have q1 : wc.cell? ⟨h, 1, none⟩ = some (.int .i64 (m : Nat)) := r2.cell 1
        have C1 := Lib.hid r1
        have F1 := Lib.hid r3
        clear r1 r2 r3 r4 R1 R4 W1
        go_wp2_with (go_at_call 18; (with_reducible refine (same_ (apartOf B h) g q s n m c1 A1 L' _ C1.out F1.out).mono ?_); rintro e w8 ⟨rfl, hb8⟩; have R8 := Lib.hid (R5.out.below hb8); clear hb8)
        go_roundw
        case rel => exact ⟨k + 1, L', by omega, by go_num, R8.out⟩
        case measure => simp [intOf]; omega
    · obtain rfl : k = r := by omega
      have hd5 : decide ((k : Int) < (k : Int)) = false := by simp
      go_wp2_with fail
      go_ret
      exact ⟨rfl, W1.out⟩

set_option maxRecDepth 100000 in
set_option maxHeartbeats 2000000 in
theorem plays_far (x y : Int) (A : Option Addr) (n c : Nat) (w : World) (hn : 100 < n) :
    Calls Try.prog 3 #[.int .i64 x, .int .i64 y, .slice A n c] w fun e w' => e = .returned (.bool true) ∧ Below w.heap.size w w' := by
  have hd : decide ((100 : Int) < (n : Int)) = true := by simp; omega
  have hd' : decide (100 < n) = true := by simp; omega
  go_enter Try.func3, Try.ntmps3
  go_wp2_with fail
  refine (awake_any _).mono ?_
  rintro e w1 ⟨rfl, hb1⟩
  have W1 := Lib.hid hb1
  clear hb1
  go_wp2_with fail
  refine (awake_any _).mono ?_
  rintro e w2 ⟨rfl, hb2⟩
  have W2 : Hid (Below w.heap.size w w2) := W1.out.trans (hb2.mono W1.out.size)
  clear hb2
  go_wp2_with fail
  go_ret
  exact ⟨rfl, W2.out⟩
set_option maxRecDepth 100000 in
set_option maxHeartbeats 4000000 in
theorem plays_none (x y : Int) (A : Option Addr) (n c : Nat) (w : World) (hn : n ≤ 100) (hx : x < 1 ∨ 129 < x ∨ y < 1 ∨ 4096 < y) :
    Calls Try.prog 3 #[.int .i64 x, .int .i64 y, .slice A n c] w fun e w' => e = .returned (.bool true) ∧ Below w.heap.size w w' := by
  have hd : decide ((100 : Int) < (n : Int)) = false := by simp; omega
  have hd' : decide (100 < n) = false := by simp; omega
  have HX := Lib.hid hx
  have hcase : decide (x < 1) = true ∨ (decide (x < 1) = false ∧ decide (129 < x) = true) ∨ (decide (x < 1) = false ∧ decide (129 < x) = false ∧ decide (y < 1) = true) ∨ (decide (x < 1) = false ∧ decide (129 < x) = false ∧ decide (y < 1) = false ∧ decide (4096 < y) = true) := by
    simp
    omega
  clear hx
  rcases hcase with e1 | ⟨e1, e2⟩ | ⟨e1, e2, e3⟩ | ⟨e1, e2, e3, e4⟩
  all_goals
    go_enter Try.func3, Try.ntmps3
    go_wp2_with (first | (go_at_call 7; (with_reducible refine (awake_any _).mono ?_); rintro e w1 ⟨rfl, hb1⟩; have W1 := Lib.hid hb1; clear hb1) | (go_at_call 8; (with_reducible refine (newbad _ _ _ HX.out).mono ?_); rintro e w' ⟨rfl, rfl⟩) | (go_at_call 9; (with_reducible refine (len_nil _ _).mono ?_); rintro e w' ⟨rfl, rfl⟩) | (go_at_call 10; (with_reducible refine (push_nil _ _ _).mono ?_); rintro e w' ⟨rfl, rfl⟩))
    go_ret
    exact ⟨rfl, W1.out⟩
end Go.Proofs.Ytlbloopiajjpfaa
