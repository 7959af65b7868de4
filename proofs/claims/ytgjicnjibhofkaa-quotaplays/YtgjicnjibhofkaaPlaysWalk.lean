/- The walk of the law QuotaPlays: for any number of classes, any reserve and shared, and any acts it returns true and turns nothing that was there. -/
import Derived.Test.YtgjicnjibhofkaaRefActs
import Derived.Test.YtgjicnjibhofkaaIns
import Derived.Deep.CutBlock
namespace Go.Proofs.Ytgjicnjibhofkaa
open Go.RowKit

/-- Blocks from B on, but for h. -/
def apartOf (B h : Nat) : Nat → Prop := fun k => B ≤ k ∧ k ≠ h
/-- Where the loop stands: the quota and the document's (the variable at block h) say the same. -/
def PlaysRel (w : World) (g q h n R S B : Nat) (L : List Nat) (w' : World) : Prop :=
  QAt w' g q R S L ∧ L.length = n ∧ (∃ A c, BoxAt h A n c R S w' ∧ RefAt (apartOf B h) w' A L) ∧ Below w.heap.size w w'
/-- How the blocks lie. -/
structure PlaysAt (w : World) (g q h B : Nat) : Prop where
  g1 : w.heap.size ≤ g
  q1 : w.heap.size ≤ q
  h1 : w.heap.size ≤ h
  g2 : g < B
  q2 : q < B
  h2 : B ≤ h
/-- An act in its variable. -/
def ActAt (e : Nat) (X Y Z V : Int) (W : World) : Prop := Blk W e 36 [.int .u8 X, .int .i8 Y, .int .i8 Z, .int .i64 V]
section
variable {w w5 w6 wr : World} {g q h n R S B e : Nat} {L L' : List Nat} {A : Option Addr} {c : Nat} {X Y Z V : Int}
theorem ActAt.below (ha : ActAt e X Y Z V w5) (hb : Below w5.heap.size w5 w6) : ActAt e X Y Z V w6 := Blk.far ha (Far.of_below hb nobody) (fun e => e)
theorem ActAt.cells (ha : ActAt e X Y Z V w5) : w5.cell? ⟨e, 0, none⟩ = some (.int .u8 X) ∧ w5.cell? ⟨e, 1, none⟩ = some (.int .i8 Y) ∧ w5.cell? ⟨e, 2, none⟩ = some (.int .i8 Z) ∧ w5.cell? ⟨e, 3, none⟩ = some (.int .i64 V) := ⟨ha.cell 0, ha.cell 1, ha.cell 2, ha.cell 3⟩
theorem PlaysRel.below (hr : PlaysRel w g q h n R S B L w5) (hb : Below w5.heap.size w5 w6) : PlaysRel w g q h n R S B L w6 := by
  obtain ⟨h1, h0, ⟨A, c, h2, h3⟩, h4⟩ := hr
  exact ⟨h1.below hb, h0, ⟨A, c, h2.below hb, h3.below hb⟩, h4.trans (hb.mono h4.size)⟩
theorem PlaysRel.drewN (hr : PlaysRel w g q h n R S B L w5) (N : Nat) : PlaysRel w g q h n R S B L (w5.drewN N) := ⟨hr.1, hr.2.1, hr.2.2.1, below_drewN hr.2.2.2 N⟩
theorem PlaysRel.be (hr : PlaysRel w g q h n R S B L w5) : Below w.heap.size w w5 := hr.2.2.2
theorem PlaysRel.at_ (hr : PlaysRel w g q h n R S B L w5) : QAt w5 g q R S L := hr.1
/-- The quota has turned, the document's not yet. -/
theorem plays_turn (p : PlaysAt w g q h B) (hb : Below w.heap.size w wr) (h1 : BoxAt h A n c R S wr) (h2 : RefAt (apartOf B h) wr A L) (ha : ActAt e X Y Z V wr) (he : h < e) (hf : Far (two g q) wr w5) :
    BoxAt h A n c R S w5 ∧ RefAt (apartOf B h) w5 A L ∧ ActAt e X Y Z V w5 ∧ Below w.heap.size w w5 ∧ ∀ k, w5.heap.size ≤ k → apartOf B h k := by
  have := p.g2
  have := p.q2
  have := p.h2
  have hB : BoxAt h A n c R S w5 := Blk.far h1 hf (fun e => by rcases e with e | e <;> omega)
  refine ⟨hB, h2.far hf (fun k hk e => by have := hk.1; rcases e with e | e <;> omega), Blk.far ha hf (fun e => by rcases e with e | e <;> omega), below_two hb hf p.g1 p.q1 hb.size, fun k hk => ?_⟩
  have := Blk.lt hB
  exact ⟨by omega, by omega⟩
/-- The document's is put into its variable. -/
theorem plays_put {A0 : Option Addr} {c0 : Nat} (p : PlaysAt w g q h B) (h0 : QAt w5 g q R S L') (hl : L'.length = n) (h1 : BoxAt h A0 n c0 R S w5) (hb5 : Below w.heap.size w w5) (h2 : RefAt (apartOf B h) w6 A L') (hb6 : Below w5.heap.size w5 w6) :
    PlaysRel w g q h n R S B L' (stored3 w6 h A n c R S) := by
  have hF := far_stored w6 h A n c R S
  have h1' : Blk w6 h 32 _ := h1.below hb6
  have hb := hb5.trans (hb6.mono hb5.size)
  have := p.g2
  have := p.q2
  have := p.h2
  refine ⟨(h0.below hb6).far hF (by omega) (by omega), hl, ⟨A, c, ?_, h2.far hF (fun k hk => hk.2)⟩, below_stored hb p.h1 _ _ _ _ _⟩
  have := ((h1'.set_ 0 (.slice A n c)).set_ 1 (.int .i64 (R : Nat))).set_ 2 (.int .i64 (S : Nat))
  unfold BoxAt
  simpa using this
theorem plays_first {w2 w3 : World} (h1 : QAt w2 g q R S (List.replicate n 0)) (h2 : RefAt (fun k => w2.heap.size ≤ k) w3 A (List.replicate n 0)) (hb2 : Below w.heap.size w w2) (hb3 : Below w2.heap.size w2 w3) :
    PlaysRel w g q w3.heap.size n R S w2.heap.size (List.replicate n 0) (w3.alloc (boxOf A n c R S)) := by
  have hb4 := below_one w3 (boxOf A n c R S)
  exact ⟨(h1.below hb3).below hb4, by simp, ⟨A, c, BoxAt.new w3 A n c R S, (h2.weak (fun k hk h => ⟨h, by omega⟩)).below hb4⟩, (hb2.trans (hb3.mono hb2.size)).trans (hb4.mono (hb2.trans (hb3.mono hb2.size)).size)⟩
theorem plays_kept (hb : BoxAt h A n c R S w5) (ha : ActAt e X Y Z V w5) (hB : Below w5.heap.size w5 w6) : w6.cell? ⟨e, 1, none⟩ = some (.int .i8 Y) ∧ w6.cell? ⟨e, 3, none⟩ = some (.int .i64 V) ∧ w6.cell? ⟨h, 0, none⟩ = some (.slice A n c) ∧ w6.cell? ⟨h, 1, none⟩ = some (.int .i64 (R : Nat)) ∧ w6.cell? ⟨h, 2, none⟩ = some (.int .i64 (S : Nat)) :=
  ⟨(ha.below hB).cells.2.1, (ha.below hB).cells.2.2.2, (hb.below hB).cells⟩
theorem QAt.drew {w : World} {g q R S : Nat} {L : List Nat} (h : QAt w g q R S L) : QAt w.drew g q R S L := h
end
theorem fits_b (g q R S : Nat) (x y : Int) (L : List Nat) (w : World) (h : QAt w g q R S L) :
    Calls Try.prog 10 #[.pointer (some ⟨g, 0, none⟩), .int .i64 x, .int .i64 y] w fun e w' => e = .returned (.bool (fits R S L x y)) ∧ Below w.heap.size w w' :=
  (fits_ g q R S x y L w h).mono fun _ _ ⟨h1, N, h2⟩ => ⟨h1, by subst h2; exact below_drewN (Below.refl _ _) N⟩

set_option maxRecDepth 100000 in
set_option maxHeartbeats 8000000 in
theorem plays_near (n R S : Nat) (x y z : Int) (A : Option Addr) (r cc : Nat) (X Y Z V : Nat → Int) (w : World) (hr : r ≤ 100) (hx : x = n) (hy : y = R) (hz : z = S) (h1 : 1 ≤ n) (h2 : n ≤ 129) (hR : R ≤ 1073741824) (hS : S ≤ 1073741824) (ha : ActsIn w A r X Y Z V) :
    Calls Try.prog 3 #[.int .i64 x, .int .i64 y, .int .i64 z, .slice A r cc] w fun e w' => e = .returned (.bool true) ∧ Below w.heap.size w w' := by
  subst hx hy hz
  have HA := Lib.hid ha
  clear ha
  have hd : decide ((100 : Int) < (r : Int)) = false := by simp; omega
  have hd' : decide (100 < r) = false := by simp; omega
  have d1 : decide ((n : Int) < 1) = false := by simp; omega
  have d2 : decide ((129 : Int) < (n : Int)) = false := by simp; omega
  have d3 : decide ((R : Int) < 0) = false := by simp
  have d4 : decide ((1073741824 : Int) < (R : Int)) = false := by simp; omega
  have d5 : decide ((S : Int) < 0) = false := by simp
  have d6 : decide ((1073741824 : Int) < (S : Int)) = false := by simp; omega
  go_enter Try.func3, Try.ntmps3
  go_wp2_with (first | (go_at_call 7; (with_reducible refine (awake_any _).mono ?_); rintro e w1 ⟨rfl, hb1⟩; have W1 := Lib.hid hb1; clear hb1) | (go_at_call 8; (with_reducible refine (new_ n R S _ _ _ _ rfl rfl rfl h1 h2 hR hS).mono ?_); rintro e w2 ⟨g, q, rfl, hr2, a1, a2, hb2⟩; have R2 := Lib.hid hr2; have W2 : Hid (Below w.heap.size w w2) := W1.out.trans (hb2.mono W1.out.size); clear hr2 hb2) | (go_at_call 11; (with_reducible refine (refNew_ n R S _ _ _ _ rfl rfl rfl h2).mono ?_); rintro e w3 ⟨⟨A3, c3, rfl, hr3⟩, hb3⟩; have R3 := Lib.hid hr3; have B3 := Lib.hid hb3; clear hr3 hb3))
  have R0 := Lib.hid (plays_first (c := c3) R2.out R3.out W2.out B3.out)
  have HP : Hid (PlaysAt w g q w3.heap.size w2.heap.size) := by
    have hlt := R2.out.lt
    have hs1 := W1.out.size
    have hs2 := W2.out.size
    have hs3 := B3.out.size
    exact ⟨by omega, by omega, by omega, by omega, by omega, by omega⟩
  clear R2 R3 W2 B3 W1 a1 a2
  generalize w3.heap.size = h at *
  generalize w2.heap.size = B at *
  go_loopw [12, 13, 14, 15, 16, 76] (fun _ _ _ _ _ i w' => ∃ (k : Nat) (L : List Nat), k ≤ r ∧ i = .int .i64 k ∧ PlaysRel w g q h n R S B L w') (fun _ _ _ _ _ i _ => r - (intOf i).toNat)
  case atStart => exact ⟨0, _, by omega, rfl, R0.out⟩
  case round =>
    clear R0
    obtain ⟨k, L, hk, rfl, hrel'⟩ := hrel
    have R1 := Lib.hid hrel'
    clear hrel'
    by_cases hlt : k < r
    · have hd5 : decide ((k : Int) < (r : Int)) = true := by simp; omega
      obtain ⟨a, rfl, hca, hcb, hcc, hcv, hx0, hx1, hy0, hy1, hz0, hz1, hv0, hv1⟩ := HA.out k hlt
      have hca' : wr.cell? (a.add (k * 4)) = some (.int .u8 (X k)) := (R1.out.be.cell (World.block_lt_of_cell? w _ hca)).trans hca
      have hcb' : wr.cell? (a.add (k * 4 + 1)) = some (.int .i8 (Y k)) := (R1.out.be.cell (World.block_lt_of_cell? w _ hcb)).trans hcb
      have hcc' : wr.cell? (a.add (k * 4 + 2)) = some (.int .i8 (Z k)) := (R1.out.be.cell (World.block_lt_of_cell? w _ hcc)).trans hcc
      have hcv' : wr.cell? (a.add (k * 4 + 3)) = some (.int .i64 (V k)) := (R1.out.be.cell (World.block_lt_of_cell? w _ hcv)).trans hcv
      rw [addr_one] at hcb'
      rw [addr_two] at hcc'
      rw [addr_three] at hcv'
      generalize X k = X0 at *
      generalize Y k = Y0 at *
      generalize Z k = Z0 at *
      generalize V k = V0 at *
      clear hca hcb hcc hcv
      obtain ⟨t, ht⟩ : ∃ t : Nat, X0 % 4 = t := ⟨(X0 % 4).toNat, by omega⟩
      have ht4 : t < 4 := by omega
      have hwy : IntKind.i64.wrap Y0 = Y0 := by rw [IntKind.wrap_i64]; omega
      go_upto_region 12 with fail
      have P4 := Lib.hid (R1.out.below (below_one wr (.cells #[.int .u8 X0, .int .i8 Y0, .int .i8 Z0, .int .i64 V0] 36)))
      have A4 : Hid (ActAt wr.heap.size X0 Y0 Z0 V0 (wr.alloc (.cells #[.int .u8 X0, .int .i8 Y0, .int .i8 Z0, .int .i64 V0] 36))) := Blk.new wr 36 [.int .u8 X0, .int .i8 Y0, .int .i8 Z0, .int .i64 V0]
      obtain ⟨_, hlen, ⟨A1, c1, hbx, hrf⟩, _⟩ := P4.out
      have HLEN := Lib.hid hlen
      have BX4 := Lib.hid hbx
      have RF4 := Lib.hid hrf
      have hhe : h < wr.heap.size := by
        obtain ⟨_, _, ⟨A2, c2, hbx2, _⟩, _⟩ := R1.out
        exact Blk.lt hbx2
      have HOK := Lib.hid P4.out.at_.ok
      clear hlen hbx hrf hca' hcb' hcc' hcv' R1 hd5
      generalize wr.alloc (.cells #[.int .u8 X0, .int .i8 Y0, .int .i8 Z0, .int .i64 V0] 36) = w4 at *
      generalize wr.heap.size = e at *
      go_region_held3 (fun W => W.cell? ⟨e, 1, none⟩ = some (.int .i8 Y0) ∧ W.cell? ⟨e, 3, none⟩ = some (.int .i64 V0) ∧ W.cell? ⟨h, 0, none⟩ = some (.slice A1 n c1) ∧ W.cell? ⟨h, 1, none⟩ = some (.int .i64 (R : Nat)) ∧ W.cell? ⟨h, 2, none⟩ = some (.int .i64 (S : Nat)))
        (first | exact plays_kept BX4.out A4.out ((Below.refl _ _).drew) | exact plays_kept BX4.out A4.out B6.out | exact plays_kept BX4.out A4.out B5.out)
        (first | (go_at_call 10; (with_reducible refine (fits_b g q R S _ _ L _ P4.out.at_.drew).mono ?_); rintro e5 w5 ⟨rfl, hb⟩; have B5 : Hid (Below w4.heap.size w4 w5) := ((Below.refl _ _).drew).trans hb; clear hb) | (go_at_call 12; (with_reducible refine (refFits_ (apartOf B h) n c1 R S A1 _ _ L _ (RF4.out.below B5.out) HLEN.out HOK.out).mono ?_); rintro e6 w6 ⟨rfl, hb⟩; have B6 : Hid (Below w4.heap.size w4 w6) := B5.out.trans (hb.mono B5.out.size); clear hb))
      have P6 := Lib.hid (P4.out.below B6.out)
      have A6 := Lib.hid (A4.out.below B6.out)
      have BX6 := Lib.hid (BX4.out.below B6.out)
      have RF6 := Lib.hid (RF4.out.below B6.out)
      have HT := Lib.hid (fun w5 hf => plays_turn (w5 := w5) HP.out P6.out.be BX6.out RF6.out A6.out hhe hf)
      have HPUT := Lib.hid (fun w5 w6 L' A c h0 hl h1 hb5 h2 hb6 => plays_put (w5 := w5) (w6 := w6) (n := n) (R := R) (S := S) (L' := L') (A := A) (c := c) (A0 := A1) (c0 := c1) HP.out h0 hl h1 hb5 h2 hb6)
      obtain ⟨s0, s1, s2, s3⟩ := A6.out.cells
      obtain ⟨q0, q1, q2⟩ := BX6.out.cells
      have hwz : IntKind.i64.wrap Z0 = Z0 := by rw [IntKind.wrap_i64]; omega
      clear P4 A4 BX4 RF4 B5 B6 BX6 RF6 A6
      go_upto_block 2 with fail
      go_cut [14, 15, 100] from 101 to 162 (fun o i _ wx => ∃ (bo : Bool) (L' : List Nat), o = .bool bo ∧ i = .bool bo ∧ PlaysRel w g q h n R S B L' wx)
      case first =>
        by_cases ht2 : t < 2
        · have hts : t = 0 ∨ t = 1 := by omega
          rcases hts with rfl | rfl
          all_goals
            go_wp2_with (first | (go_at_call 13; (with_reducible refine (add_ g q R S _ _ L _ P6.out.at_).mono ?_); rintro e5 w7 ⟨rfl, hq5, hf5⟩; have C5 := Lib.hid hq5; obtain ⟨t1, t2, t3, t4, t5⟩ := HT.out w7 hf5; obtain ⟨q0, q1, q2⟩ := t1.cells; obtain ⟨s0, s1, s2, s3⟩ := t3.cells; have T1 := Lib.hid t1; have T2 := Lib.hid t2; have T4 := Lib.hid t4; have T5 := Lib.hid t5; clear hq5 hf5 t1 t2 t3 t4 t5) | (go_at_call 14; (with_reducible refine (refAdd_ (apartOf B h) n c1 R S A1 _ _ L _ T2.out HLEN.out HOK.out T5.out).mono ?_); rintro e6 w8 ⟨⟨A8, c8, rfl, hr8⟩, hb8⟩; have R8 := Lib.hid hr8; have B8 := Lib.hid hb8; obtain ⟨v0, v1, v2⟩ := (T1.out.below hb8).cells; have f0 := Blk.frozen (T1.out.below hb8) 0; have f1 := Blk.frozen (T1.out.below hb8) 1; have f2 := Blk.frozen (T1.out.below hb8) 2; clear hr8 hb8))
            go_meet
            case rel => exact ⟨_, _, rfl, rfl, HPUT.out _ _ _ _ _ C5.out ((addOf_length _ _ _ _ _).trans HLEN.out) T1.out T4.out R8.out B8.out⟩
        · by_cases ht3 : t = 2
          · subst ht3
            go_wp2_with (first | (go_at_call 15; (with_reducible refine (sub_ g q R S _ _ L _ P6.out.at_).mono ?_); rintro e5 w7 ⟨rfl, hq5, hf5⟩; have C5 := Lib.hid hq5; obtain ⟨t1, t2, t3, t4, t5⟩ := HT.out w7 hf5; obtain ⟨q0, q1, q2⟩ := t1.cells; obtain ⟨s0, s1, s2, s3⟩ := t3.cells; have T1 := Lib.hid t1; have T2 := Lib.hid t2; have T4 := Lib.hid t4; have T5 := Lib.hid t5; clear hq5 hf5 t1 t2 t3 t4 t5) | (go_at_call 16; (with_reducible refine (refSub_ (apartOf B h) n c1 R S A1 _ _ L _ T2.out HLEN.out HOK.out T5.out).mono ?_); rintro e6 w8 ⟨⟨A8, c8, rfl, hr8⟩, hb8⟩; have R8 := Lib.hid hr8; have B8 := Lib.hid hb8; obtain ⟨v0, v1, v2⟩ := (T1.out.below hb8).cells; have f0 := Blk.frozen (T1.out.below hb8) 0; have f1 := Blk.frozen (T1.out.below hb8) 1; have f2 := Blk.frozen (T1.out.below hb8) 2; clear hr8 hb8))
            go_meet
            case rel => exact ⟨_, _, rfl, rfl, HPUT.out _ _ _ _ _ C5.out ((subOf_length _ _ _).trans HLEN.out) T1.out T4.out R8.out B8.out⟩
          · obtain rfl : t = 3 := by omega
            go_wp2_with (first | (go_at_call 17; (with_reducible refine (move_ g q R S _ _ _ L _ P6.out.at_).mono ?_); rintro e5 w7 ⟨rfl, hq5, hf5⟩; have C5 := Lib.hid hq5; obtain ⟨t1, t2, t3, t4, t5⟩ := HT.out w7 hf5; obtain ⟨q0, q1, q2⟩ := t1.cells; obtain ⟨s0, s1, s2, s3⟩ := t3.cells; have T1 := Lib.hid t1; have T2 := Lib.hid t2; have T4 := Lib.hid t4; have T5 := Lib.hid t5; clear hq5 hf5 t1 t2 t3 t4 t5) | (go_at_call 18; (with_reducible refine (refMove_ (apartOf B h) n c1 R S A1 _ _ _ L _ T2.out HLEN.out HOK.out T5.out).mono ?_); rintro e6 w8 ⟨⟨A8, c8, rfl, hr8⟩, hb8⟩; have R8 := Lib.hid hr8; have B8 := Lib.hid hb8; obtain ⟨v0, v1, v2⟩ := (T1.out.below hb8).cells; have f0 := Blk.frozen (T1.out.below hb8) 0; have f1 := Blk.frozen (T1.out.below hb8) 1; have f2 := Blk.frozen (T1.out.below hb8) 2; clear hr8 hb8))
            go_meet
            case rel => exact ⟨_, _, rfl, rfl, HPUT.out _ _ _ _ _ C5.out ((moveOf_length _ _ _ _).trans HLEN.out) T1.out T4.out R8.out B8.out⟩
      case rest =>
        obtain ⟨bo, L', rfl, rfl, hr'⟩ := hcut
        have P9 := Lib.hid hr'
        obtain ⟨_, hlen, ⟨A2, c2, hbx, hrf⟩, _⟩ := hr'
        have HLEN2 := Lib.hid hlen
        have BX9 := Lib.hid hbx
        have RF9 := Lib.hid hrf
        have HT2 : Hid (total L' ≤ 1099511627776) := Nat.le_trans P9.out.at_.ok.all (by decide)
        clear hlen hbx hrf s0 s1 s2 s3 q0 q1 q2 HT HPUT P6 HLEN HOK
        go_wp2_with fail
        go_region_held3 (fun W => W.cell? ⟨h, 0, none⟩ = some (.slice A2 n c2) ∧ W.cell? ⟨h, 1, none⟩ = some (.int .i64 (R : Nat)) ∧ W.cell? ⟨h, 2, none⟩ = some (.int .i64 (S : Nat)))
          (first | exact BX9.out.kept ((Below.refl _ _).drew) | exact BX9.out.kept D2.out)
          (first | (go_at_call 19; (with_reducible refine (shared_ g q R S L' _ P9.out.at_.drew).mono ?_); rintro e5 w9 ⟨rfl, rfl⟩) | (go_at_call 20; (with_reducible refine (refUsed_ (apartOf B h) n c2 R S A2 L' _ (RF9.out.below ((Below.refl _ _).drew)) HLEN2.out h2 HT2.out hR).mono ?_); rintro e6 w9 ⟨rfl, hb⟩; have D2 : Hid (Below wc.heap.size wc w9) := ((Below.refl _ _).drew).trans hb; clear hb))
        have P10 := Lib.hid (P9.out.below D2.out)
        clear P9 BX9 RF9 D2
        go_wp2_with fail
        go_loopw [16] (fun v w' => ∃ ci : Int, -1 ≤ ci ∧ ci ≤ (n : Int) + 1 ∧ v = .int .i64 ci ∧ PlaysRel w g q h n R S B L' w') (fun v _ => ((n : Int) + 2 - intOf v).toNat)
        case atStart => exact ⟨-1, by omega, by omega, rfl, P10.out⟩
        case round =>
          clear P10
          obtain ⟨ci, hc0, hc1, rfl, hr'⟩ := hrel
          have P11 := Lib.hid hr'
          obtain ⟨_, _, ⟨A2, c2, hbx, hrf⟩, _⟩ := hr'
          have BX11 := Lib.hid hbx
          have RF11 := Lib.hid hrf
          clear hbx hrf
          by_cases hle : ci ≤ (n : Int)
          · have hd7 : decide (ci ≤ (n : Int)) = true := by simpa using hle
            go_wp2_with fail
            go_region_held3 (fun W => W.cell? ⟨h, 0, none⟩ = some (.slice A2 n c2) ∧ W.cell? ⟨h, 1, none⟩ = some (.int .i64 (R : Nat)) ∧ W.cell? ⟨h, 2, none⟩ = some (.int .i64 (S : Nat)))
              (first | exact BX11.out.kept ((Below.refl _ _).drew) | exact BX11.out.kept D2.out)
              (first | (go_at_call 9; (with_reducible refine (bytes_ g q R S _ L' _ P11.out.at_.drew).mono ?_); rintro e5 w9 ⟨rfl, rfl⟩) | (go_at_call 21; (with_reducible refine (refBytes_ (apartOf B h) n c2 R S A2 _ L' _ (RF11.out.below ((Below.refl _ _).drew)) HLEN2.out).mono ?_); rintro e6 w9 ⟨rfl, hb⟩; have D2 : Hid (Below wr.heap.size wr w9) := ((Below.refl _ _).drew).trans hb; clear hb))
            have P12 := Lib.hid (P11.out.below D2.out)
            go_wp2_with fail
            go_roundw
            case rel => exact ⟨ci + 1, by omega, by omega, by go_num, P12.out⟩
            case measure => simp [intOf]; omega
          · have hd7 : decide (ci ≤ (n : Int)) = false := by simpa using hle
            go_wp2_with fail
            go_roundw
            case rel => exact ⟨k + 1, L', by omega, by go_num, P11.out⟩
            case measure => simp [intOf]; omega
    · obtain rfl : k = r := by omega
      have hd5 : decide ((k : Int) < (k : Int)) = false := by simp
      go_wp2_with fail
      go_ret
      exact ⟨rfl, R1.out.be⟩

set_option maxRecDepth 100000 in
set_option maxHeartbeats 2000000 in
theorem plays_far (x y z : Int) (A : Option Addr) (n c : Nat) (w : World) (hn : 100 < n) :
    Calls Try.prog 3 #[.int .i64 x, .int .i64 y, .int .i64 z, .slice A n c] w fun e w' => e = .returned (.bool true) ∧ Below w.heap.size w w' := by
  have hd : decide ((100 : Int) < (n : Int)) = true := by simp; omega
  have hd' : decide (100 < n) = true := by simp; omega
  go_enter Try.func3, Try.ntmps3
  go_wp2_with fail
  refine (awake_any _).mono ?_
  rintro e w1 ⟨rfl, hb1⟩
  have W1 := Lib.hid hb1
  clear hb1
  go_wp2_with fail
  refine (awake_any _).mono ?_
  rintro e w2 ⟨rfl, hb2⟩
  have W2 : Hid (Below w.heap.size w w2) := W1.out.trans (hb2.mono W1.out.size)
  clear hb2
  go_wp2_with fail
  go_ret
  exact ⟨rfl, W2.out⟩
set_option maxRecDepth 100000 in
set_option maxHeartbeats 4000000 in
theorem plays_none (x y z : Int) (A : Option Addr) (n c : Nat) (w : World) (hn : n ≤ 100) (hx : x < 1 ∨ 129 < x ∨ isz y = false ∨ isz z = false) :
    Calls Try.prog 3 #[.int .i64 x, .int .i64 y, .int .i64 z, .slice A n c] w fun e w' => e = .returned (.bool true) ∧ Below w.heap.size w w' := by
  have hd : decide ((100 : Int) < (n : Int)) = false := by simp; omega
  have hd' : decide (100 < n) = false := by simp; omega
  have HX := Lib.hid hx
  have hcase : decide (x < 1) = true ∨ (decide (x < 1) = false ∧ decide (129 < x) = true) ∨ (decide (x < 1) = false ∧ decide (129 < x) = false ∧ decide (y < 0) = true) ∨ (decide (x < 1) = false ∧ decide (129 < x) = false ∧ decide (y < 0) = false ∧ decide (1073741824 < y) = true) ∨ (decide (x < 1) = false ∧ decide (129 < x) = false ∧ decide (y < 0) = false ∧ decide (1073741824 < y) = false ∧ decide (z < 0) = true) ∨ (decide (x < 1) = false ∧ decide (129 < x) = false ∧ decide (y < 0) = false ∧ decide (1073741824 < y) = false ∧ decide (z < 0) = false ∧ decide (1073741824 < z) = true) := by
    simp [isz] at hx ⊢
    omega
  clear hx
  rcases hcase with e1 | ⟨e1, e2⟩ | ⟨e1, e2, e3⟩ | ⟨e1, e2, e3, e4⟩ | ⟨e1, e2, e3, e4, e5⟩ | ⟨e1, e2, e3, e4, e5, e6⟩
  all_goals
    go_enter Try.func3, Try.ntmps3
    go_wp2_with (first | (go_at_call 7; (with_reducible refine (awake_any _).mono ?_); rintro e w1 ⟨rfl, hb1⟩; have W1 := Lib.hid hb1; clear hb1) | (go_at_call 8; (with_reducible refine (newbad _ _ _ _ HX.out).mono ?_); rintro e w' ⟨rfl, rfl⟩) | (go_at_call 9; (with_reducible refine (bytes_nil _ _).mono ?_); rintro e w' ⟨rfl, rfl⟩) | (go_at_call 10; (with_reducible refine (fits_nil _ _ _).mono ?_); rintro e w' ⟨rfl, rfl⟩))
    go_ret
    exact ⟨rfl, W1.out⟩
end Go.Proofs.Ytgjicnjibhofkaa
