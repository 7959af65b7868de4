/- The walk of the law BluePlays: for any setup and any acts it returns true and turns nothing that was there. -/
import Derived.Test.YtedpikpknlaggaaPlaysBad
import Derived.Test.YtedpikpknlaggaaAloneWalk
namespace Go.Proofs.Ytedpikpknlaggaa
open Go.RowKit

set_option maxRecDepth 100000 in
set_option maxHeartbeats 8000000 in
theorem plays_good (x0 x1 x2 x3 x4 x5 : Int) (A : Option Addr) (n c : Nat) (K : Nat → Int) (P : Nat → Option Addr) (L C : Nat → Nat) (X : Nat → List Int) (N : Nat → Int) (w : World) (h : ActsIn w A n K P L C X N) (hf : fewB n L = true) (hg : Good x0 x1 x4 x5 x2 x3) :
    Calls Try.prog 3 #[.agg #[.int .i64 x0, .int .i64 x1, .int .i64 x2, .int .i64 x3, .int .i64 x4, .int .i64 x5], .slice A n c] w fun e w' => e = .returned (.bool true) ∧ Below w.heap.size w w' := by
  have B0 : Hid (Below w.heap.size w (w.alloc (setOf x0 x1 x2 x3 x4 x5))) := (Below.refl _ w).alloc (Nat.le_refl _) _
  have K0 : Hid (Blk (w.alloc (setOf x0 x1 x2 x3 x4 x5)) w.heap.size 23 [.int .i64 x0, .int .i64 x1, .int .i64 x2, .int .i64 x3, .int .i64 x4, .int .i64 x5]) := Blk.new w 23 _
  have HA := Lib.hid h
  obtain ⟨hn, hL⟩ := few_yes hf
  have HL := Lib.hid hL
  clear h hL
  have hGG := hg
  obtain ⟨h1, h2, h3, h4, h5, h6, h7⟩ := hg
  have HT := Lib.hid (fun W => tuned_ x4 x2 x3 W)
  rw [h7] at HT
  have hmb := may_bd h7
  obtain ⟨NN, rfl⟩ : ∃ k : Nat, x0 = k := ⟨x0.toNat, by omega⟩
  obtain ⟨M, rfl⟩ : ∃ k : Nat, x1 = k := ⟨x1.toNat, by omega⟩
  obtain ⟨T, rfl⟩ : ∃ k : Nat, x4 = k := ⟨x4.toNat, by omega⟩
  obtain ⟨H, rfl⟩ : ∃ k : Nat, x5 = k := ⟨x5.toNat, by omega⟩
  obtain ⟨U, rfl⟩ : ∃ k : Nat, x2 = k := ⟨x2.toNat, by omega⟩
  obtain ⟨D, rfl⟩ : ∃ k : Nat, x3 = k := ⟨x3.toNat, by omega⟩
  have HN := Lib.hid (fun W => new_good (NN : Nat) (M : Nat) (T : Nat) (H : Nat) (U : Nat) (D : Nat) W hGG)
  simp only [Int.toNat_natCast] at HN
  clear hGG h7
  have e1 : decide ((NN : Int) < 1) = false := by simp; omega
  have e2 : decide (4 < (NN : Int)) = false := by simp; omega
  have e3 : decide ((M : Int) < 1) = false := by simp; omega
  have e4 : decide (64 < (M : Int)) = false := by simp; omega
  have e5 : decide ((H : Int) < 0) = false := by simp
  have e6 : decide (4611686018427387903 < (H : Int)) = false := by simp; omega
  go_enter Try.func3, Try.ntmps3
  go_wp2_with fail
  refine (awake_any _).mono ?_
  rintro e w1 ⟨rfl, hb1⟩
  have W1 : Hid (Below w.heap.size w w1) := B0.out.trans (hb1.mono B0.out.size)
  have K1 := Lib.hid (K0.out.below (hb1.mono (Nat.le_refl _)))
  clear hb1
  go_wp2_with fail
  refine (few_ A n c K P L C X N w1 (by omega) (HA.out.below W1.out)).mono ?_
  rintro e w2 ⟨rfl, rfl⟩
  rw [hf]
  have k0 := K1.out.cell 0
  have k1 := K1.out.cell 1
  have k2 := K1.out.cell 2
  have k3 := K1.out.cell 3
  have k4 := K1.out.cell 4
  have k5 := K1.out.cell 5
  clear hf B0 K0
  go_upto_region 4 with (go_at_call 9; (with_reducible refine (HN.out _).mono ?_); rintro e w3 ⟨g, s, q, rfl, q1, q2, q3⟩; have H3 := Lib.hid q1; have A3 := Lib.hid q2; have B3 := Lib.hid q3; clear q1 q2 q3)
  have K3 := Lib.hid (K1.out.below B3.out)
  clear k0 k1 k2 k3 k4 k5
  have k0 := K3.out.cell 0
  have k1 := K3.out.cell 1
  have k2 := K3.out.cell 2
  have k3 := K3.out.cell 3
  have k4 := K3.out.cell 4
  have k5 := K3.out.cell 5
  have HD := Lib.hid (refNew_ NN M T H U D (NN : Nat) (M : Nat) (T : Nat) (H : Nat) (U : Nat) (D : Nat) w3 rfl rfl rfl rfl rfl rfl (by omega) (by omega) (by omega))
  go_upto_region 7 with (first | (go_at_call 10; (with_reducible refine (HT.out _).mono ?_); rintro e w' ⟨rfl, rfl⟩) | (go_at_call 13; (with_reducible refine HD.out.mono ?_); rintro e w4 ⟨⟨A4, c4, rfl, hd4⟩, hb4⟩; have D4 := Lib.hid hd4; have B4 := Lib.hid hb4; clear hd4 hb4))
  obtain ⟨hp5, hw5⟩ := pl_start (c4 := c4) (by omega) (by omega) H3.out A3.out B3.out D4.out B4.out
  have P5 := Lib.hid hp5
  have PW := Lib.hid hw5
  have HA1 := Lib.hid (HA.out.below W1.out)
  have hNN : 1 ≤ NN ∧ NN ≤ 4 := by omega
  have hMM : M ≤ 64 := by omega
  clear hp5 hw5 H3 A3 B3 D4 B4 HN HT HD K3 k0 k1 k2 k3 k4 k5 HA e1 e2 e3 e4 e5 e6 h5 h6 hmb h1 h2 h3 h4
  generalize w4.heap.size = dz at *
  generalize w4.alloc (dbox A4 NN c4 T H U D) = w5 at *
  go_wp2_with fail
  go_loopw [8, 9, 10, 11, 12, 13, 14, 108] (fun _ _ _ _ _ _ _ i w' => ∃ k : Nat, k ≤ n ∧ i = .int .i64 k ∧ ∃ V A' c', PlRel w1 g s q dz NN M V A' c' w') (fun _ _ _ _ _ _ _ i _ => n - (intOf i).toNat)
  case atStart => exact ⟨0, by omega, rfl, _, _, _, P5.out⟩
  case round =>
    clear P5
    obtain ⟨k, hk, rfl, V, A', c', hr⟩ := hrel
    have P6 := Lib.hid hr
    clear hr
    by_cases hlt : k < n
    · have hd1 : decide ((k : Int) < (n : Int)) = true := by simp; omega
      obtain ⟨a, rfl, ha⟩ := HA1.out k hlt
      have hLk := HL.out k hlt
      have Q6 := Lib.hid (ha.below P6.out.be)
      have I1 := Lib.hid ha.ints
      have HXB := Lib.hid ha.x
      clear ha
      generalize K k = K0 at *
      generalize P k = P0 at *
      generalize L k = L0 at *
      generalize C k = C0 at *
      generalize X k = X0 at *
      generalize N k = N0 at *
      have q0 := Q6.out.c0
      have q1 := Q6.out.c1
      have q2 := Q6.out.c2
      have hn0 := Q6.out.n0
      have hn1 := Q6.out.n1
      have hk0 := Q6.out.k0
      have hk1 := Q6.out.k1
      go_upto_region 11 with fail
      have Y7 : Hid (Below wr.heap.size wr (wr.alloc (.cells #[.int .u8 K0, .slice P0 L0 C0, .int .i64 N0] 40))) := (Below.refl _ wr).alloc (Nat.le_refl _) _
      have P7 : Hid (PlAct w1 g s q dz NN M V A' c' wr.heap.size (.int .u8 K0) (.slice P0 L0 C0) (.int .i64 N0) (wr.alloc (.cells #[.int .u8 K0, .slice P0 L0 C0, .int .i64 N0] 40))) := ⟨P6.out.below Y7.out, Blk.new wr 40 _⟩
      have HNB : Hid (¬ own NN g q wr.heap.size ∧ wr.heap.size ≠ dz) := P6.out.new _ (Nat.le_refl _)
      clear q0 q1 q2 P6 Q6 Y7
      generalize wr.heap.size = bx at *
      generalize wr.alloc (.cells #[.int .u8 K0, .slice P0 L0 C0, .int .i64 N0] 40) = w7 at *
      have HAP : Hid (Apart NN g q L0 P0) := Apart.below I1.out PW.out.lo PW.out.los
      have HII : Hid (∀ W, Below w1.heap.size w1 W → Ints W P0 L0 X0) := fun W hW => I1.out.below hW
      have hLm : L0 ≤ 1000000 := by omega
      have HFL := Lib.hid (refFlows_ (bp NN g q dz) A' NN M c' V.t V.h V.u V.d V.B P0 L0 C0 X0 w7 P7.out.rel.doc (HII.out _ P7.out.rel.be) hLm hNN)
      obtain ⟨c0, c1, c2, c3, c4'⟩ := P7.out.rel.cells
      have g1 := P7.out.act.cell 1
      go_upto_region 12 with (go_at_call 14; (with_reducible refine HFL.out.mono ?_); rintro e w8 ⟨rfl, hb8⟩; have P8 := Lib.hid (P7.out.below hb8); clear hb8)
      clear c0 c1 c2 c3 c4' g1 P7 HFL
      have g2 := P8.out.act.cell 2
      go_cut [12] from 119 to 126 (fun o wx => o = .bool (isz N0) ∧ w8 = wx)
      case first =>
        rcases f1 : decide (0 ≤ N0) with _ | _
        · have hz : isz N0 = false := by simp [isz, f1]
          go_wp2_with fail
          go_meet
          case rel => exact ⟨by rw [hz], rfl⟩
        · rcases f2 : decide (N0 ≤ 1073741824) with _ | _
          · have hz : isz N0 = false := by simp [isz, f1, f2]
            go_wp2_with fail
            go_meet
            case rel => exact ⟨by rw [hz], rfl⟩
          · have hz : isz N0 = true := by simp [isz, f1, f2]
            go_wp2_with fail
            go_meet
            case rel => exact ⟨by rw [hz], rfl⟩
      case rest =>
      obtain ⟨rfl, rfl⟩ := hcut
      have g0 := P8.out.act.cell 0
      have g1 := P8.out.act.cell 1
      obtain ⟨r, hr⟩ : ∃ r, K0 % 7 = r := ⟨_, rfl⟩
      have hr7 : 0 ≤ r ∧ r < 7 := by omega
      go_upto_region 13 with fail
      have VN := P8.out.rel.vn
      have VM := P8.out.rel.vm
      have HOK := Lib.hid P8.out.rel.at_.ok
      obtain ⟨mb, hmb⟩ : ∃ mb, isz N0 = mb := ⟨_, rfl⟩
      obtain ⟨fb, hfb⟩ : ∃ fb, flow NN M X0 = fb := ⟨_, rfl⟩
      have x := put_ g s q V P0 L0 C0 X0 N0 w8 P8.out.rel.at_ (HII.out _ P8.out.rel.be) hLm (VN ▸ HAP.out)
      rw [VN, VM, hmb, hfb] at x
      have HPUT := Lib.hid x
      clear x
      have x := take_ g s q V P0 L0 C0 X0 N0 w8 P8.out.rel.at_ (HII.out _ P8.out.rel.be) hLm (VN ▸ HAP.out)
      rw [VN, VM, hmb, hfb] at x
      have HTAKE := Lib.hid x
      clear x
      have x := bTouch_ g s q V P0 L0 C0 X0 N0 w8 P8.out.rel.at_ (HII.out _ P8.out.rel.be) hLm (VN ▸ HAP.out)
      rw [VN, VM, hfb] at x
      have HTOUCH := Lib.hid x
      clear x
      have x := clear_ g s q V w8 P8.out.rel.at_
      rw [VN] at x
      have HCLEAR := Lib.hid x
      clear x
      have HP0 : Hid ((mb && fb) = false → putV V X0 N0 = V ∧ takeV V X0 N0 = V) := fun h => ⟨putV_no (by rw [VN, VM, hmb, hfb]; exact h), takeV_no (by rw [VN, VM, hmb, hfb]; exact h)⟩
      rw [hmb, hfb]
      have HMB := Lib.hid hmb
      have HFB := Lib.hid hfb
      have HVN := Lib.hid VN
      have HVM := Lib.hid VM
      clear hmb hfb VN VM
      go_upto_block 2 with fail
      go_cut [10, 11, 13, 14, 129] from 130 to 221 (fun o i _ _ _ wx => ∃ (bo : Bool) (V2 : Blu) (A2 : Option Addr) (c2 : Nat), o = .bool bo ∧ i = .bool bo ∧ PlAct w1 g s q dz NN M V2 A2 c2 bx (.int .u8 K0) (.slice P0 L0 C0) (.int .i64 N0) wx)
      case first =>
        obtain ⟨d0, d1, d2, d3, d4⟩ := P8.out.rel.cells
        rcases (by omega : (r = 0 ∨ r = 1) ∨ r = 2 ∨ (r = 3 ∨ r = 4) ∨ r = 5 ∨ r = 6) with (rfl | rfl) | rfl | (rfl | rfl) | rfl | rfl
        · rcases mb with _ | _
          · rcases fb with _ | _
            · have e := (HP0.out rfl).1
              rw [e] at HPUT
              clear e
              go_wp2_with (go_at_call 11; (with_reducible refine HPUT.out.mono ?_); rintro e w9 ⟨rfl, h9, f9⟩; have M9 := Lib.hid (P8.out.mid PW.out HNB.out f9 h9); obtain ⟨c0, c1, c2, c3, c4'⟩ := M9.out.cells; have g1 := M9.out.act.cell 1; have g2 := M9.out.act.cell 2; clear h9 f9 d0 d1 d2 d3 d4)
              go_meet
              case rel => exact ⟨false, V, A', c', rfl, rfl, P8.out.still PW.out HNB.out.1 M9.out.far M9.out.at_⟩
            · have e := (HP0.out rfl).1
              rw [e] at HPUT
              clear e
              go_wp2_with (go_at_call 11; (with_reducible refine HPUT.out.mono ?_); rintro e w9 ⟨rfl, h9, f9⟩; have M9 := Lib.hid (P8.out.mid PW.out HNB.out f9 h9); obtain ⟨c0, c1, c2, c3, c4'⟩ := M9.out.cells; have g1 := M9.out.act.cell 1; have g2 := M9.out.act.cell 2; clear h9 f9 d0 d1 d2 d3 d4)
              go_meet
              case rel => exact ⟨false, V, A', c', rfl, rfl, P8.out.still PW.out HNB.out.1 M9.out.far M9.out.at_⟩
          · rcases fb with _ | _
            · have e := (HP0.out rfl).1
              rw [e] at HPUT
              clear e
              go_wp2_with (go_at_call 11; (with_reducible refine HPUT.out.mono ?_); rintro e w9 ⟨rfl, h9, f9⟩; have M9 := Lib.hid (P8.out.mid PW.out HNB.out f9 h9); obtain ⟨c0, c1, c2, c3, c4'⟩ := M9.out.cells; have g1 := M9.out.act.cell 1; have g2 := M9.out.act.cell 2; clear h9 f9 d0 d1 d2 d3 d4)
              go_meet
              case rel => exact ⟨false, V, A', c', rfl, rfl, P8.out.still PW.out HNB.out.1 M9.out.far M9.out.at_⟩
            · go_wp2_with (first | (go_at_call 11; (with_reducible refine HPUT.out.mono ?_); rintro e w9 ⟨rfl, h9, f9⟩; have M9 := Lib.hid (P8.out.mid PW.out HNB.out f9 h9); obtain ⟨c0, c1, c2, c3, c4'⟩ := M9.out.cells; have g1 := M9.out.act.cell 1; have g2 := M9.out.act.cell 2; clear h9 f9 d0 d1 d2 d3 d4) | (go_at_call 15; (with_reducible refine (refPut_ (bp NN g q dz) A' NN M c' V.t V.h V.u V.d V.B P0 L0 C0 X0 (N0) w9 M9.out.doc (HII.out _ M9.out.be) hLm hNN hMM M9.out.new HOK.out.B (by have := isz_bd HMB.out; omega)).mono ?_); rintro e w10 ⟨⟨A10, c10, rfl, hd10⟩, hb10⟩; have D10 := Lib.hid hd10; have B10 := Lib.hid hb10; obtain ⟨d0, d1, d2, d3, d4, f0, f1, f2, f3, f4⟩ := M9.out.after hb10; clear hd10 hb10))
              go_meet
              case rel => exact ⟨true, _, _, _, rfl, rfl, M9.out.put P8.out PW.out HNB.out D10.out B10.out (fun l i _ _ => eq_put HMB.out HFB.out HVN.out HVM.out l i) ((putV_n V X0 N0).1.trans HVN.out) ((putV_n V X0 N0).2.1.trans HVM.out) (putV_n V X0 N0).2.2⟩
        · rcases mb with _ | _
          · rcases fb with _ | _
            · have e := (HP0.out rfl).1
              rw [e] at HPUT
              clear e
              go_wp2_with (go_at_call 11; (with_reducible refine HPUT.out.mono ?_); rintro e w9 ⟨rfl, h9, f9⟩; have M9 := Lib.hid (P8.out.mid PW.out HNB.out f9 h9); obtain ⟨c0, c1, c2, c3, c4'⟩ := M9.out.cells; have g1 := M9.out.act.cell 1; have g2 := M9.out.act.cell 2; clear h9 f9 d0 d1 d2 d3 d4)
              go_meet
              case rel => exact ⟨false, V, A', c', rfl, rfl, P8.out.still PW.out HNB.out.1 M9.out.far M9.out.at_⟩
            · have e := (HP0.out rfl).1
              rw [e] at HPUT
              clear e
              go_wp2_with (go_at_call 11; (with_reducible refine HPUT.out.mono ?_); rintro e w9 ⟨rfl, h9, f9⟩; have M9 := Lib.hid (P8.out.mid PW.out HNB.out f9 h9); obtain ⟨c0, c1, c2, c3, c4'⟩ := M9.out.cells; have g1 := M9.out.act.cell 1; have g2 := M9.out.act.cell 2; clear h9 f9 d0 d1 d2 d3 d4)
              go_meet
              case rel => exact ⟨false, V, A', c', rfl, rfl, P8.out.still PW.out HNB.out.1 M9.out.far M9.out.at_⟩
          · rcases fb with _ | _
            · have e := (HP0.out rfl).1
              rw [e] at HPUT
              clear e
              go_wp2_with (go_at_call 11; (with_reducible refine HPUT.out.mono ?_); rintro e w9 ⟨rfl, h9, f9⟩; have M9 := Lib.hid (P8.out.mid PW.out HNB.out f9 h9); obtain ⟨c0, c1, c2, c3, c4'⟩ := M9.out.cells; have g1 := M9.out.act.cell 1; have g2 := M9.out.act.cell 2; clear h9 f9 d0 d1 d2 d3 d4)
              go_meet
              case rel => exact ⟨false, V, A', c', rfl, rfl, P8.out.still PW.out HNB.out.1 M9.out.far M9.out.at_⟩
            · go_wp2_with (first | (go_at_call 11; (with_reducible refine HPUT.out.mono ?_); rintro e w9 ⟨rfl, h9, f9⟩; have M9 := Lib.hid (P8.out.mid PW.out HNB.out f9 h9); obtain ⟨c0, c1, c2, c3, c4'⟩ := M9.out.cells; have g1 := M9.out.act.cell 1; have g2 := M9.out.act.cell 2; clear h9 f9 d0 d1 d2 d3 d4) | (go_at_call 15; (with_reducible refine (refPut_ (bp NN g q dz) A' NN M c' V.t V.h V.u V.d V.B P0 L0 C0 X0 (N0) w9 M9.out.doc (HII.out _ M9.out.be) hLm hNN hMM M9.out.new HOK.out.B (by have := isz_bd HMB.out; omega)).mono ?_); rintro e w10 ⟨⟨A10, c10, rfl, hd10⟩, hb10⟩; have D10 := Lib.hid hd10; have B10 := Lib.hid hb10; obtain ⟨d0, d1, d2, d3, d4, f0, f1, f2, f3, f4⟩ := M9.out.after hb10; clear hd10 hb10))
              go_meet
              case rel => exact ⟨true, _, _, _, rfl, rfl, M9.out.put P8.out PW.out HNB.out D10.out B10.out (fun l i _ _ => eq_put HMB.out HFB.out HVN.out HVM.out l i) ((putV_n V X0 N0).1.trans HVN.out) ((putV_n V X0 N0).2.1.trans HVM.out) (putV_n V X0 N0).2.2⟩
        · rcases mb with _ | _
          · rcases fb with _ | _
            · have e := (HP0.out rfl).2
              rw [e] at HTAKE
              clear e
              go_wp2_with (go_at_call 16; (with_reducible refine HTAKE.out.mono ?_); rintro e w9 ⟨rfl, h9, f9⟩; have M9 := Lib.hid (P8.out.mid PW.out HNB.out f9 h9); obtain ⟨c0, c1, c2, c3, c4'⟩ := M9.out.cells; have g1 := M9.out.act.cell 1; have g2 := M9.out.act.cell 2; clear h9 f9 d0 d1 d2 d3 d4)
              go_meet
              case rel => exact ⟨false, V, A', c', rfl, rfl, P8.out.still PW.out HNB.out.1 M9.out.far M9.out.at_⟩
            · have e := (HP0.out rfl).2
              rw [e] at HTAKE
              clear e
              go_wp2_with (go_at_call 16; (with_reducible refine HTAKE.out.mono ?_); rintro e w9 ⟨rfl, h9, f9⟩; have M9 := Lib.hid (P8.out.mid PW.out HNB.out f9 h9); obtain ⟨c0, c1, c2, c3, c4'⟩ := M9.out.cells; have g1 := M9.out.act.cell 1; have g2 := M9.out.act.cell 2; clear h9 f9 d0 d1 d2 d3 d4)
              go_meet
              case rel => exact ⟨false, V, A', c', rfl, rfl, P8.out.still PW.out HNB.out.1 M9.out.far M9.out.at_⟩
          · rcases fb with _ | _
            · have e := (HP0.out rfl).2
              rw [e] at HTAKE
              clear e
              go_wp2_with (go_at_call 16; (with_reducible refine HTAKE.out.mono ?_); rintro e w9 ⟨rfl, h9, f9⟩; have M9 := Lib.hid (P8.out.mid PW.out HNB.out f9 h9); obtain ⟨c0, c1, c2, c3, c4'⟩ := M9.out.cells; have g1 := M9.out.act.cell 1; have g2 := M9.out.act.cell 2; clear h9 f9 d0 d1 d2 d3 d4)
              go_meet
              case rel => exact ⟨false, V, A', c', rfl, rfl, P8.out.still PW.out HNB.out.1 M9.out.far M9.out.at_⟩
            · have HWZ : Hid (wrap64 (-N0) = -N0) := by
                have := isz_bd HMB.out
                show _ = _
                unfold wrap64
                omega
              go_wp2_with (first | (go_at_call 16; (with_reducible refine HTAKE.out.mono ?_); rintro e w9 ⟨rfl, h9, f9⟩; have M9 := Lib.hid (P8.out.mid PW.out HNB.out f9 h9); obtain ⟨c0, c1, c2, c3, c4'⟩ := M9.out.cells; have g1 := M9.out.act.cell 1; have g2 := M9.out.act.cell 2; clear h9 f9 d0 d1 d2 d3 d4) | (go_at_call 15; rw [HWZ.out]; (with_reducible refine (refPut_ (bp NN g q dz) A' NN M c' V.t V.h V.u V.d V.B P0 L0 C0 X0 (-N0) w9 M9.out.doc (HII.out _ M9.out.be) hLm hNN hMM M9.out.new HOK.out.B (by have := isz_bd HMB.out; omega)).mono ?_); rintro e w10 ⟨⟨A10, c10, rfl, hd10⟩, hb10⟩; have D10 := Lib.hid hd10; have B10 := Lib.hid hb10; obtain ⟨d0, d1, d2, d3, d4, f0, f1, f2, f3, f4⟩ := M9.out.after hb10; clear hd10 hb10))
              go_meet
              case rel => exact ⟨true, _, _, _, rfl, rfl, M9.out.put P8.out PW.out HNB.out D10.out B10.out (fun l i _ _ => eq_take HOK.out.B HMB.out HFB.out HVN.out HVM.out l i) ((takeV_n V X0 N0).1.trans HVN.out) ((takeV_n V X0 N0).2.1.trans HVM.out) (takeV_n V X0 N0).2.2⟩
        · go_wp2_with (first | (go_at_call 17; (with_reducible refine HTOUCH.out.mono ?_); rintro e w9 ⟨rfl, h9, f9⟩; have M9 := Lib.hid (P8.out.mid PW.out HNB.out f9 h9); obtain ⟨c0, c1, c2, c3, c4'⟩ := M9.out.cells; have g1 := M9.out.act.cell 1; have g2 := M9.out.act.cell 2; clear h9 f9 d0 d1 d2 d3 d4) | (go_at_call 18; (with_reducible refine (refTouch_ (bp NN g q dz) A' NN M c' V.t V.h V.u V.d V.B P0 L0 C0 X0 N0 w9 M9.out.doc (HII.out _ M9.out.be) hLm hNN hMM M9.out.new HOK.out.B HOK.out.h HOK.out.u HOK.out.d).mono ?_); rintro e w10 ⟨⟨A10, c10, rfl, hd10⟩, hb10⟩; have D10 := Lib.hid hd10; have B10 := Lib.hid hb10; obtain ⟨d0, d1, d2, d3, d4, f0, f1, f2, f3, f4⟩ := M9.out.after hb10; clear hd10 hb10))
          go_meet
          case rel => exact ⟨fb, _, _, _, rfl, rfl, M9.out.put P8.out PW.out HNB.out D10.out B10.out (fun l i _ _ => eq_touch HVN.out HVM.out l i) (touchV_B.2.1.trans HVN.out) (touchV_B.2.2.1.trans HVM.out) touchV_B.2.2.2⟩
        · go_wp2_with (first | (go_at_call 17; (with_reducible refine HTOUCH.out.mono ?_); rintro e w9 ⟨rfl, h9, f9⟩; have M9 := Lib.hid (P8.out.mid PW.out HNB.out f9 h9); obtain ⟨c0, c1, c2, c3, c4'⟩ := M9.out.cells; have g1 := M9.out.act.cell 1; have g2 := M9.out.act.cell 2; clear h9 f9 d0 d1 d2 d3 d4) | (go_at_call 18; (with_reducible refine (refTouch_ (bp NN g q dz) A' NN M c' V.t V.h V.u V.d V.B P0 L0 C0 X0 N0 w9 M9.out.doc (HII.out _ M9.out.be) hLm hNN hMM M9.out.new HOK.out.B HOK.out.h HOK.out.u HOK.out.d).mono ?_); rintro e w10 ⟨⟨A10, c10, rfl, hd10⟩, hb10⟩; have D10 := Lib.hid hd10; have B10 := Lib.hid hb10; obtain ⟨d0, d1, d2, d3, d4, f0, f1, f2, f3, f4⟩ := M9.out.after hb10; clear hd10 hb10))
          go_meet
          case rel => exact ⟨fb, _, _, _, rfl, rfl, M9.out.put P8.out PW.out HNB.out D10.out B10.out (fun l i _ _ => eq_touch HVN.out HVM.out l i) (touchV_B.2.1.trans HVN.out) (touchV_B.2.2.1.trans HVM.out) touchV_B.2.2.2⟩
        · go_wp2_with (first | (go_at_call 19; (with_reducible refine HCLEAR.out.mono ?_); rintro e w9 ⟨rfl, h9, f9⟩; have M9 := Lib.hid (P8.out.mid PW.out HNB.out f9 h9); obtain ⟨c0, c1, c2, c3, c4'⟩ := M9.out.cells; have g1 := M9.out.act.cell 1; have g2 := M9.out.act.cell 2; clear h9 f9 d0 d1 d2 d3 d4) | (go_at_call 20; (with_reducible refine (refClear_ (bp NN g q dz) A' NN M c' V.t V.h V.u V.d V.B w9 M9.out.doc hNN hMM M9.out.new).mono ?_); rintro e w10 ⟨⟨A10, c10, rfl, hd10⟩, hb10⟩; have D10 := Lib.hid hd10; have B10 := Lib.hid hb10; obtain ⟨d0, d1, d2, d3, d4, f0, f1, f2, f3, f4⟩ := M9.out.after hb10; clear hd10 hb10))
          go_meet
          case rel => exact ⟨true, clearV V, _, _, rfl, rfl, M9.out.put P8.out PW.out HNB.out D10.out B10.out (fun l i _ _ => rfl) HVN.out HVM.out ⟨rfl, rfl, rfl, rfl⟩⟩
        · have HQ8 := P8
          go_upto_if 133 with fail
          go_cut [13, 14, 133] from 134 to 141 (fun o i _ wx => ∃ up down : Int, o = .int .i64 up ∧ i = .int .i64 down ∧ PlAct w1 g s q dz NN M V A' c' bx (.int .u8 K0) (.slice P0 L0 C0) (.int .i64 N0) wx)
          case first =>
            by_cases hl : 1 < L0
            · have f1 : decide (1 < (L0 : Int)) = true := by simp; omega
              have f1' : decide (1 < L0) = true := by simpa using hl
              have hp0 : 0 < L0 := by omega
              have hp1 : ¬ L0 = 0 := by omega
              obtain ⟨ad, rfl, y0⟩ := (HII.out _ P8.out.rel.be).at_ (k := 0) (by omega)
              obtain ⟨ad', ha', y1⟩ := (HII.out _ P8.out.rel.be).at_ (k := 1) (by omega)
              cases ha'
              have HS9 : Hid (w8.drew.cell? ⟨bx, 1, none⟩ = some (.slice (some ad) L0 C0) ∧ w8.drew.cell? ad = some (.int .i64 (X0.getD 0 0)) ∧ w8.drew.cell? ⟨ad.block, ad.off + 1, none⟩ = some (.int .i64 (X0.getD 1 0))) := Lib.hid ⟨g1, by simpa [Addr.add] using y0, by simpa [Addr.add] using y1⟩
              have HQ : Hid (PlAct w1 g s q dz NN M V A' c' bx (.int .u8 K0) (.slice (some ad) L0 C0) (.int .i64 N0) w8.drew) := P8.out.below ⟨rfl, rfl, rfl, Nat.le_refl _, fun _ _ => rfl⟩
              clear y0 y1
              generalize X0.getD 0 0 = v0 at *
              generalize X0.getD 1 0 = v1 at *
              go_wp2_with fail
              refine wp_region_held_drew (S := fun W => W.cell? ⟨bx, 1, none⟩ = some (.slice (some ad) L0 C0) ∧ W.cell? ad = some (.int .i64 v0) ∧ W.cell? ⟨ad.block, ad.off + 1, none⟩ = some (.int .i64 v1)) (by kernel_rfl) ?_ (fun _ => ?_)
              · exact HS9.out
              refine wpAnyH_take (i := 0) (oi := ⟨some 134, _, _, _, _, _⟩) (v := ?_) rfl (by kernel_rfl) (by kernel_rfl) (by kernel_rfl) (fun _ _ _ h => h) (Or.inl ⟨by rfl, ?_⟩) HS9.out ?_
              rotate_left
              · (intro W hSW; clear hSW; go_simp)
                first | done | (with_reducible rfl)
              try simp only [Act.put, List.setIfInBounds_toArray, List.set_cons_zero, List.set_cons_succ]
              refine wpAnyH_take (i := 1) (oi := ⟨some 135, _, _, _, _, _⟩) (v := .slice (some ad) L0 C0) rfl (by kernel_rfl) (by kernel_rfl) (by kernel_rfl) (fun _ _ _ h => h) (Or.inl ⟨by rfl, ?_⟩) HS9.out ?_
              · (intro W hSW; have y0 := hSW.1; have y1 := hSW.2.1; have y2 := hSW.2.2; clear hSW; go_simp)
              try simp only [Act.put, List.setIfInBounds_toArray, List.set_cons_zero, List.set_cons_succ]
              refine wpAnyH_take (i := 2) (oi := ⟨some 136, _, _, _, _, _⟩) (v := .pointer (some ad)) rfl (by kernel_rfl) (by kernel_rfl) (by kernel_rfl) (fun _ _ _ h => h) (Or.inl ⟨by rfl, ?_⟩) HS9.out ?_
              · (intro W hSW; clear hSW; go_simp)
              try simp only [Act.put, List.setIfInBounds_toArray, List.set_cons_zero, List.set_cons_succ]
              refine wpAnyH_take (i := 3) (oi := ⟨some 137, _, _, _, _, _⟩) (v := .int .i64 v0) rfl (by kernel_rfl) (by kernel_rfl) (by kernel_rfl) (fun _ _ _ h => h) (Or.inl ⟨by rfl, ?_⟩) HS9.out ?_
              · (intro W hSW; have y0 := hSW.1; have y1 := hSW.2.1; have y2 := hSW.2.2; clear hSW; go_simp)
              try simp only [Act.put, List.setIfInBounds_toArray, List.set_cons_zero, List.set_cons_succ]
              refine wpAnyH_take (i := 4) (oi := ⟨some 138, _, _, _, _, _⟩) (v := ?_) rfl (by kernel_rfl) (by kernel_rfl) (by kernel_rfl) (fun _ _ _ h => h) (Or.inl ⟨by rfl, ?_⟩) HS9.out ?_
              rotate_left
              · (intro W hSW; clear hSW; go_simp)
                first | done | (with_reducible rfl)
              try simp only [Act.put, List.setIfInBounds_toArray, List.set_cons_zero, List.set_cons_succ]
              refine wpAnyH_take (i := 5) (oi := ⟨some 139, _, _, _, _, _⟩) (v := .slice (some ad) L0 C0) rfl (by kernel_rfl) (by kernel_rfl) (by kernel_rfl) (fun _ _ _ h => h) (Or.inl ⟨by rfl, ?_⟩) HS9.out ?_
              · (intro W hSW; have y0 := hSW.1; have y1 := hSW.2.1; have y2 := hSW.2.2; clear hSW; go_simp)
              try simp only [Act.put, List.setIfInBounds_toArray, List.set_cons_zero, List.set_cons_succ]
              refine wpAnyH_take (i := 6) (oi := ⟨some 140, _, _, _, _, _⟩) (v := .pointer (some ⟨ad.block, ad.off + 1, none⟩)) rfl (by kernel_rfl) (by kernel_rfl) (by kernel_rfl) (fun _ _ _ h => h) (Or.inl ⟨by rfl, ?_⟩) HS9.out ?_
              · (intro W hSW; clear hSW; go_simp)
              try simp only [Act.put, List.setIfInBounds_toArray, List.set_cons_zero, List.set_cons_succ]
              refine wpAnyH_take (i := 7) (oi := ⟨some 141, _, _, _, _, _⟩) (v := .int .i64 v1) rfl (by kernel_rfl) (by kernel_rfl) (by kernel_rfl) (fun _ _ _ h => h) (Or.inl ⟨by rfl, ?_⟩) HS9.out ?_
              · (intro W hSW; have y0 := hSW.1; have y1 := hSW.2.1; have y2 := hSW.2.2; clear hSW; go_simp)
              try simp only [Act.put, List.setIfInBounds_toArray, List.set_cons_zero, List.set_cons_succ]
              refine wpAnyH_take (i := 8) (oi := ⟨some 13, _, _, _, _, _⟩) (v := ?_) rfl (by kernel_rfl) (by kernel_rfl) (by kernel_rfl) (fun _ _ _ h => h) (Or.inl ⟨by rfl, ?_⟩) HS9.out ?_
              rotate_left
              · (intro W hSW; clear hSW; go_simp)
                first | done | (with_reducible rfl)
              try simp only [Act.put, List.setIfInBounds_toArray, List.set_cons_zero, List.set_cons_succ]
              refine wpAnyH_take (i := 9) (oi := ⟨some 14, _, _, _, _, _⟩) (v := ?_) rfl (by kernel_rfl) (by kernel_rfl) (by kernel_rfl) (fun _ _ _ h => h) (Or.inl ⟨by rfl, ?_⟩) HS9.out ?_
              rotate_left
              · (intro W hSW; clear hSW; go_simp)
                first | done | (with_reducible rfl)
              try simp only [Act.put, List.setIfInBounds_toArray, List.set_cons_zero, List.set_cons_succ]
              refine wpAnyH_done (by kernel_rfl) ?_ _
              go_wp2_with fail
              go_meet
              case rel => exact ⟨_, _, rfl, rfl, HQ.out⟩
            · have f1 : decide (1 < (L0 : Int)) = false := by simp; omega
              have f1' : decide (1 < L0) = false := by simpa using hl
              go_wp2_with fail
              go_meet
              case rel => exact ⟨0, 0, rfl, rfl, P8.out⟩
          case rest =>
          obtain ⟨up, down, rfl, rfl, hq7⟩ := hcut
          obtain ⟨w7, hw7⟩ : ∃ z, z = wc := ⟨_, rfl⟩
          subst hw7
          have Q7 := Lib.hid hq7
          clear hq7 d0 d1 d2 d3 d4 g0 g1 g2 HQ8
          have g2 := Q7.out.act.cell 2
          go_wp2_with fail
          refine wp_region_held_drew (S := fun W => W.cell? ⟨bx, 2, none⟩ = some (.int .i64 N0)) (by kernel_rfl) ?_ (fun _ => ?_)
          · exact (g2 : w7.drew.cell? ⟨bx, 2, none⟩ = some (.int .i64 N0))
          have HS0 : Hid (w7.drew.cell? ⟨bx, 2, none⟩ = some (.int .i64 N0)) := Lib.hid g2
          refine wpAnyH_take (i := 0) (oi := ⟨some 142, _, _, _, _, _⟩) (v := ?_) rfl (by kernel_rfl) (by kernel_rfl) (by kernel_rfl) (fun _ _ _ h => h) (Or.inl ⟨by rfl, ?_⟩) HS0.out ?_
          rotate_left
          · (intro W hSW; clear hSW; go_simp)
            first | done | (with_reducible rfl)
          try simp only [Act.put, List.setIfInBounds_toArray, List.set_cons_zero, List.set_cons_succ]
          refine wpAnyH_take (i := 1) (oi := ⟨some 143, _, _, _, _, _⟩) (v := ?_) rfl (by kernel_rfl) (by kernel_rfl) (by kernel_rfl) (fun _ _ _ h => h) (Or.inl ⟨by rfl, ?_⟩) HS0.out ?_
          rotate_left
          · (intro W hSW; clear hSW; go_simp)
            first | done | (with_reducible rfl)
          try simp only [Act.put, List.setIfInBounds_toArray, List.set_cons_zero, List.set_cons_succ]
          refine wpAnyH_take (i := 2) (oi := ⟨some 144, _, _, _, _, _⟩) (v := .int .i64 N0) rfl (by kernel_rfl) (by kernel_rfl) (by kernel_rfl) (fun _ _ _ h => h) (Or.inl ⟨by rfl, ?_⟩) HS0.out ?_
          · (intro W hSW; have g2 := hSW; clear hSW; go_simp)
          try simp only [Act.put, List.setIfInBounds_toArray, List.set_cons_zero, List.set_cons_succ]
          refine wpAnyH_take (i := 3) (oi := ⟨some 145, _, _, _, _, _⟩) (v := ?_) rfl (by kernel_rfl) (by kernel_rfl) (by kernel_rfl) (fun _ _ _ h => h) (Or.inl ⟨by rfl, ?_⟩) HS0.out ?_
          rotate_left
          · (intro W hSW; clear hSW; go_simp)
            first | done | (with_reducible rfl)
          try simp only [Act.put, List.setIfInBounds_toArray, List.set_cons_zero, List.set_cons_succ]
          refine wpAnyH_take (i := 4) (oi := ⟨some 146, _, _, _, _, _⟩) (v := ?_) rfl (by kernel_rfl) (by kernel_rfl) (by kernel_rfl) (fun _ _ _ h => h) (Or.inl ⟨by rfl, ?_⟩) HS0.out ?_
          rotate_left
          · (intro W hSW; clear hSW; go_simp)
            first | done | (with_reducible rfl)
          try simp only [Act.put, List.setIfInBounds_toArray, List.set_cons_zero, List.set_cons_succ]
          refine wpAnyH_take (i := 6) (oi := ⟨some 148, _, _, _, _, _⟩) (v := ?_) rfl (by kernel_rfl) (by kernel_rfl) (by kernel_rfl) (fun _ _ _ h => h) (Or.inl ⟨by rfl, ?_⟩) HS0.out ?_
          rotate_left
          · (intro W hSW; clear hSW; go_simp)
            first | done | (with_reducible rfl)
          try simp only [Act.put, List.setIfInBounds_toArray, List.set_cons_zero, List.set_cons_succ]
          refine wpAnyH_take (i := 7) (oi := ⟨some 149, _, _, _, _, _⟩) (v := .int .i64 N0) rfl (by kernel_rfl) (by kernel_rfl) (by kernel_rfl) (fun _ _ _ h => h) (Or.inl ⟨by rfl, ?_⟩) HS0.out ?_
          · (intro W hSW; have g2 := hSW; clear hSW; go_simp)
          try simp only [Act.put, List.setIfInBounds_toArray, List.set_cons_zero, List.set_cons_succ]
          refine wpAnyH_take (i := 8) (oi := ⟨some 150, _, _, _, _, _⟩) (v := ?_) rfl (by kernel_rfl) (by kernel_rfl) (by kernel_rfl) (fun _ _ _ h => h) (Or.inl ⟨by rfl, ?_⟩) HS0.out ?_
          rotate_left
          · (intro W hSW; clear hSW; go_simp)
            first | done | (with_reducible rfl)
          try simp only [Act.put, List.setIfInBounds_toArray, List.set_cons_zero, List.set_cons_succ]
          refine wpAnyH_take (i := 9) (oi := ⟨some 151, _, _, _, _, _⟩) (v := ?_) rfl (by kernel_rfl) (by kernel_rfl) (by kernel_rfl) (fun _ _ _ h => h) (Or.inl ⟨by rfl, ?_⟩) HS0.out ?_
          rotate_left
          · (intro W hSW; clear hSW; go_simp)
            first | done | (with_reducible rfl)
          try simp only [Act.put, List.setIfInBounds_toArray, List.set_cons_zero, List.set_cons_succ]
          refine wpAnyH_ready (rs := [5]) (by kernel_rfl) (by simp) ?_
          refine AllReadyH.cons (o := ⟨some 147, _, _, _, _, _⟩) rfl (fun K hK => ?_) AllReadyH.nil
          go_simp
          refine (tune_ g s q V N0 up down w7.drew Q7.out.rel.at_.drew).mono ?_
          rintro e x1 ⟨rfl, h9, f9⟩
          have M9 := Lib.hid (Q7.out.mid PW.out HNB.out (HVN.out ▸ far_undrew f9) h9)
          have HS1 : Hid (x1.cell? ⟨bx, 2, none⟩ = some (.int .i64 N0)) := Lib.hid (M9.out.act.cell 2)
          clear h9 f9
          go_simp
          refine hK.out _ _ ?_ (fun _ => ?_)
          · exact HS1.out
          clear hK K
          try simp only [Act.put, List.setIfInBounds_toArray, List.set_cons_zero, List.set_cons_succ]
          refine wpAnyH_ready (rs := [10]) (by kernel_rfl) (by simp) ?_
          refine AllReadyH.cons (o := ⟨some 152, _, _, _, _, _⟩) rfl (fun K hK => ?_) AllReadyH.nil
          go_simp
          refine (tuned_ N0 up down x1).mono ?_
          rintro e x2 ⟨rfl, rfl⟩
          have HS2 : Hid (x1.cell? ⟨bx, 2, none⟩ = some (.int .i64 N0)) := HS1
          clear HS0
          go_simp
          refine hK.out _ _ ?_ (fun _ => ?_)
          · exact HS2.out
          clear hK K
          try simp only [Act.put, List.setIfInBounds_toArray, List.set_cons_zero, List.set_cons_succ]
          refine wpAnyH_take (i := 11) (oi := ⟨some 10, _, _, _, _, _⟩) (v := ?_) rfl (by kernel_rfl) (by kernel_rfl) (by kernel_rfl) (fun _ _ _ h => h) (Or.inl ⟨by rfl, ?_⟩) HS2.out ?_
          rotate_left
          · (intro W hSW; clear hSW; go_simp)
            first | done | (with_reducible rfl)
          try simp only [Act.put, List.setIfInBounds_toArray, List.set_cons_zero, List.set_cons_succ]
          refine wpAnyH_take (i := 12) (oi := ⟨some 11, _, _, _, _, _⟩) (v := ?_) rfl (by kernel_rfl) (by kernel_rfl) (by kernel_rfl) (fun _ _ _ h => h) (Or.inl ⟨by rfl, ?_⟩) HS2.out ?_
          rotate_left
          · (intro W hSW; clear hSW; go_simp)
            first | done | (with_reducible rfl)
          try simp only [Act.put, List.setIfInBounds_toArray, List.set_cons_zero, List.set_cons_succ]
          refine wpAnyH_done (by kernel_rfl) ?_ _
          obtain ⟨tm, htm⟩ : ∃ tm, may N0 up down = tm := ⟨_, rfl⟩
          rw [htm]
          have HTM := Lib.hid htm
          clear htm
          rcases tm with _ | _
          · have e : tuneV V N0 up down = V := by unfold tuneV; rw [if_neg (by rw [HTM.out]; simp)]
            rw [e] at M9
            go_wp2_with fail
            go_meet
            case rel => exact ⟨false, V, A', c', rfl, rfl, Q7.out.still PW.out HNB.out.1 M9.out.far M9.out.at_⟩
          · have e : tuneV V N0 up down = { V with t := N0.toNat, u := up.toNat, d := down.toNat } := by unfold tuneV; rw [if_pos HTM.out]
            rw [e] at M9
            clear e
            have hmm := may_bd HTM.out
            obtain ⟨tq, rfl⟩ : ∃ j : Nat, N0 = j := ⟨N0.toNat, by omega⟩
            obtain ⟨uq, rfl⟩ : ∃ j : Nat, up = j := ⟨up.toNat, by omega⟩
            obtain ⟨dq, rfl⟩ : ∃ j : Nat, down = j := ⟨down.toNat, by omega⟩
            simp only [Int.toNat_natCast] at M9
            have HT9 := Lib.hid (M9.out.tuned PW.out HNB.out HVN.out HVM.out)
            have j2 := M9.out.act.cell 2
            obtain ⟨c0, c1, c2, c3, c4', f0, f1, f2, f3, f4⟩ := M9.out.after (Below.refl _ _)
            go_wp2_with fail
            go_meet
            case rel => exact ⟨true, _, A', c', rfl, rfl, HT9.out⟩
      case rest =>
      obtain ⟨bo, V2, A2, c2, rfl, rfl, hr9⟩ := hcut
      have P9 := Lib.hid hr9
      clear hr9 HPUT HTAKE HTOUCH HCLEAR HP0 P8 g0 g1 g2
      have VN := P9.out.rel.vn
      have VM := P9.out.rel.vm
      have x := mark_ g s q V2 P0 L0 C0 X0 wc.drew P9.out.rel.at_.drew (HII.out _ P9.out.rel.be).drew hLm
      have HRM := Lib.hid (fun W hd hi => refMark_ (bp NN g q dz) A2 NN M c2 V2.t V2.h V2.u V2.d V2.B P0 L0 C0 X0 W hd hi hLm hNN P9.out.rel.at_.ok.B)
      have e : markV V2 X0 = if flow NN M X0 then mk V2.B X0 NN else 0 := by unfold markV; rw [VN, VM]
      rw [e] at x
      have HMK := Lib.hid x
      clear x e
      have HSM := Lib.hid (fun W ha (hd : DocAt (bp NN g q dz) W A2 NN M V2.B) => same_ (bp NN g q dz) g s q V2 A2 c2 W ha (by rw [VN, VM]; exact hd))
      rw [VN] at HSM
      generalize (if flow NN M X0 then mk V2.B X0 NN else 0) = mm at *
      have HS0 : Hid (wc.drew.cell? ⟨bx, 1, none⟩ = some (.slice P0 L0 C0) ∧ wc.drew.cell? ⟨dz, 0, none⟩ = some (.slice A2 NN c2) ∧ wc.drew.cell? ⟨dz, 1, none⟩ = some (.int .i64 (V2.t : Nat)) ∧ wc.drew.cell? ⟨dz, 2, none⟩ = some (.int .i64 (V2.h : Nat)) ∧ wc.drew.cell? ⟨dz, 3, none⟩ = some (.int .i64 (V2.u : Nat)) ∧ wc.drew.cell? ⟨dz, 4, none⟩ = some (.int .i64 (V2.d : Nat))) := Lib.hid ⟨P9.out.act.cell 1, P9.out.rel.cells⟩
      clear VN VM
      go_wp2_with fail
      refine wp_region_held_drew (S := fun W => W.cell? ⟨bx, 1, none⟩ = some (.slice P0 L0 C0) ∧ W.cell? ⟨dz, 0, none⟩ = some (.slice A2 NN c2) ∧ W.cell? ⟨dz, 1, none⟩ = some (.int .i64 (V2.t : Nat)) ∧ W.cell? ⟨dz, 2, none⟩ = some (.int .i64 (V2.h : Nat)) ∧ W.cell? ⟨dz, 3, none⟩ = some (.int .i64 (V2.u : Nat)) ∧ W.cell? ⟨dz, 4, none⟩ = some (.int .i64 (V2.d : Nat))) (by kernel_rfl) ?_ (fun _ => ?_)
      · exact HS0.out
      refine wpAnyH_take (i := 0) (oi := ⟨some 222, _, _, _, _, _⟩) (v := ?_) rfl (by kernel_rfl) (by kernel_rfl) (by kernel_rfl) (fun _ _ _ h => h) (Or.inl ⟨by rfl, ?_⟩) HS0.out ?_
      rotate_left
      · (intro W hSW; clear hSW; go_simp)
        first | done | (with_reducible rfl)
      try simp only [Act.put, List.setIfInBounds_toArray, List.set_cons_zero, List.set_cons_succ]
      refine wpAnyH_take (i := 1) (oi := ⟨some 223, _, _, _, _, _⟩) (v := ?_) rfl (by kernel_rfl) (by kernel_rfl) (by kernel_rfl) (fun _ _ _ h => h) (Or.inl ⟨by rfl, ?_⟩) HS0.out ?_
      rotate_left
      · (intro W hSW; clear hSW; go_simp)
        first | done | (with_reducible rfl)
      try simp only [Act.put, List.setIfInBounds_toArray, List.set_cons_zero, List.set_cons_succ]
      refine wpAnyH_take (i := 2) (oi := ⟨some 224, _, _, _, _, _⟩) (v := .bool false) rfl (by kernel_rfl) (by kernel_rfl) (by kernel_rfl) (fun _ _ _ h => h) (Or.inl ⟨by rfl, ?_⟩) HS0.out ?_
      · (intro W hSW; clear hSW; go_simp)
      try simp only [Act.put, List.setIfInBounds_toArray, List.set_cons_zero, List.set_cons_succ]
      refine wpAnyH_take (i := 3) (oi := ⟨some 225, _, _, _, _, _⟩) (v := ?_) rfl (by kernel_rfl) (by kernel_rfl) (by kernel_rfl) (fun _ _ _ h => h) (Or.inl ⟨by rfl, ?_⟩) HS0.out ?_
      rotate_left
      · (intro W hSW; clear hSW; go_simp)
        first | done | (with_reducible rfl)
      try simp only [Act.put, List.setIfInBounds_toArray, List.set_cons_zero, List.set_cons_succ]
      refine wpAnyH_take (i := 4) (oi := ⟨some 226, _, _, _, _, _⟩) (v := ?_) rfl (by kernel_rfl) (by kernel_rfl) (by kernel_rfl) (fun _ _ _ h => h) (Or.inl ⟨by rfl, ?_⟩) HS0.out ?_
      rotate_left
      · (intro W hSW; clear hSW; go_simp)
        first | done | (with_reducible rfl)
      try simp only [Act.put, List.setIfInBounds_toArray, List.set_cons_zero, List.set_cons_succ]
      refine wpAnyH_take (i := 5) (oi := ⟨some 227, _, _, _, _, _⟩) (v := ?_) rfl (by kernel_rfl) (by kernel_rfl) (by kernel_rfl) (fun _ _ _ h => h) (Or.inl ⟨by rfl, ?_⟩) HS0.out ?_
      rotate_left
      · (intro W hSW; clear hSW; go_simp)
        first | done | (with_reducible rfl)
      try simp only [Act.put, List.setIfInBounds_toArray, List.set_cons_zero, List.set_cons_succ]
      refine wpAnyH_take (i := 6) (oi := ⟨some 228, _, _, _, _, _⟩) (v := .slice P0 L0 C0) rfl (by kernel_rfl) (by kernel_rfl) (by kernel_rfl) (fun _ _ _ h => h) (Or.inl ⟨by rfl, ?_⟩) HS0.out ?_
      · (intro W hSW; have g1 := hSW.1; have c0 := hSW.2.1; have c1 := hSW.2.2.1; have c2' := hSW.2.2.2.1; have c3 := hSW.2.2.2.2.1; have c4' := hSW.2.2.2.2.2; clear hSW; go_simp)
      try simp only [Act.put, List.setIfInBounds_toArray, List.set_cons_zero, List.set_cons_succ]
      refine wpAnyH_take (i := 8) (oi := ⟨some 230, _, _, _, _, _⟩) (v := dval A2 NN c2 V2.t V2.h V2.u V2.d) rfl (by kernel_rfl) (by kernel_rfl) (by kernel_rfl) (fun _ _ _ h => h) (Or.inl ⟨by rfl, ?_⟩) HS0.out ?_
      · (intro W hSW; have g1 := hSW.1; have c0 := hSW.2.1; have c1 := hSW.2.2.1; have c2' := hSW.2.2.2.1; have c3 := hSW.2.2.2.2.1; have c4' := hSW.2.2.2.2.2; clear hSW; go_simp)
      try simp only [Act.put, List.setIfInBounds_toArray, List.set_cons_zero, List.set_cons_succ]
      refine wpAnyH_take (i := 9) (oi := ⟨some 231, _, _, _, _, _⟩) (v := ?_) rfl (by kernel_rfl) (by kernel_rfl) (by kernel_rfl) (fun _ _ _ h => h) (Or.inl ⟨by rfl, ?_⟩) HS0.out ?_
      rotate_left
      · (intro W hSW; clear hSW; go_simp)
        first | done | (with_reducible rfl)
      try simp only [Act.put, List.setIfInBounds_toArray, List.set_cons_zero, List.set_cons_succ]
      refine wpAnyH_take (i := 10) (oi := ⟨some 232, _, _, _, _, _⟩) (v := .slice P0 L0 C0) rfl (by kernel_rfl) (by kernel_rfl) (by kernel_rfl) (fun _ _ _ h => h) (Or.inl ⟨by rfl, ?_⟩) HS0.out ?_
      · (intro W hSW; have g1 := hSW.1; have c0 := hSW.2.1; have c1 := hSW.2.2.1; have c2' := hSW.2.2.2.1; have c3 := hSW.2.2.2.2.1; have c4' := hSW.2.2.2.2.2; clear hSW; go_simp)
      try simp only [Act.put, List.setIfInBounds_toArray, List.set_cons_zero, List.set_cons_succ]
      refine wpAnyH_ready (rs := [7]) (by kernel_rfl) (by simp) ?_
      refine AllReadyH.cons (o := ⟨some 229, _, _, _, _, _⟩) rfl (fun K hK => ?_) AllReadyH.nil
      go_simp
      refine (HMK.out).mono ?_
      rintro e x1 ⟨rfl, hb⟩
      have P10 := Lib.hid (P9.out.below (below_drew_ hb))
      have HS1 : Hid (x1.cell? ⟨bx, 1, none⟩ = some (.slice P0 L0 C0) ∧ x1.cell? ⟨dz, 0, none⟩ = some (.slice A2 NN c2) ∧ x1.cell? ⟨dz, 1, none⟩ = some (.int .i64 (V2.t : Nat)) ∧ x1.cell? ⟨dz, 2, none⟩ = some (.int .i64 (V2.h : Nat)) ∧ x1.cell? ⟨dz, 3, none⟩ = some (.int .i64 (V2.u : Nat)) ∧ x1.cell? ⟨dz, 4, none⟩ = some (.int .i64 (V2.d : Nat))) := Lib.hid ⟨P10.out.act.cell 1, P10.out.rel.cells⟩
      clear hb
      go_simp
      refine hK.out _ _ ?_ (fun _ => ?_)
      · exact HS1.out
      clear hK K
      try simp only [Act.put, List.setIfInBounds_toArray, List.set_cons_zero, List.set_cons_succ]
      refine wpAnyH_ready (rs := [11]) (by kernel_rfl) (by simp) ?_
      refine AllReadyH.cons (o := ⟨some 233, _, _, _, _, _⟩) rfl (fun K hK => ?_) AllReadyH.nil
      go_simp
      refine (HRM.out x1 P10.out.rel.doc (HII.out _ P10.out.rel.be)).mono ?_
      rintro e x2 ⟨rfl, hb⟩
      have P11 := Lib.hid (P10.out.below hb)
      have HS2 : Hid (x2.cell? ⟨bx, 1, none⟩ = some (.slice P0 L0 C0) ∧ x2.cell? ⟨dz, 0, none⟩ = some (.slice A2 NN c2) ∧ x2.cell? ⟨dz, 1, none⟩ = some (.int .i64 (V2.t : Nat)) ∧ x2.cell? ⟨dz, 2, none⟩ = some (.int .i64 (V2.h : Nat)) ∧ x2.cell? ⟨dz, 3, none⟩ = some (.int .i64 (V2.u : Nat)) ∧ x2.cell? ⟨dz, 4, none⟩ = some (.int .i64 (V2.d : Nat))) := Lib.hid ⟨P11.out.act.cell 1, P11.out.rel.cells⟩
      clear hb
      go_simp
      refine hK.out _ _ ?_ (fun _ => ?_)
      · exact HS2.out
      clear hK K
      try simp only [Act.put, List.setIfInBounds_toArray, List.set_cons_zero, List.set_cons_succ]
      refine wpAnyH_take (i := 12) (oi := ⟨some 234, _, _, _, _, _⟩) (v := .bool false) rfl (by kernel_rfl) (by kernel_rfl) (by kernel_rfl) (fun _ _ _ h => h) (Or.inl ⟨by rfl, ?_⟩) HS2.out ?_
      · (intro W hSW; clear hSW; go_simp)
      try simp only [Act.put, List.setIfInBounds_toArray, List.set_cons_zero, List.set_cons_succ]
      refine wpAnyH_take (i := 13) (oi := ⟨some 235, _, _, _, _, _⟩) (v := ?_) rfl (by kernel_rfl) (by kernel_rfl) (by kernel_rfl) (fun _ _ _ h => h) (Or.inl ⟨by rfl, ?_⟩) HS2.out ?_
      rotate_left
      · (intro W hSW; clear hSW; go_simp)
        first | done | (with_reducible rfl)
      try simp only [Act.put, List.setIfInBounds_toArray, List.set_cons_zero, List.set_cons_succ]
      refine wpAnyH_take (i := 14) (oi := ⟨some 236, _, _, _, _, _⟩) (v := ?_) rfl (by kernel_rfl) (by kernel_rfl) (by kernel_rfl) (fun _ _ _ h => h) (Or.inl ⟨by rfl, ?_⟩) HS2.out ?_
      rotate_left
      · (intro W hSW; clear hSW; go_simp)
        first | done | (with_reducible rfl)
      try simp only [Act.put, List.setIfInBounds_toArray, List.set_cons_zero, List.set_cons_succ]
      refine wpAnyH_take (i := 15) (oi := ⟨some 237, _, _, _, _, _⟩) (v := ?_) rfl (by kernel_rfl) (by kernel_rfl) (by kernel_rfl) (fun _ _ _ h => h) (Or.inl ⟨by rfl, ?_⟩) HS2.out ?_
      rotate_left
      · (intro W hSW; clear hSW; go_simp)
        first | done | (with_reducible rfl)
      try simp only [Act.put, List.setIfInBounds_toArray, List.set_cons_zero, List.set_cons_succ]
      refine wpAnyH_take (i := 16) (oi := ⟨some 238, _, _, _, _, _⟩) (v := dval A2 NN c2 V2.t V2.h V2.u V2.d) rfl (by kernel_rfl) (by kernel_rfl) (by kernel_rfl) (fun _ _ _ h => h) (Or.inl ⟨by rfl, ?_⟩) HS2.out ?_
      · (intro W hSW; have g1 := hSW.1; have c0 := hSW.2.1; have c1 := hSW.2.2.1; have c2' := hSW.2.2.2.1; have c3 := hSW.2.2.2.2.1; have c4' := hSW.2.2.2.2.2; clear hSW; go_simp)
      try simp only [Act.put, List.setIfInBounds_toArray, List.set_cons_zero, List.set_cons_succ]
      refine wpAnyH_ready (rs := [17]) (by kernel_rfl) (by simp) ?_
      refine AllReadyH.cons (o := ⟨some 239, _, _, _, _, _⟩) rfl (fun K hK => ?_) AllReadyH.nil
      go_simp
      refine (HSM.out x2 P11.out.rel.at_ P11.out.rel.doc).mono ?_
      rintro e x3 ⟨rfl, hb⟩
      have P12 := Lib.hid (P11.out.below hb)
      have HS3 : Hid (x3.cell? ⟨bx, 1, none⟩ = some (.slice P0 L0 C0) ∧ x3.cell? ⟨dz, 0, none⟩ = some (.slice A2 NN c2) ∧ x3.cell? ⟨dz, 1, none⟩ = some (.int .i64 (V2.t : Nat)) ∧ x3.cell? ⟨dz, 2, none⟩ = some (.int .i64 (V2.h : Nat)) ∧ x3.cell? ⟨dz, 3, none⟩ = some (.int .i64 (V2.u : Nat)) ∧ x3.cell? ⟨dz, 4, none⟩ = some (.int .i64 (V2.d : Nat))) := Lib.hid ⟨P12.out.act.cell 1, P12.out.rel.cells⟩
      clear hb
      go_simp
      refine hK.out _ _ ?_ (fun _ => ?_)
      · exact HS3.out
      clear hK K
      try simp only [Act.put, List.setIfInBounds_toArray, List.set_cons_zero, List.set_cons_succ]
      refine wpAnyH_take (i := 18) (oi := ⟨some 240, _, _, _, _, _⟩) (v := ?_) rfl (by kernel_rfl) (by kernel_rfl) (by kernel_rfl) (fun _ _ _ h => h) (Or.inl ⟨by rfl, ?_⟩) HS3.out ?_
      rotate_left
      · (intro W hSW; clear hSW; go_simp)
        first | done | (with_reducible rfl)
      try simp only [Act.put, List.setIfInBounds_toArray, List.set_cons_zero, List.set_cons_succ]
      refine wpAnyH_take (i := 19) (oi := ⟨some 241, _, _, _, _, _⟩) (v := ?_) rfl (by kernel_rfl) (by kernel_rfl) (by kernel_rfl) (fun _ _ _ h => h) (Or.inl ⟨by rfl, ?_⟩) HS3.out ?_
      rotate_left
      · (intro W hSW; clear hSW; go_simp)
        first | done | (with_reducible rfl)
      try simp only [Act.put, List.setIfInBounds_toArray, List.set_cons_zero, List.set_cons_succ]
      refine wpAnyH_done (by kernel_rfl) ?_ _
      go_wp2_with fail
      go_roundw
      case rel => exact ⟨k + 1, by omega, by go_num, V2, A2, c2, P12.out.rel⟩
      case measure => simp [intOf]; omega
    · obtain rfl : k = n := by omega
      have hd1 : decide ((k : Int) < (k : Int)) = false := by simp
      go_wp2_with fail
      go_ret
      exact ⟨rfl, W1.out.trans (P6.out.be.mono W1.out.size)⟩
end Go.Proofs.Ytedpikpknlaggaa
