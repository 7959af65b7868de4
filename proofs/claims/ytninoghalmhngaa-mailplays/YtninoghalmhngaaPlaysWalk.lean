/- The walk of the law MailPlays: for any room, acts and numbers it returns true and turns nothing that was there. -/
import Derived.Test.YtninoghalmhngaaTails
import Derived.Deep.CutBlock
namespace Go.Proofs.Ytninoghalmhngaa
open Go.RowKit

/-- Where the loop stands: the box and the list w (the slice v) hold the same numbers. -/
def PlaysRel (w : World) (g c r : Nat) (zs : List Int) (v : Value) (w' : World) : Prop :=
  BoxAt w' g c r (fun k => old w k ∨ v.ownBlock = some k) zs ∧ TailAt w' w.heap.size v zs.length zs ∧ Below w.heap.size w w'

/-- What came in: acts and numbers. -/
def PlaysArgs (w : World) (A B : Option Addr) (n : Nat) (X Y : Nat → Int) : Prop :=
  ∀ k, k < n → ∃ a b : Addr, A = some a ∧ B = some b ∧ w.cell? (a.add k) = some (.int .u8 (X k)) ∧ w.cell? (b.add k) = some (.int .i16 (Y k)) ∧ 0 ≤ X k ∧ X k ≤ 255 ∧ -32768 ≤ Y k ∧ Y k ≤ 32767

theorem run_from31 {A : Option Addr} {n c k : Nat} (x : Int) (hx : x = k) (W : World) (hk : k ≤ n) :
    (Instr.slice 31 (.slice A n c) (some (.int .i64 x)) none none).run Try.prog W = .ok (.slice (if c = k then A else A.map (·.add k)) (n - k) (c - k)) W := by
  subst hx
  have h := run_slice_l (P := Try.prog) (w := W) 31 A n c (by kernel_rfl) .i64 (k : Int) (by omega) (by omega)
  rw [h, show (k : Int).toNat = k by omega]
  simp [sliced, go_sem]

theorem BoxAt.spelt {W : World} {g c n : Nat} {B : Nat → Prop} {vs vs' : List Int} (h : BoxAt W g c n B vs) (e : vs = vs') : BoxAt W g c n B vs' := e ▸ h
theorem TailAt.reads {W : World} {base n c : Nat} {ad : Addr} {zs : List Int} (h : TailAt W base (.slice (some ad) n c) n zs) {k : Nat} (hk : k < zs.length) : W.cell? (ad.add k) = some (.int .i64 (zs.getD k 0)) := by
  obtain ⟨A, c', e, _, hv⟩ := h.shape
  cases e
  obtain ⟨ad', e, hc⟩ := hv.at_ (ints_at hk)
  cases e
  exact hc

set_option maxRecDepth 100000 in
set_option maxHeartbeats 8000000 in
theorem plays_near (r : Nat) (x : Int) (A B : Option Addr) (n c m d : Nat) (X Y : Nat → Int) (w : World) (hn : n ≤ 200) (hm : n ≤ m) (hx : x = r) (h1 : 1 ≤ r) (h2 : r ≤ 4096) (ha : PlaysArgs w A B n X Y) :
    Calls Try.prog 3 #[.int .i64 x, .slice A n c, .slice B m d] w fun e w' => e = .returned (.bool true) ∧ Below w.heap.size w w' := by
  subst hx
  have HA := Lib.hid ha
  clear ha
  have hd : decide ((200 : Int) < (n : Int)) = false := by simp; omega
  have hd2 : decide (m < n) = false := by simp; omega
  have hd3 : decide ((r : Int) < 1) = false := by simp; omega
  have hd4 : decide ((4096 : Int) < (r : Int)) = false := by simp; omega
  go_enter Try.func3, Try.ntmps3
  go_wp2_with (first | (go_at_call 7; (with_reducible refine (awake_any _).mono ?_); rintro e w1 ⟨rfl, hb1⟩; have W1 := Lib.hid hb1; clear hb1) | (go_at_call 8; (with_reducible refine (new_ok _ r _ rfl h1 h2).mono ?_); rintro e w2 ⟨g, q, rfl, hr, hg, hq, hb2⟩; have R2 : Hid (BoxAt w2 g q r (old w) []) := hr.weak (fun k _ e => Nat.lt_of_lt_of_le e W1.out.size); have W2 : Hid (Below w.heap.size w w2) := W1.out.trans (hb2.mono W1.out.size); clear hr hb2))
  clear hg hq
  go_loopw [9, 10, 11, 12, 13, 14, 15, 16, 67] (fun v _ _ _ _ _ _ _ i w' => ∃ (k : Nat) (zs : List Int), k ≤ n ∧ i = .int .i64 k ∧ PlaysRel w g q r zs v w') (fun _ _ _ _ _ _ _ _ i _ => n - (intOf i).toNat)
  case atStart => exact ⟨0, [], Nat.zero_le _, rfl, R2.out.weak (fun k _ e => by rcases e with e | e; exact e; cases e), TailAt.nil _ _, W2.out⟩
  case round =>
    obtain ⟨k, zs, hk, rfl, hr, ho, hb⟩ := hrel
    have R3 := Lib.hid hr
    have O3 := Lib.hid ho
    have W3 := Lib.hid hb
    have hlen := hr.fits
    have hws3 := hb.size
    clear hr ho
    by_cases hlt : k < n
    · have hd5 : decide ((k : Int) < (n : Int)) = true := by simp; omega
      obtain ⟨a, b, rfl, rfl, hca, hcb, hx0, hx1, hy0, hy1⟩ := HA.out k hlt
      have HCB : Hid (∀ W, Below w.heap.size w W → W.cell? (b.add k) = some (.int .i16 (Y k))) := fun W h => (h.cell (World.block_lt_of_cell? w _ hcb)).trans hcb
      have hca' : wr.cell? (a.add k) = some (.int .u8 (X k)) := (hb.cell (World.block_lt_of_cell? w _ hca)).trans hca
      have hcb' := HCB.out _ hb
      generalize X k = X0 at *
      generalize Y k = Y0 at *
      clear hb hca hcb
      obtain ⟨A1, c1, rfl, hnc, hvals⟩ := O3.out.shape
      have HV := Lib.hid hvals
      clear hvals
      have HG3 : Hid (∀ k, (Value.slice A1 zs.length c1).ownBlock = some k → k ≠ q) := fun k e h => R3.out.apart.2 (.inr (h ▸ e))
      obtain ⟨t, ht⟩ : ∃ t : Nat, X0 % 4 = t := ⟨(X0 % 4).toNat, by omega⟩
      have ht4 : t < 4 := by omega
      have HN3 : Hid (¬ (old w wr.heap.size ∨ (Value.slice A1 zs.length c1).ownBlock = some wr.heap.size)) := fun e => by
        rcases e with e | e
        · exact old_not hws3 e
        · have := (O3.out.lt _ e).2
          omega
      by_cases ht2 : t < 2
      · have hts : t = 0 ∨ t = 1 := by omega
        by_cases hfull : zs.length = r
        · have HL := Lib.hid hfull
          have hd6 : decide ((zs.length : Int) < (r : Int)) = false := by simp; omega
          have hd7 : decide (zs.length < r) = false := by simp; omega
          clear hfull
          rcases hts with rfl | rfl
          all_goals
            go_wp2_with (first | (go_at_call 10; (with_reducible refine (put_full g q r _ _ _ _ R3.out HL.out).mono ?_); rintro e w4 ⟨rfl, hr4, hf4⟩; have R4 := Lib.hid hr4; have W4 : Hid (Below w.heap.size w w4) := below_only R3.out (fun k hk => .inl hk) W3.out hf4; have O4 := Lib.hid (O3.out.far hf4 (fun k e h => HG3.out k e h)); clear hr4 hf4) | (go_at_call 9; (with_reducible refine (len_is g q r zs.length _ _ _ R4.out rfl).mono ?_); rintro e w' ⟨rfl, rfl⟩))
            go_roundw
            case rel => exact ⟨k + 1, zs, by omega, by go_num, R4.out, O4.out, W4.out⟩
            case measure => simp [intOf]; omega
        · have HL : Hid (zs.length < r) := by show _ < _; omega
          have hd6 : decide ((zs.length : Int) < (r : Int)) = true := by simp; omega
          have hd7 : decide (zs.length < r) = true := by simp; omega
          have HLN : Hid ((zs ++ [Y0]).length = zs.length + 1) := by show _ = _; simp
          rcases hts with rfl | rfl
          all_goals
            go_wp2_with (first | (go_at_call 10; (with_reducible refine (put_room g q r _ _ Y0 _ R3.out HL.out HN3.out).mono ?_); rintro e w4 ⟨rfl, hr4, hf4⟩; have R4 := Lib.hid hr4; have W4 : Hid (Below w.heap.size w w4) := below_only R3.out (fun k hk => .inl hk) W3.out hf4; have O4 := Lib.hid (O3.out.far hf4 (fun k e h => HG3.out k e h)); have hcb4 := HCB.out _ W4.out; have hws4 := W4.out.size; clear hr4 hf4) | (at_builtin; refine wpList_tail rfl (.tmp 130) (.tmp 136) rfl w.heap.size (.slice A1 zs.length c1) zs.length zs rfl (by exact O4.out.below ((Below.refl _ _).alloc (Nat.le_refl _) _)) ⟨w4.heap.size, 0, none⟩ 1 Y0 rfl (by simp) (by omega) (by simp; omega) ?_; intro A' c' w5 H1 H2 H3; have R5 := Lib.hid ((R4.out.below ((Below.refl _ _).alloc (Nat.le_refl _) _)).appended H2.out H3.out)) | (go_at_call 9; (with_reducible refine (len_is g q r (zs.length + 1) _ _ _ R5.out HLN.out).mono ?_); rintro e w' ⟨rfl, rfl⟩))
            go_roundw
            case rel => exact ⟨k + 1, zs ++ [Y0], by omega, by go_num, R5.out, by rw [HLN.out]; exact H1.out, (W4.out.alloc hws4 _).grown H2.out (by simp; omega) (fun k e => (O4.out.lt k e).1)⟩
            case measure => simp [intOf]; omega
      · by_cases ht3 : t = 2
        · subst ht3
          by_cases h0 : 0 < zs.length
          · have hs2 := fun W => run_from31 (A := A1) (n := zs.length) (c := c1) (k := 1) 1 rfl W (by omega)
            have HT : Hid (∀ W, TailAt W w.heap.size (.slice A1 zs.length c1) zs.length zs → TailAt W w.heap.size (.slice (if c1 = 1 then A1 else A1.map (·.add 1)) (zs.length - 1) (c1 - 1)) (zs.length - 1) (zs.drop 1)) := fun W h => h.cut (k := 1) (by omega)
            have HBC : Hid (∀ W vs, BoxAt W g q r (fun k => old w k ∨ (Value.slice A1 zs.length c1).ownBlock = some k) vs → BoxAt W g q r (fun k => old w k ∨ (Value.slice (if c1 = 1 then A1 else A1.map (·.add 1)) (zs.length - 1) (c1 - 1)).ownBlock = some k) vs) := fun W vs h => by
              rw [block_cut (n := zs.length)]
              exact h
            have HX : Hid (BoxAt wr g q r (fun k => old w k ∨ (Value.slice A1 zs.length c1).ownBlock = some k) (zs.getD 0 0 :: zs.drop 1)) := R3.out.spelt (drop_at (k := 0) h0)
            obtain ⟨ad, rfl, _⟩ := HV.out.at_ (ints_at h0)
            have hz0 : ad.add 0 = ad := by simp [Addr.add]
            have HCE : Hid (∀ W, TailAt W w.heap.size (.slice (some ad) zs.length c1) zs.length zs → W.cell? ad = some (.int .i64 (zs.getD 0 0))) := fun W h => by
              have := h.reads h0
              rw [hz0] at this
              exact this
            have HLN : Hid ((zs.drop 1).length = zs.length - 1) := by show _ = _; rw [List.length_drop]
            have e1 : decide ((0 : Int) < (zs.length : Int)) = true := by simp; omega
            have e2 : decide (0 < zs.length) = true := by simpa using h0
            generalize (if c1 = 1 then some ad else (some ad).map (·.add 1)) = Z at hs2 HT HBC
            generalize zs.getD 0 0 = z at HX HCE
            clear HV
            go_wp2_with (first | (go_at_call 12; (with_reducible refine (take_some g q r _ _ _ _ HX.out).mono ?_); rintro e w4 ⟨rfl, hr4, hf4⟩; have R4 := Lib.hid (HBC.out _ _ hr4); have W4 : Hid (Below w.heap.size w w4) := below_only R3.out (fun k hk => .inl hk) W3.out hf4; have O4 := Lib.hid (O3.out.far hf4 (fun k e h => HG3.out k e h)); have hce4 := HCE.out _ O4.out; clear hr4 hf4) | (go_at_call 9; (with_reducible refine (len_is g q r (zs.length - 1) _ _ _ R4.out HLN.out).mono ?_); rintro e w' ⟨rfl, rfl⟩))
            go_roundw
            case rel => exact ⟨k + 1, zs.drop 1, by omega, by go_num, R4.out, by rw [HLN.out]; exact HT.out _ O4.out, W4.out⟩
            case measure => simp [intOf]; omega
          · obtain rfl : zs = [] := List.length_eq_zero_iff.1 (by omega)
            go_wp2_with (first | (go_at_call 12; (with_reducible refine (take_none g q r _ _ R3.out).mono ?_); rintro e w4 ⟨rfl, rfl⟩) | (go_at_call 9; (with_reducible refine (len_is g q r 0 _ _ _ R3.out rfl).mono ?_); rintro e w' ⟨rfl, rfl⟩))
            go_roundw
            case rel => exact ⟨k + 1, [], by omega, by go_num, R3.out, O3.out, W3.out⟩
            case measure => simp [intOf]; omega
        · have ht5 : t = 3 := by omega
          subst ht5
          obtain ⟨p, hp⟩ : ∃ p : Nat, (p : Int) = max 0 (min Y0 (zs.length : Int)) := ⟨(max 0 (min Y0 (zs.length : Int))).toNat, by omega⟩
          have hpl : p ≤ zs.length := by omega
          have HP := Lib.hid hp
          clear hp
          go_upto_region 12 with (first | (go_at_call 11; (with_reducible refine (drain_any g q r _ _ Y0 p _ R3.out HP.out).mono ?_); rintro e w4 ⟨A4, c4, rfl, hd4⟩; have D4 := Lib.hid hd4; have W4 : Hid (Below w.heap.size w w4) := below_only R3.out (fun k hk => .inl hk) W3.out hd4.2.2; have O4 := Lib.hid (O3.out.far hd4.2.2 (fun k e h => HG3.out k e h)); have hcb4 := HCB.out _ W4.out; clear hd4))
          go_cut [15] from 82 to 90 (fun s wx => s = .int .i64 (p : Nat) ∧ w4 = wx)
          case first =>
            by_cases hlow : Y0 < 0
            · have e1 : decide (Y0 ≤ (zs.length : Int)) = true := by simp; omega
              have e2 : decide (Y0 ≤ 0) = true := by simp; omega
              have e3 : decide (0 ≤ Y0) = false := by simp; omega
              go_wp2
              go_meet
              case rel => exact ⟨by have := HP.out; congr 1; omega, rfl⟩
            · by_cases hhi : Y0 ≤ (zs.length : Int)
              · have e1 : decide (Y0 ≤ (zs.length : Int)) = true := by simpa using hhi
                obtain ⟨y, rfl⟩ : ∃ y : Nat, Y0 = y := ⟨Y0.toNat, by omega⟩
                go_wp2
                all_goals
                  go_meet
                  case rel => exact ⟨by have := HP.out; congr 1; omega, rfl⟩
              · have e1 : decide (Y0 ≤ (zs.length : Int)) = false := by simpa using hhi
                go_wp2
                all_goals
                  go_meet
                  case rel => exact ⟨by have := HP.out; congr 1; omega, rfl⟩
          case rest =>
            obtain ⟨rfl, rfl⟩ := hcut
            have B4 := Lib.hid (D4.out.2.1.weak (B' := fun k => old w k ∨ (Value.slice A1 zs.length c1).ownBlock = some k) (fun k _ e => .inl e))
            have V4 := Lib.hid (Vals.of_own D4.out.1)
            have hws4 := W4.out.size
            have hs2 := fun W => run_from31 (A := A1) (n := zs.length) (c := c1) (k := p) (p : Int) rfl W hpl
            have HT : Hid (TailAt w4 w.heap.size (.slice (if c1 = p then A1 else A1.map (·.add p)) (zs.length - p) (c1 - p)) (zs.length - p) (zs.drop p)) := O4.out.cut (k := p) hpl
            have HBC : Hid (BoxAt w4 g q r (fun k => old w k ∨ (Value.slice (if c1 = p then A1 else A1.map (·.add p)) (zs.length - p) (c1 - p)).ownBlock = some k) (zs.drop p)) := by
              have := B4.out
              rw [← block_cut (n := zs.length) (c := c1) (k := p) (m := zs.length - p) (d := c1 - p)] at this
              exact this
            have HLN : Hid ((zs.drop p).length = zs.length - p) := by show _ = _; rw [List.length_drop]
            generalize (if c1 = p then A1 else A1.map (·.add p)) = Z at hs2 HT HBC
            clear D4 B4 HV R3 O3 hcb4 HP HN3
            go_wp2_with fail
            go_loopw [16, 97] (fun _ y w' => ∃ i : Nat, y = .int .i64 i ∧ i ≤ p ∧ Below w4.heap.size w4 w') (fun _ y _ => p - (intOf y).toNat)
            case atStart => exact ⟨0, rfl, by omega, Below.refl _ _⟩
            case round =>
              obtain ⟨i, rfl, hi, hbw⟩ := hrel
              have WX := Lib.hid hbw
              by_cases hlt4 : i < p
              · have e4 : decide ((i : Int) < (p : Int)) = true := by simp; omega
                have e5 : decide (i < p) = true := by simpa using hlt4
                have e6 : decide (i < zs.length) = true := by simp; omega
                obtain ⟨A1', c1', e, _, hv1⟩ := O4.out.shape
                cases e
                obtain ⟨ad1, rfl, hc1⟩ := hv1.at_ (ints_at (zs := zs) (k := i) (by omega))
                obtain ⟨ad2, rfl, hc2⟩ := V4.out.at_ (ints_at (zs := zs.take p) (k := i) (by rw [List.length_take]; omega))
                have ez : (zs.take p).getD i 0 = zs.getD i 0 := by simp [List.getD_eq_getElem?_getD, hlt4]
                rw [ez] at hc2
                have hc3 := (hbw.cell (World.block_lt_of_cell? _ _ hc1)).trans hc1
                have hc4 := (hbw.cell (World.block_lt_of_cell? _ _ hc2)).trans hc2
                generalize zs.getD i 0 = z at hc3 hc4
                clear hbw hc1 hc2 ez hv1
                go_wp2_with fail
                go_quiet (fail)
                go_wp2
                go_roundw
                case rel => exact ⟨i + 1, by go_num, by omega, below_drewN WX.out _⟩
                case measure => simp [intOf]; omega
              · have e4 : decide ((i : Int) < (p : Int)) = false := by simp; omega
                have R5 := Lib.hid (HBC.out.below hbw)
                have O5 := Lib.hid (HT.out.below hbw)
                have W5 : Hid (Below w.heap.size w _) := W4.out.trans (hbw.mono hws4)
                clear hbw
                go_wp2_with (first | (go_at_call 9; (with_reducible refine (len_is g q r (zs.length - p) _ _ _ R5.out HLN.out).mono ?_); rintro e w' ⟨rfl, rfl⟩))
                go_roundw
                case rel => exact ⟨k + 1, zs.drop p, by omega, by go_num, R5.out, by rw [HLN.out]; exact O5.out, W5.out⟩
                case measure => simp [intOf]; omega
    · obtain rfl : k = n := by omega
      have hd5 : decide ((k : Int) < (k : Int)) = false := by simp
      clear hb
      go_wp2
      go_ret
      exact ⟨rfl, W3.out⟩
end Go.Proofs.Ytninoghalmhngaa
