/- The walk of the law SlabPlays: for any number of places, acts and numbers it returns true and turns nothing that was there. -/
import Derived.Test.YtmkegonlepkhdaaPlaysMem
import Derived.Deep.CutBlock
namespace Go.Proofs.Ytmkegonlepkhdaa
open Go.RowKit

/-- What came in: acts and numbers. -/
def PlaysArgs (w : World) (A B : Option Addr) (n : Nat) (X Y : Nat → Int) : Prop :=
  ∀ k, k < n → ∃ a b : Addr, A = some a ∧ B = some b ∧ w.cell? (a.add k) = some (.int .u8 (X k)) ∧ w.cell? (b.add k) = some (.int .i16 (Y k)) ∧ 0 ≤ X k ∧ X k ≤ 255 ∧ -32768 ≤ Y k ∧ Y k ≤ 32767
/-- Whether there is something at x. -/
def There (vs : List (Option Value)) (x : Int) (b : Bool) : Prop :=
  (b = true ∧ ∃ (p : Nat) (z : Int), x = p ∧ vs[p]? = some (some (Value.int .i64 z))) ∨ (b = false ∧ Bare vs x)

set_option maxRecDepth 100000 in
set_option maxHeartbeats 8000000 in
theorem plays_near (r : Nat) (x : Int) (A B : Option Addr) (n c m d : Nat) (X Y : Nat → Int) (w : World) (hn : n ≤ 150) (hm : n ≤ m) (hx : x = r) (h1 : 1 ≤ r) (h2 : r ≤ 4096) (ha : PlaysArgs w A B n X Y) :
    Calls Try.prog 3 #[.int .i64 x, .slice A n c, .slice B m d] w fun e w' => e = .returned (.bool true) ∧ Below w.heap.size w w' := by
  subst hx
  have HA := Lib.hid ha
  clear ha
  have hd : decide ((150 : Int) < (n : Int)) = false := by simp; omega
  have hd2 : decide (m < n) = false := by simp; omega
  have hd3 : decide ((r : Int) < 1) = false := by simp; omega
  have hd4 : decide ((4096 : Int) < (r : Int)) = false := by simp; omega
  have hmk := fun W => run_make_row' (P := Try.prog) 30 4 (.bool false) 1 Try.underlying30 (by kernel_rfl) rfl .i64 .i64 r (by omega) (by omega) W
  have hmi := fun W => run_make_row' (P := Try.prog) 31 3 (.int .i64 0) 8 Try.underlying31 (by kernel_rfl) rfl .i64 .i64 r (by omega) (by omega) W
  go_enter Try.func3, Try.ntmps3
  go_upto_region 6 with (first | (go_at_call 7; (with_reducible refine (awake_any _).mono ?_); rintro e w1 ⟨rfl, hb1⟩; have W1 := Lib.hid hb1; clear hb1) | (go_at_call 8; (with_reducible refine (new_I r _ _ rfl h1 h2).mono ?_); rintro e w2 ⟨g, q, f, rfl, hr, ha, hb2⟩; have R2 := Lib.hid hr; have HN := Lib.hid ha; have W2 : Hid (Below w.heap.size w w2) := W1.out.trans (hb2.mono W1.out.size); clear hr ha hb2))
  go_cut [9, 10] from 65 to 68 (fun v u wx => ∃ b c, v = .slice (some ⟨b, 0, none⟩) r r ∧ u = .slice (some ⟨c, 0, none⟩) r r ∧ Five w g q f b c ∧ PlaysRel w g q f b c r (List.replicate r none) (List.range r).reverse 0 wx)
  case first =>
    go_region
    · go_wp2_with fail
      go_meet
      case rel => exact ⟨_, _, rfl, rfl, first_five W1.out HN.out R2.out, first_one R2.out W2.out⟩
    · go_wp2_with fail
      go_meet
      case rel => exact ⟨_, _, rfl, rfl, first_five' W1.out HN.out R2.out, first_two R2.out W2.out⟩
  case rest =>
    obtain ⟨b, c', rfl, rfl, h5, hrel⟩ := hcut
    have H5 := Lib.hid h5
    have R0 := Lib.hid hrel
    clear h5 hrel hmk hmi R2 W2 W1 HN
    go_wp2_with fail
    go_loopw [11, 12, 13, 14, 15, 16, 17, 18, 19, 20, 21, 22, 71] (fun tk _ _ _ _ _ _ _ _ _ _ _ i w' => ∃ (k t : Nat) (vs : List (Option Value)) (fr : List Nat), k ≤ n ∧ i = .int .i64 k ∧ tk = .int .i64 t ∧ PlaysRel w g q f b c' r vs fr t w') (fun _ _ _ _ _ _ _ _ _ _ _ _ i _ => n - (intOf i).toNat)
    case atStart => exact ⟨0, 0, _, _, Nat.zero_le _, rfl, rfl, R0.out⟩
    case round =>
      clear R0
      obtain ⟨k, t, vs, fr, hk, rfl, rfl, hrel⟩ := hrel
      have R1 := Lib.hid hrel
      clear hrel
      by_cases hlt : k < n
      · have hd5 : decide ((k : Int) < (n : Int)) = true := by simp; omega
        have hd6 : decide (k < m) = true := by simp; omega
        obtain ⟨a1, b1, rfl, rfl, hca, hcb, hx0, hx1, hy0, hy1⟩ := HA.out k hlt
        have HB : Hid (Below w.heap.size w wr) := by obtain ⟨_, _, _, _, _, _, _, h⟩ := R1.out; exact h
        have hca' : wr.cell? (a1.add k) = some (.int .u8 (X k)) := (HB.out.cell (World.block_lt_of_cell? w _ hca)).trans hca
        have hcb' : wr.cell? (b1.add k) = some (.int .i16 (Y k)) := (HB.out.cell (World.block_lt_of_cell? w _ hcb)).trans hcb
        generalize X k = X0 at *
        generalize Y k = Y0 at *
        clear hca hcb
        obtain ⟨hs, ws, r1, r2, r3, r4, r5, _⟩ := R1.out
        have S1 := Lib.hid r1
        have B1 := Lib.hid r2
        have C1 := Lib.hid r3
        have SM := Lib.hid r4
        have ht : t ≤ r := by omega
        clear r1 r2 r3 r4 HB
        go_upto_region 12 with fail
        go_cut [14] from 79 to 91 (fun th wx => wr = wx ∧ ∃ bb, th = .bool bb ∧ There vs Y0 bb)
        case first =>
          by_cases hneg : Y0 < 0
          · have e1 : decide (0 ≤ Y0) = false := by simp; omega
            go_wp2_with fail
            go_meet
            case rel => exact ⟨rfl, false, rfl, .inr ⟨rfl, .inl (.inl hneg)⟩⟩
          · have e1 : decide (0 ≤ Y0) = true := by simp; omega
            by_cases hbig : (r : Int) ≤ Y0
            · have e2 : decide (Y0 < (r : Int)) = false := by simp; omega
              go_wp2_with fail
              go_meet
              case rel => exact ⟨rfl, false, rfl, .inr ⟨rfl, .inl (.inr (by rw [SM.out.lv]; exact hbig))⟩⟩
            · have e2 : decide (Y0 < (r : Int)) = true := by simp; omega
              obtain ⟨p, hp⟩ : ∃ p : Nat, Y0 = p := ⟨Y0.toNat, by omega⟩
              have hpr : p < r := by omega
              obtain ⟨o, ho⟩ : ∃ o, vs[p]? = some o := ⟨_, List.getElem?_eq_getElem (by have := SM.out.lv; omega)⟩
              have hco : wr.cell? ⟨b, p, none⟩ = some (.bool o.isSome) := (B1.out.cell p).trans (SM.out.has p o ho)
              have HO : Hid (There vs Y0 o.isSome) := by
                rcases o with _ | v
                · exact .inr ⟨rfl, .inr ⟨p, hp, ho⟩⟩
                · obtain ⟨_, z, rfl⟩ := SM.out.what p v ho
                  exact .inl ⟨rfl, p, z, hp, ho⟩
              subst hp
              generalize o.isSome = bb at *
              go_wp2_with fail
              go_meet
              case rel => exact ⟨rfl, bb, rfl, HO.out⟩
        case rest =>
          obtain ⟨rfl, bb, rfl, hth⟩ := hcut
          have TH := Lib.hid hth
          clear hth
          obtain ⟨tag, htag⟩ : ∃ tag : Nat, X0 % 4 = tag := ⟨(X0 % 4).toNat, by omega⟩
          have htag4 : tag < 4 := by omega
          go_upto_block 2 with fail
          go_cut [11, 15, 16, 17, 18, 96] from 97 to 195 (fun tk _ _ _ _ _ wx => ∃ (t' : Nat) (vs' : List (Option Value)) (fr' : List Nat), tk = .int .i64 t' ∧ PlaysRel w g q f b c' r vs' fr' t' wx)
          case first =>
            by_cases htag2 : tag < 2
            · have hts : tag = 0 ∨ tag = 1 := by omega
              clear TH
              rcases Nat.eq_zero_or_pos fr.length with hfr | hfr
              · obtain rfl : fr = [] := List.length_eq_zero_iff.1 hfr
                have e1 : decide ((t : Int) < (r : Int)) = false := by simp at r5; simp; omega
                have e2 : decide (t < r) = false := by simp at r5; simp; omega
                clear r5 hfr
                rcases hts with rfl | rfl
                all_goals
                  go_wp2_with (first | (go_at_call 11; (with_reducible refine (takeno_I g q f r _ _ _ S1.out).mono ?_); rintro e w' ⟨rfl, rfl⟩))
                  go_meet
                  case rel => exact ⟨t, _, _, rfl, R1.out⟩
              · obtain ⟨fr', p, rfl, hfr'⟩ := last_of (m := fr.length - 1) (fr := fr) (by omega)
                have e1 : decide ((t : Int) < (r : Int)) = true := by simp; omega
                have e2 : decide (t < r) = true := by simp; omega
                have HF : Hid (vs[p]? = some none) := (S1.out.free p).1 (by simp)
                have hp : p < r := by have := (List.getElem?_eq_some_iff.1 HF.out).1; have := SM.out.lv; omega
                have e3 : decide ((r : Int) ≤ (p : Int)) = false := by simp; omega
                have e4 : decide (r ≤ p) = false := by simp; omega
                have HC1 : Hid (hs[p]? = some (.bool false)) := SM.out.has p none HF.out
                obtain ⟨o, ho⟩ : ∃ o, ws[p]? = some o := ⟨_, List.getElem?_eq_getElem (by have := SM.out.lw; omega)⟩
                have HC2 := Lib.hid ho
                have hbc : b ≠ c' := H5.out.bc
                have hcb2 : c' ≠ b := fun e => H5.out.bc e.symm
                clear r5 hfr hfr' ho
                rcases hts with rfl | rfl
                all_goals
                  go_wp2_with (first | (go_at_call 11; (with_reducible refine (take_I g q f r p _ _ _ _ S1.out).mono ?_); rintro e w3 ⟨rfl, hr, hf⟩; have HN := Lib.hid (plays_take R1.out H5.out hr hf); have hb1 := B1.out.far hf H5.out.b3; have hc1 := C1.out.far hf H5.out.c3; have q1 : w3.cell? ⟨b, p, none⟩ = some (.bool false) := (hb1.cell p).trans HC1.out; have q2 : w3.cell? ⟨c', p, none⟩ = some o := (hc1.cell p).trans HC2.out; have q3 := hb1.frozen p; have q4 := hc1.frozen p; clear hr hf hb1 hc1))
                  go_meet
                  case rel => exact ⟨t + 1, _, _, by go_num, HN.out⟩
            · have hbc : b ≠ c' := H5.out.bc
              have hcb2 : c' ≠ b := fun e => H5.out.bc e.symm
              have hw1 : IntKind.i64.wrap (1000 + (k : Int)) = 1000 + (k : Int) := by rw [IntKind.wrap_i64]; omega
              rcases TH.out with ⟨rfl, p, z, rfl, hp⟩ | ⟨rfl, hbare⟩
              · have HP := Lib.hid hp
                have hpr : p < r := by have := (List.getElem?_eq_some_iff.1 hp).1; have := SM.out.lv; omega
                have HW := Lib.hid (SM.out.what p _ hp).1
                obtain ⟨o, ho⟩ : ∃ o, hs[p]? = some o := ⟨_, List.getElem?_eq_getElem (by have := SM.out.lh; omega)⟩
                have HO := Lib.hid ho
                clear hp ho TH r5
                by_cases htag3 : tag = 2
                · subst htag3
                  go_wp2_with (first | (go_at_call 12; (with_reducible refine (give_I g q f r p _ _ _ _ _ S1.out rfl HP.out).mono ?_); rintro e w3 ⟨rfl, hr, hf⟩; have HN := Lib.hid (plays_give R1.out H5.out hr hf HP.out).2; have ht1 := (plays_give R1.out H5.out hr hf HP.out).1; have hb1 := B1.out.far hf H5.out.b3; have hc1 := C1.out.far hf H5.out.c3; have q1 : w3.cell? ⟨b, p, none⟩ = some o := (hb1.cell p).trans HO.out; have q2 : w3.cell? ⟨c', p, none⟩ = some (.int .i64 z) := (hc1.cell p).trans HW.out; have q3 := hb1.frozen p; have q4 := hc1.frozen p; clear hr hf hb1 hc1))
                  go_meet
                  case rel => exact ⟨t - 1, _, _, by congr 1; omega, HN.out⟩
                · have htag5 : tag = 3 := by omega
                  subst htag5
                  go_wp2_with (first | (go_at_call 13; (with_reducible refine (set_I g q f r p _ _ _ _ _ _ S1.out rfl HP.out).mono ?_); rintro e w3 ⟨rfl, hr, hf⟩; have HN := Lib.hid (plays_set R1.out H5.out hr hf HP.out); have hb1 := B1.out.far hf H5.out.b3; have hc1 := C1.out.far hf H5.out.c3; have q2 : w3.cell? ⟨c', p, none⟩ = some (.int .i64 z) := (hc1.cell p).trans HW.out; have q4 := hc1.frozen p; clear hr hf hb1 hc1))
                  go_meet
                  case rel => exact ⟨t, _, _, rfl, HN.out⟩
              · have HX := Lib.hid hbare
                clear TH hbare r5
                by_cases htag3 : tag = 2
                · subst htag3
                  go_wp2_with (first | (go_at_call 12; (with_reducible refine (giveno_I g q f r _ _ _ _ S1.out HX.out).mono ?_); rintro e w' ⟨rfl, rfl⟩))
                  go_meet
                  case rel => exact ⟨t, _, _, rfl, R1.out⟩
                · have htag5 : tag = 3 := by omega
                  subst htag5
                  go_wp2_with (first | (go_at_call 13; (with_reducible refine (setno_I g q f r _ _ _ _ _ S1.out HX.out).mono ?_); rintro e w' ⟨rfl, rfl⟩))
                  go_meet
                  case rel => exact ⟨t, _, _, rfl, R1.out⟩
          case rest =>
            obtain ⟨t', vs', fr', rfl, hrel'⟩ := hcut
            clear R1 S1 B1 C1 SM TH r5 ht hca' hcb' hx0 hx1 hy0 hy1 htag htag4
            have R2 := Lib.hid hrel'
            obtain ⟨hs', ws', r1, r2, r3, r4, r5, _⟩ := hrel'
            have S2 := Lib.hid r1
            obtain ⟨m', hm'⟩ : ∃ m', fr'.length = m' := ⟨_, rfl⟩
            have HM := Lib.hid hm'
            have hmt : (r : Int) - (t' : Int) = (m' : Int) := by omega
            have hmt2 : ((m' : Int) != (r : Int) - (t' : Int)) = false := by rw [hmt]; simp
            have ht' : t' ≤ r := by omega
            clear r1 r2 r3 r4 r5 hm'
            go_wp2_with (first | (go_at_call 9; (with_reducible refine (freein_I g q f r m' _ _ _ S2.out HM.out).mono ?_); rintro e w' ⟨rfl, rfl⟩) | (go_at_call 10; (with_reducible refine (placesin_I g q f r _ _ _ S2.out).mono ?_); rintro e w' ⟨rfl, rfl⟩))
            clear hmt hmt2
            go_loopw [19, 20, 21, 22] (fun v _ _ _ w' => ∃ iv : Int, -1 ≤ iv ∧ iv ≤ (r : Int) + 1 ∧ iv ≤ 41 ∧ v = .int .i64 iv ∧ PlaysRel w g q f b c' r vs' fr' t' w') (fun v _ _ _ _ => (42 - intOf v).toNat)
            case atStart => exact ⟨-1, by omega, by omega, by omega, rfl, R2.out⟩
            case round =>
              clear R2 S2 HM
              obtain ⟨iv, hi0, hi1, hi2, rfl, hrel'⟩ := hrel
              have R3 := Lib.hid hrel'
              obtain ⟨hs', ws', r1, r2, r3, r4, r5, _⟩ := hrel'
              have S3 := Lib.hid r1
              have B3 := Lib.hid r2
              have C3 := Lib.hid r3
              have SM3 := Lib.hid r4
              clear r1 r2 r3 r4 r5
              go_upto_region 36 with fail
              go_cut [211] from 208 to 211 (fun v wx => wr = wx ∧ ∃ b2, v = .bool b2 ∧ (b2 = true ↔ (iv ≤ (r : Int) ∧ iv ≤ 40)))
              case first =>
                by_cases hr : (r : Int) ≤ 40
                · have hr' : decide ((r : Int) ≤ 40) = true := by simpa using hr
                  go_wp2_with fail
                  go_meet
                  case rel => exact ⟨rfl, _, rfl, by simp; omega⟩
                · have hr' : decide ((r : Int) ≤ 40) = false := by simpa using hr
                  go_wp2_with fail
                  go_meet
                  case rel => exact ⟨rfl, _, rfl, by simp; omega⟩
              case rest =>
                obtain ⟨rfl, b2, rfl, hb2⟩ := hcut
                rcases b2 with _ | _
                · clear hb2
                  go_wp2_with fail
                  go_roundw
                  case rel => exact ⟨k + 1, t', vs', fr', by omega, by go_num, rfl, R3.out⟩
                  case measure => simp [intOf]; omega
                · have hle := hb2.1 rfl
                  clear hb2
                  by_cases hneg : iv < 0
                  · have e1 : decide (0 ≤ iv) = false := by simp; omega
                    have HX : Hid (Bare vs' iv) := .inl (.inl hneg)
                    go_wp2_with (first | (go_at_call 14; (with_reducible refine (getno_I g q f r _ _ _ _ S3.out HX.out).mono ?_); rintro e w' ⟨rfl, rfl⟩))
                    go_roundw
                    case rel => exact ⟨iv + 1, by omega, by omega, by omega, rfl, R3.out⟩
                    case measure => simp [intOf]; omega
                  · have e1 : decide (0 ≤ iv) = true := by simp; omega
                    by_cases hbig : (r : Int) ≤ iv
                    · have e2 : decide (iv < (r : Int)) = false := by simp; omega
                      have HX : Hid (Bare vs' iv) := .inl (.inr (by rw [SM3.out.lv]; exact hbig))
                      go_wp2_with (first | (go_at_call 14; (with_reducible refine (getno_I g q f r _ _ _ _ S3.out HX.out).mono ?_); rintro e w' ⟨rfl, rfl⟩))
                      go_roundw
                      case rel => exact ⟨iv + 1, by omega, by omega, by omega, rfl, R3.out⟩
                      case measure => simp [intOf]; omega
                    · have e2 : decide (iv < (r : Int)) = true := by simp; omega
                      obtain ⟨p, rfl⟩ : ∃ p : Nat, iv = p := ⟨iv.toNat, by omega⟩
                      have hpr : p < r := by omega
                      have e3 : decide (p < r) = true := by simpa using hpr
                      obtain ⟨o, ho⟩ : ∃ o, vs'[p]? = some o := ⟨_, List.getElem?_eq_getElem (by have := SM3.out.lv; omega)⟩
                      have hco : wr.cell? ⟨b, p, none⟩ = some (.bool o.isSome) := (B3.out.cell p).trans (SM3.out.has p o ho)
                      rcases o with _ | v
                      · have HX : Hid (Bare vs' (p : Int)) := .inr ⟨p, rfl, ho⟩
                        simp only [Option.isSome_none] at hco
                        clear ho
                        go_wp2_with (first | (go_at_call 14; (with_reducible refine (getno_I g q f r _ _ _ _ S3.out HX.out).mono ?_); rintro e w' ⟨rfl, rfl⟩))
                        go_roundw
                        case rel => exact ⟨(p : Int) + 1, by omega, by omega, by omega, rfl, R3.out⟩
                        case measure => simp [intOf]; omega
                      · obtain ⟨hw, z, rfl⟩ := SM3.out.what p v ho
                        have hcw : wr.cell? ⟨c', p, none⟩ = some (.int .i64 z) := (C3.out.cell p).trans hw
                        have HX := Lib.hid ho
                        simp only [Option.isSome_some] at hco
                        clear ho hw
                        go_wp2_with (first | (go_at_call 14; (with_reducible refine (get_I g q f r p _ _ _ _ _ S3.out rfl HX.out).mono ?_); rintro e w' ⟨rfl, rfl⟩))
                        go_roundw
                        case rel => exact ⟨(p : Int) + 1, by omega, by omega, by omega, rfl, R3.out⟩
                        case measure => simp [intOf]; omega
      · obtain rfl : n = k := by omega
        have hd5 : decide ((n : Int) < (n : Int)) = false := by simp
        go_wp2
        go_ret
        exact ⟨rfl, by obtain ⟨_, _, _, _, _, _, _, h⟩ := R1.out; exact h⟩
end Go.Proofs.Ytmkegonlepkhdaa
