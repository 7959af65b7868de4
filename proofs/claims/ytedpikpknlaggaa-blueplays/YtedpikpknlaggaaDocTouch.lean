/- The contract of the document's Touch. Conditions: those of each theorem. -/
import Derived.Test.YtedpikpknlaggaaDocBase
namespace Go.Proofs.Ytedpikpknlaggaa
open Go.RowKit

theorem PtRel.drewN {w W : World} {A : Option Addr} {n c t h u d base : Nat} {v : Value} {f : Nat → Bin} (x : PtRel w A n c t h u d base v f W) (N : Nat) : PtRel w A n c t h u d base v f (W.drewN N) :=
  x.below ⟨rfl, rfl, rfl, Nat.le_refl _, fun _ _ => rfl⟩
/-- Probability and moment of bin k stored. -/
theorem PtRel.both {w W : World} {A : Option Addr} {n c t h u d base r rc k p' c' : Nat} {f f' : Nat → Bin} (x : PtRel w A n c t h u d base (.slice (some ⟨r, 0, none⟩) n rc) f W) (hk : k < n) (hf : (fun j => if j = k then ⟨(f k).b, p', c'⟩ else f j) = f') :
    PtRel w A n c t h u d base (.slice (some ⟨r, 0, none⟩) n rc) f' ((W.setCell ⟨r, k * 3 + 2, none⟩ (.int .i64 (p' : Nat))).setCell ⟨r, k * 3 + 1, none⟩ (.int .i64 (c' : Nat))) := by
  have h1 := x.store (f' := fun j => if j = k then ⟨(f k).b, p', (f k).c⟩ else f j) (i := k * 3 + 2) (.int .i64 (p' : Nat)) (rel_set_2 hk p')
  refine h1.store (i := k * 3 + 1) (.int .i64 (c' : Nat)) ?_
  rw [rel_set_1 hk c', ← hf]
  congr 1
  funext j
  by_cases hj : j = k
  · simp [hj]
  · simp [hj]
set_option maxHeartbeats 4000000 in
theorem refTouch_ (b : Nat → Prop) (A : Option Addr) (n m c t h u d : Nat) (B : Bins) (P : Option Addr) (nb cb : Nat) (xs : List Int) (z : Int) (w : World) (hd : DocAt b w A n m B) (hi : Ints w P nb xs) (hnb : nb ≤ 1000000) (hn : 1 ≤ n ∧ n ≤ 4) (hm : m ≤ 64) (hbw : ∀ k, w.heap.size ≤ k → b k) (hB : BOk B) (hh : h ≤ 4611686018427387903) (hu : u ≤ 65536) (hdd : d ≤ 65536) :
    Calls Try.prog 18 #[dval A n c t h u d, .slice P nb cb, .int .i64 z] w (DocRes b n m t h u d (if flow n m xs then upd (touchB t h u d (asT z)) xs n B else B) w) := by
  have T2 := Lib.hid (Two5.start w A n c t h u d)
  have D2 := Lib.hid (hd.below T2.out.be)
  have I2 := Lib.hid (hi.below T2.out.be)
  have HF := Lib.hid (refFlows_ b A n m c t h u d B P nb cb xs _ D2.out I2.out hnb hn)
  have HB := Lib.hid hB
  have HW := Lib.hid hbw
  obtain ⟨c0, c1, c2, c3, c4⟩ := T2.out.cells
  obtain ⟨r0, r1, r2, r3, r4, f0, f1, f2, f3, f4⟩ := T2.out.room
  rcases hfl : flow n m xs with _ | _
  · rw [if_neg (by simp)]
    rw [hfl] at HF
    have HD := Lib.hid (fun W hW => doc_same (W := W) (c := c) (t := t) (h := h) (u := u) (d := d) hd hW)
    clear hd hi hbw hB
    go_enter Try.func18, Try.ntmps18
    go_wp2_with (go_at_call 14; (with_reducible refine HF.out.mono ?_); rintro e w3 ⟨rfl, hb3⟩; have T3 := Lib.hid (T2.out.below hb3); obtain ⟨c0, c1, c2, c3, c4⟩ := T3.out.cells; obtain ⟨r0, r1, r2, r3, r4, f0, f1, f2, f3, f4⟩ := T3.out.room; clear hb3)
    refine bodyPost_ret (v := dval A n c t h u d) (by simp [results, Try.results18, go_sem, r0, r1, r2, r3, r4]) rfl ?_
    exact HD.out _ T3.out.be
  · rw [if_pos rfl]
    rw [hfl] at HF
    have HFL := Lib.hid hfl
    have HI := Lib.hid hi
    have HDD := Lib.hid hd
    clear hd hi hbw hB
    have hT := asT_eq z
    have hTb := asT_le z
    go_enter Try.func18, Try.ntmps18
    go_upto_region 3 with (go_at_call 14; (with_reducible refine HF.out.mono ?_); rintro e w3 ⟨rfl, hb3⟩; have T3 := Lib.hid (T2.out.below hb3); clear hb3)
    clear c0 c1 c2 c3 c4 r0 r1 r2 r3 r4 f0 f1 f2 f3 f4 T2 D2 I2 HF
    go_upto_if 16 with fail
    go_cut [2, 16] from 17 to 17 (fun a _ wx => a = .int .i64 (max z 0) ∧ w3 = wx)
    case first =>
      by_cases hz : z < 0
      · have e1 : decide (z < 0) = true := by simpa using hz
        have e2 : max z 0 = 0 := by omega
        go_wp2_with fail
        go_meet
        case rel => exact ⟨by rw [e2], rfl⟩
      · have e1 : decide (z < 0) = false := by simpa using hz
        have e2 : max z 0 = z := by omega
        go_wp2_with fail
        go_meet
        case rel => exact ⟨by rw [e2], rfl⟩
    case rest =>
    obtain ⟨rfl, rfl⟩ := hcut
    generalize hz1 : max z 0 = z1 at *
    have hz2 : 0 ≤ z1 := by omega
    go_upto_if 18 with fail
    go_cut [2, 18] from 19 to 19 (fun a _ wx => a = .int .i64 (asT z : Nat) ∧ w3 = wx)
    case first =>
      by_cases hz : 4611686018427387903 < z1
      · have e1 : decide (4611686018427387903 < z1) = true := by simpa using hz
        have e2 : ((asT z : Nat) : Int) = 4611686018427387903 := by omega
        go_wp2_with fail
        go_meet
        case rel => exact ⟨by rw [e2], rfl⟩
      · have e1 : decide (4611686018427387903 < z1) = false := by simpa using hz
        have e2 : ((asT z : Nat) : Int) = z1 := by omega
        go_wp2_with fail
        go_meet
        case rel => exact ⟨by rw [e2], rfl⟩
    case rest =>
    obtain ⟨rfl, rfl⟩ := hcut
    clear hT hz1 hz2
    generalize asT z = T at *
    have HOF := Lib.hid (refOf_ b A n m c t h u d B P nb cb xs w3 (HDD.out.below T3.out.be) (HI.out.below T3.out.be) HFL.out hn.2)
    obtain ⟨c0, c1, c2, c3, c4⟩ := T3.out.cells
    go_upto_region 8 with (go_at_call 31; (with_reducible refine HOF.out.mono ?_); rintro e w4 ⟨⟨v, rfl, hr4⟩, hb4⟩; have P4 := Lib.hid (T3.out.with_ hb4 hr4); clear hr4 hb4)
    obtain ⟨rr, rc, rfl, _, _⟩ := World.ownsRow.form P4.out.row hn.1
    have S4 : Hid (PtRel w A n c t h u d w3.heap.size (.slice (some ⟨rr, 0, none⟩) n rc) (mapj (touchB t h u d T) (fun l => B l (binOf xs l)) 0) w4) := by
      rw [mapj_zero]
      exact P4.out
    clear P4 HOF T3 c0 c1 c2 c3 c4
    generalize w3.heap.size = base at *
    go_wp2_with fail
    go_loopw [8, 9, 24] (fun _ _ i w' => ∃ k : Nat, k ≤ n ∧ i = .int .i64 k ∧ PtRel w A n c t h u d base (.slice (some ⟨rr, 0, none⟩) n rc) (mapj (touchB t h u d T) (fun l => B l (binOf xs l)) k) w') (fun _ _ i _ => n - (intOf i).toNat)
    case atStart => exact ⟨0, by omega, rfl, S4.out⟩
    case round =>
      clear S4
      obtain ⟨k, hk, rfl, hr⟩ := hrel
      have S5 := Lib.hid hr
      clear hr
      by_cases hlt : k < n
      · have hd1 : decide ((k : Int) < (n : Int)) = true := by simp; omega
        have hok := HB.out k (binOf xs k)
        have HSM : Hid (∀ x, touchB t h u d T (B k (binOf xs k)) = x → mapj (touchB t h u d T) (fun l => B l (binOf xs l)) (k + 1) = fun j => if j = k then x else mapj (touchB t h u d T) (fun l => B l (binOf xs l)) k j) := fun x hx => by
          rw [← mapj_succ]
          funext j
          rw [hx]
        have HAT := Lib.hid (mapj_at (touchB t h u d T) (fun l => B l (binOf xs l)) k)
        have HC : Hid (∀ N, (wr.drewN N).cell? ⟨rr, k * 3, none⟩ = some (.int .i64 ((B k (binOf xs k)).b : Nat)) ∧ (wr.drewN N).cell? ⟨rr, k * 3 + 1, none⟩ = some (.int .i64 ((B k (binOf xs k)).c : Nat)) ∧ (wr.drewN N).cell? ⟨rr, k * 3 + 2, none⟩ = some (.int .i64 ((B k (binOf xs k)).p : Nat)) ∧ (wr.drewN N).frozen? ⟨rr, k * 3 + 1, none⟩ = false ∧ (wr.drewN N).frozen? ⟨rr, k * 3 + 2, none⟩ = false) := fun N => by
          obtain ⟨y0, y1, y2, _, g1, g2⟩ := row_cells (S5.out.drewN N).row hlt
          rw [mapj_at] at y0 y1 y2
          exact ⟨y0, y1, y2, g1, g2⟩
        have HV : Hid (∀ N, (wr.drewN N).cell? ⟨w.heap.size, 1, none⟩ = some (.int .i64 (t : Nat)) ∧ (wr.drewN N).cell? ⟨w.heap.size, 2, none⟩ = some (.int .i64 (h : Nat)) ∧ (wr.drewN N).cell? ⟨w.heap.size, 3, none⟩ = some (.int .i64 (u : Nat)) ∧ (wr.drewN N).cell? ⟨w.heap.size, 4, none⟩ = some (.int .i64 (d : Nat))) := fun N => (S5.out.drewN N).two.cells.2
        have HSD := Lib.hid (fun N => S5.out.drewN N)
        obtain ⟨ob, op, oc⟩ := hok
        generalize hX : B k (binOf xs k) = X at *
        obtain ⟨bb, pp, cc⟩ := X
        dsimp only at *
        have a0 := fun N => (HC.out N).1
        have a1 := fun N => (HC.out N).2.1
        have a2 := fun N => (HC.out N).2.2.1
        have b1 := fun N => (HV.out N).1
        have b2 := fun N => (HV.out N).2.1
        have b3 := fun N => (HV.out N).2.2.1
        have b4 := fun N => (HV.out N).2.2.2
        by_cases q1 : T < cc + h
        · have e1 : decide ((T : Int) - (cc : Int) < (h : Int)) = true := by simp; omega
          have HE := Lib.hid (HSM.out ⟨bb, pp, cc⟩ (by unfold touchB; rw [if_pos q1]))
          have HS6 : Hid (∀ N, PtRel w A n c t h u d base (.slice (some ⟨rr, 0, none⟩) n rc) (mapj (touchB t h u d T) (fun l => B l (binOf xs l)) (k + 1)) (wr.drewN N)) := fun N => by
            rw [HE.out]
            have e : (fun j => if j = k then ⟨bb, pp, cc⟩ else mapj (touchB t h u d T) (fun l => B l (binOf xs l)) k j) = mapj (touchB t h u d T) (fun l => B l (binOf xs l)) k := by
              funext j
              by_cases hj : j = k
              · rw [if_pos hj, hj, HAT.out]
              · rw [if_neg hj]
            rw [e]
            exact HSD.out N
          go_upto_region 12 with fail
          go_quiet (fail)
          go_wp2_with fail
          go_roundw
          case rel => exact ⟨k + 1, by omega, by go_num, HS6.out _⟩
          case measure => simp [intOf]; omega
        · have e1 : decide ((T : Int) - (cc : Int) < (h : Int)) = false := by simp; omega
          by_cases q2 : t < bb
          · have e2 : decide ((t : Int) < (bb : Int)) = true := by simp; omega
            have e2' : decide (t < bb) = true := by simpa using q2
            obtain ⟨zz, hzz⟩ : ∃ zz, min (pp + u) 65536 = zz := ⟨_, rfl⟩
            have hz2 : min 65536 ((pp : Int) + (u : Int)) = (zz : Int) := by omega
            have HE := Lib.hid (HSM.out ⟨bb, zz, T⟩ (by unfold touchB; rw [if_neg q1, if_pos q2, ← hzz]))
            have HS6 := Lib.hid (fun N => PtRel.both (f' := mapj (touchB t h u d T) (fun l => B l (binOf xs l)) (k + 1)) (p' := zz) (c' := T) (HSD.out N) hlt (by rw [HAT.out]; exact HE.out.symm))
            go_upto_region 12 with fail
            go_quiet (fail)
            obtain ⟨n1, rfl⟩ : ∃ n1, n1 = nq := ⟨_, rfl⟩
            go_upto_region 13 with fail
            go_quiet (fail)
            go_upto_region 14 with fail
            try rw [World.drewN_drewN]
            have h2 := a2 (n1 + nq)
            have h3 := b3 (n1 + nq)
            have h4 := (HC.out (n1 + nq)).2.2.2.1
            have h5 := (HC.out (n1 + nq)).2.2.2.2
            have h6 := a1 (n1 + nq)
            have HS7 := Lib.hid (HS6.out (n1 + nq))
            clear a0 a1 a2 b1 b2 b3 b4 HC HV HSD HS6
            generalize wr.drewN (n1 + nq) = wx at *
            go_region
            all_goals
              go_wp2_with fail
              go_roundw
              case rel => exact ⟨k + 1, by omega, by go_num, HS7.out.drewN 1⟩
              case measure => simp [intOf]; omega
          · have e2 : decide ((t : Int) < (bb : Int)) = false := by simp; omega
            have e2' : decide (t < bb) = false := by simpa using q2
            by_cases q3 : bb = 0
            · have e3 : ((bb : Int) == 0) = true := by simp; omega
              have e3' : (bb == 0) = true := by simpa using q3
              obtain ⟨zz, hzz⟩ : ∃ zz, pp - d = zz := ⟨_, rfl⟩
              have hz2 : max 0 ((pp : Int) - (d : Int)) = (zz : Int) := by omega
              have HE := Lib.hid (HSM.out ⟨bb, zz, T⟩ (by unfold touchB; rw [if_neg q1, if_neg q2, if_pos q3, ← hzz]))
              have HS6 := Lib.hid (fun N => PtRel.both (f' := mapj (touchB t h u d T) (fun l => B l (binOf xs l)) (k + 1)) (p' := zz) (c' := T) (HSD.out N) hlt (by rw [HAT.out]; exact HE.out.symm))
              go_upto_region 12 with fail
              go_quiet (fail)
              obtain ⟨n1, rfl⟩ : ∃ n1, n1 = nq := ⟨_, rfl⟩
              go_upto_region 13 with fail
              go_quiet (fail)
              go_upto_region 16 with fail
              try rw [World.drewN_drewN]
              have h2 := a2 (n1 + nq)
              have h3 := b4 (n1 + nq)
              have h4 := (HC.out (n1 + nq)).2.2.2.1
              have h5 := (HC.out (n1 + nq)).2.2.2.2
              have h6 := a1 (n1 + nq)
              have HS7 := Lib.hid (HS6.out (n1 + nq))
              clear a0 a1 a2 b1 b2 b3 b4 HC HV HSD HS6
              generalize wr.drewN (n1 + nq) = wx at *
              go_region
              all_goals
                go_wp2_with fail
                go_roundw
                case rel => exact ⟨k + 1, by omega, by go_num, HS7.out.drewN 1⟩
                case measure => simp [intOf]; omega
            · have e3 : ((bb : Int) == 0) = false := by simp; omega
              have e3' : (bb == 0) = false := by simpa using q3
              have HE := Lib.hid (HSM.out ⟨bb, pp, cc⟩ (by unfold touchB; rw [if_neg q1, if_neg q2, if_neg q3]))
              have HS6 : Hid (∀ N, PtRel w A n c t h u d base (.slice (some ⟨rr, 0, none⟩) n rc) (mapj (touchB t h u d T) (fun l => B l (binOf xs l)) (k + 1)) (wr.drewN N)) := fun N => by
                rw [HE.out]
                have e : (fun j => if j = k then ⟨bb, pp, cc⟩ else mapj (touchB t h u d T) (fun l => B l (binOf xs l)) k j) = mapj (touchB t h u d T) (fun l => B l (binOf xs l)) k := by
                  funext j
                  by_cases hj : j = k
                  · rw [if_pos hj, hj, HAT.out]
                  · rw [if_neg hj]
                rw [e]
                exact HSD.out N
              clear q3
              go_upto_region 12 with fail
              go_quiet (fail)
              go_upto_region 13 with fail
              go_quiet (fail)
              go_wp2_with fail
              try rw [World.drewN_drewN]
              go_roundw
              case rel => exact ⟨k + 1, by omega, by go_num, HS6.out _⟩
              case measure => simp [intOf]; omega
      · obtain rfl : k = n := by omega
        have hd1 : decide ((k : Int) < (k : Int)) = false := by simp
        obtain ⟨c0, c1, c2, c3, c4⟩ := S5.out.two.cells
        have HCH := Lib.hid (refChange_ b A k m c t h u d B P nb cb xs base _ _ wr (HDD.out.below S5.out.be) (HI.out.below S5.out.be) HFL.out S5.out.row hn.1 hn.2 hm)
        go_wp2_with (go_at_call 33; (with_reducible refine HCH.out.mono ?_); rintro e w9 ⟨⟨A9, c9, rfl, hd9⟩, hb9⟩; have T9 := Lib.hid (S5.out.two.below hb9); have D9 := Lib.hid hd9; have B9 := Lib.hid hb9; obtain ⟨r0, r1, r2, r3, r4, f0, f1, f2, f3, f4⟩ := T9.out.room; clear hd9 hb9)
        refine bodyPost_ret (v := dval A9 k c9 t h u d) (by simp [results, Try.results18, go_sem, r0, r1, r2, r3, r4]) rfl ?_
        exact doc_end HW.out S5.out D9.out B9.out (fun l i hl _ => chg_upd l i hl)
end Go.Proofs.Ytedpikpknlaggaa
