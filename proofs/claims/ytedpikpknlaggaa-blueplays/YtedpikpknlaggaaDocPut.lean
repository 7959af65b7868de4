/- The contract of the document's Put. Conditions: those of each theorem. -/
import Derived.Test.YtedpikpknlaggaaDocBase
namespace Go.Proofs.Ytedpikpknlaggaa
open Go.RowKit

/-- A bin with z bytes more, or less. -/
def addB (z : Int) (x : Bin) : Bin := if 0 ≤ z then putB z.toNat x else takeB (-z).toNat x
set_option maxHeartbeats 4000000 in
theorem refPut_ (b : Nat → Prop) (A : Option Addr) (n m c t h u d : Nat) (B : Bins) (P : Option Addr) (nb cb : Nat) (xs : List Int) (z : Int) (w : World) (hd : DocAt b w A n m B) (hi : Ints w P nb xs) (hnb : nb ≤ 1000000) (hn : 1 ≤ n ∧ n ≤ 4) (hm : m ≤ 64) (hbw : ∀ k, w.heap.size ≤ k → b k) (hB : BOk B) (hz : -1073741824 ≤ z ∧ z ≤ 1073741824) :
    Calls Try.prog 15 #[dval A n c t h u d, .slice P nb cb, .int .i64 z] w (DocRes b n m t h u d (if flow n m xs then upd (addB z) xs n B else B) w) := by
  have T2 := Lib.hid (Two5.start w A n c t h u d)
  have D2 := Lib.hid (hd.below T2.out.be)
  have I2 := Lib.hid (hi.below T2.out.be)
  have HF := Lib.hid (refFlows_ b A n m c t h u d B P nb cb xs _ D2.out I2.out hnb hn)
  have HB := Lib.hid hB
  have HW := Lib.hid hbw
  obtain ⟨c0, c1, c2, c3, c4⟩ := T2.out.cells
  obtain ⟨r0, r1, r2, r3, r4, f0, f1, f2, f3, f4⟩ := T2.out.room
  rcases hfl : flow n m xs with _ | _
  · rw [if_neg (by simp)]
    rw [hfl] at HF
    have HD := Lib.hid (fun W hW => doc_same (W := W) (c := c) (t := t) (h := h) (u := u) (d := d) hd hW)
    clear hd hi hbw hB
    go_enter Try.func15, Try.ntmps15
    go_wp2_with (go_at_call 14; (with_reducible refine HF.out.mono ?_); rintro e w3 ⟨rfl, hb3⟩; have T3 := Lib.hid (T2.out.below hb3); obtain ⟨c0, c1, c2, c3, c4⟩ := T3.out.cells; obtain ⟨r0, r1, r2, r3, r4, f0, f1, f2, f3, f4⟩ := T3.out.room; clear hb3)
    refine bodyPost_ret (v := dval A n c t h u d) (by simp [results, Try.results15, go_sem, r0, r1, r2, r3, r4]) rfl ?_
    exact HD.out _ T3.out.be
  · rw [if_pos rfl]
    rw [hfl] at HF
    have HFL := Lib.hid hfl
    have HI := Lib.hid hi
    have HDD := Lib.hid hd
    clear hd hi hbw hB
    go_enter Try.func15, Try.ntmps15
    go_upto_region 3 with (go_at_call 14; (with_reducible refine HF.out.mono ?_); rintro e w3 ⟨rfl, hb3⟩; have T3 := Lib.hid (T2.out.below hb3); clear hb3)
    clear c0 c1 c2 c3 c4 r0 r1 r2 r3 r4 f0 f1 f2 f3 f4 T2 D2 I2 HF
    have HOF := Lib.hid (refOf_ b A n m c t h u d B P nb cb xs w3 (HDD.out.below T3.out.be) (HI.out.below T3.out.be) HFL.out hn.2)
    obtain ⟨c0, c1, c2, c3, c4⟩ := T3.out.cells
    go_upto_region 4 with (go_at_call 31; (with_reducible refine HOF.out.mono ?_); rintro e w4 ⟨⟨v, rfl, hr4⟩, hb4⟩; have P4 := Lib.hid (T3.out.with_ hb4 hr4); clear hr4 hb4)
    obtain ⟨rr, rc, rfl, _, _⟩ := World.ownsRow.form P4.out.row hn.1
    have S4 : Hid (PtRel w A n c t h u d w3.heap.size (.slice (some ⟨rr, 0, none⟩) n rc) (mapj (addB z) (fun l => B l (binOf xs l)) 0) w4) := by
      rw [mapj_zero]
      exact P4.out
    clear P4 HOF T3 c0 c1 c2 c3 c4
    generalize w3.heap.size = base at *
    go_wp2_with fail
    go_loopw [8, 19] (fun _ i w' => ∃ k : Nat, k ≤ n ∧ i = .int .i64 k ∧ PtRel w A n c t h u d base (.slice (some ⟨rr, 0, none⟩) n rc) (mapj (addB z) (fun l => B l (binOf xs l)) k) w') (fun _ i _ => n - (intOf i).toNat)
    case atStart => exact ⟨0, by omega, rfl, S4.out⟩
    case round =>
      clear S4
      obtain ⟨k, hk, rfl, hr⟩ := hrel
      have S5 := Lib.hid hr
      clear hr
      by_cases hlt : k < n
      · have hd1 : decide ((k : Int) < (n : Int)) = true := by simp; omega
        obtain ⟨y0, _, _, g0, _, _⟩ := row_cells S5.out.row hlt
        rw [mapj_at] at y0
        have hbb := (HB.out k (binOf xs k)).b
        have HST := Lib.hid (fun (v : Nat) (hv : v = (addB z (B k (binOf xs k))).b) => PtRel.store (f' := mapj (addB z) (fun l => B l (binOf xs l)) (k + 1)) S5.out (i := k * 3) (.int .i64 (v : Nat)) (by
          rw [cel_set_b hlt, ← mapj_succ, mapj_at]
          congr 1
          funext j
          by_cases hj : j = k
          · rw [if_pos hj, if_pos hj, hv]
            unfold addB
            split <;> rfl
          · rw [if_neg hj, if_neg hj]))
        have hbx : (addB z (B k (binOf xs k))).b = if 0 ≤ z then min ((B k (binOf xs k)).b + z.toNat) 4611686018427387904 else (B k (binOf xs k)).b - (-z).toNat := by
          unfold addB
          split <;> rfl
        rw [hbx] at HST
        generalize (B k (binOf xs k)).b = bb at *
        clear hbx
        by_cases hz0 : 0 ≤ z
        · have e1 : decide (0 ≤ z) = true := by simpa using hz0
          obtain ⟨q, hq⟩ : ∃ q : Nat, addC (cnt (bb : Int)) (cnt z) = (q : Int) := ⟨(addC (cnt (bb : Int)) (cnt z)).toNat, by have := addC_bd (cnt_bd (bb : Int)).1 (cnt_bd z).1; omega⟩
          have HQ := Lib.hid (HST.out q (by
            rw [if_pos hz0]
            rw [cnt_id (by omega) (by omega), cnt_id (by omega) (by omega)] at hq
            unfold addC at hq
            split at hq <;> omega))
          have HA := Lib.hid (fun W => radd_any (bb : Int) z W)
          rw [hq] at HA
          clear hq
          go_wp2_with (go_at_call 32; (with_reducible refine (HA.out _).mono ?_); rintro e w' ⟨rfl, rfl⟩)
          go_roundw
          case rel => exact ⟨k + 1, by omega, by go_num, HQ.out⟩
          case measure => simp [intOf]; omega
        · have e1 : decide (0 ≤ z) = false := by simpa using hz0
          by_cases hp : 0 < (bb : Int) + z
          · have e2 : decide (0 < (bb : Int) + z) = true := by simpa using hp
            obtain ⟨q, hq⟩ : ∃ q : Nat, (bb : Int) + z = (q : Int) := ⟨((bb : Int) + z).toNat, by omega⟩
            have HQ := Lib.hid (HST.out q (by rw [if_neg hz0]; omega))
            rw [← hq] at HQ
            go_wp2_with fail
            go_roundw
            case rel => exact ⟨k + 1, by omega, by go_num, by first | exact HQ.out | (rw [hq] at HQ; exact HQ.out)⟩
            case measure => simp [intOf]; omega
          · have e2 : decide (0 < (bb : Int) + z) = false := by simpa using hp
            have HQ := Lib.hid (HST.out 0 (by rw [if_neg hz0]; omega))
            go_wp2_with fail
            go_roundw
            case rel => exact ⟨k + 1, by omega, by go_num, HQ.out⟩
            case measure => simp [intOf]; omega
      · obtain rfl : k = n := by omega
        have hd1 : decide ((k : Int) < (k : Int)) = false := by simp
        obtain ⟨c0, c1, c2, c3, c4⟩ := S5.out.two.cells
        have HCH := Lib.hid (refChange_ b A k m c t h u d B P nb cb xs base _ _ wr (HDD.out.below S5.out.be) (HI.out.below S5.out.be) HFL.out S5.out.row hn.1 hn.2 hm)
        go_wp2_with (go_at_call 33; (with_reducible refine HCH.out.mono ?_); rintro e w9 ⟨⟨A9, c9, rfl, hd9⟩, hb9⟩; have T9 := Lib.hid (S5.out.two.below hb9); have D9 := Lib.hid hd9; have B9 := Lib.hid hb9; obtain ⟨r0, r1, r2, r3, r4, f0, f1, f2, f3, f4⟩ := T9.out.room; clear hd9 hb9)
        refine bodyPost_ret (v := dval A9 k c9 t h u d) (by simp [results, Try.results15, go_sem, r0, r1, r2, r3, r4]) rfl ?_
        exact doc_end HW.out S5.out D9.out B9.out (fun l i hl _ => chg_upd l i hl)
end Go.Proofs.Ytedpikpknlaggaa
