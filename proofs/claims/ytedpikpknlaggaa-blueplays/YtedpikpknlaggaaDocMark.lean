/- The contracts of the document's Mark and Clear, and of the law's same. Conditions: those of each theorem. -/
import Derived.Test.YtedpikpknlaggaaDocBase
import Derived.Test.YtedpikpknlaggaaRest
namespace Go.Proofs.Ytedpikpknlaggaa
open Go.RowKit

theorem mk_at0 {B : Bins} {xs : List Int} : ∀ (j l : Nat), l < j → mk B xs j ≤ (B l (binOf xs l)).p
  | 0, l, h => absurd h (by omega)
  | j + 1, l, h => by
    rcases (by omega : l < j ∨ l = j) with h1 | rfl
    · exact Nat.le_trans (Nat.min_le_left _ _) (mk_at0 j l h1)
    · exact Nat.min_le_right _ _
/-- The argument's box alone. -/
structure One5 (w : World) (A : Option Addr) (n c t h u d : Nat) (W : World) : Prop where
  box : Blk W w.heap.size 36 (dcs A n c t h u d)
  be : Below w.heap.size w W
theorem One5.start (w : World) (A : Option Addr) (n c t h u d : Nat) : One5 w A n c t h u d (w.alloc (dbox A n c t h u d)) := ⟨Blk.new w 36 _, below_one _ _⟩
theorem One5.below {w W W' : World} {A : Option Addr} {n c t h u d : Nat} (x : One5 w A n c t h u d W) (hb : Below W.heap.size W W') : One5 w A n c t h u d W' := ⟨x.box.below hb, x.be.trans (hb.mono x.be.size)⟩
theorem One5.cells {w W : World} {A : Option Addr} {n c t h u d : Nat} (x : One5 w A n c t h u d W) : W.cell? ⟨w.heap.size, 0, none⟩ = some (.slice A n c) ∧ W.cell? ⟨w.heap.size, 1, none⟩ = some (.int .i64 (t : Nat)) ∧ W.cell? ⟨w.heap.size, 2, none⟩ = some (.int .i64 (h : Nat)) ∧ W.cell? ⟨w.heap.size, 3, none⟩ = some (.int .i64 (u : Nat)) ∧ W.cell? ⟨w.heap.size, 4, none⟩ = some (.int .i64 (d : Nat)) :=
  ⟨x.box.cell 0, x.box.cell 1, x.box.cell 2, x.box.cell 3, x.box.cell 4⟩
set_option maxHeartbeats 2000000 in
theorem refMark_ (b : Nat → Prop) (A : Option Addr) (n m c t h u d : Nat) (B : Bins) (P : Option Addr) (nb cb : Nat) (xs : List Int) (w : World) (hd : DocAt b w A n m B) (hi : Ints w P nb xs) (hnb : nb ≤ 1000000) (hn : 1 ≤ n ∧ n ≤ 4) (hB : BOk B) :
    Calls Try.prog 22 #[dval A n c t h u d, .slice P nb cb] w fun e w' => e = .returned (.int .i64 ((if flow n m xs then mk B xs n else 0 : Nat) : Int)) ∧ Below w.heap.size w w' := by
  have T1 := Lib.hid (One5.start w A n c t h u d)
  have D1 := Lib.hid (hd.below T1.out.be)
  have I1 := Lib.hid (hi.below T1.out.be)
  have HF := Lib.hid (refFlows_ b A n m c t h u d B P nb cb xs _ D1.out I1.out hnb hn)
  obtain ⟨c0, c1, c2, c3, c4⟩ := T1.out.cells
  rcases hfl : flow n m xs with _ | _
  · rw [if_neg (by simp)]
    rw [hfl] at HF
    clear hd hi hB
    go_enter Try.func22, Try.ntmps22
    go_wp2_with (go_at_call 14; (with_reducible refine HF.out.mono ?_); rintro e w3 ⟨rfl, hb3⟩; have T3 := Lib.hid (T1.out.below hb3); clear hb3)
    go_ret
    exact ⟨rfl, T3.out.be⟩
  · rw [if_pos rfl]
    rw [hfl] at HF
    have HOF := Lib.hid (fun W hW => refOf_ b A n m c t h u d B P nb cb xs W (hd.below hW) (hi.below hW) hfl hn.2)
    have hp0 := (hB 0 (binOf xs 0)).p
    have HPP : Hid (∀ k, (B k (binOf xs k)).p ≤ 65536) := fun k => (hB k (binOf xs k)).p
    have HMK := Lib.hid (mk_le B xs)
    have HME := Lib.hid (mk_at0 (B := B) (xs := xs) n 0 (by omega))
    clear hd hi hB
    go_enter Try.func22, Try.ntmps22
    go_upto_region 3 with (go_at_call 14; (with_reducible refine HF.out.mono ?_); rintro e w3 ⟨rfl, hb3⟩; have T3 := Lib.hid (T1.out.below hb3); clear hb3)
    clear c0 c1 c2 c3 c4 T1 D1 I1 HF
    obtain ⟨c0, c1, c2, c3, c4⟩ := T3.out.cells
    go_upto_region 4 with (go_at_call 31; (with_reducible refine (HOF.out w3 T3.out.be).mono ?_); rintro e w4 ⟨⟨v, rfl, hr4⟩, hb4⟩; have T4 := Lib.hid (T3.out.below hb4); have R4 := Lib.hid hr4; clear hr4 hb4)
    obtain ⟨rr, rc, rfl, _, _⟩ := World.ownsRow.form R4.out hn.1
    have y0 := (row_cells (k := 0) R4.out hn.1).2.2.1
    rw [Nat.zero_mul, Nat.zero_add] at y0
    clear c0 c1 c2 c3 c4
    go_wp2_with fail
    clear y0
    go_loop [6, 7, 21] (fun o _ i => ∃ k : Nat, k ≤ n ∧ i = .int .i64 k ∧ o = .int .i64 (min (B 0 (binOf xs 0)).p (mk B xs k) : Nat)) (fun _ _ i => n - (intOf i).toNat)
    case atStart => exact ⟨0, by omega, rfl, by rw [show min (B 0 (binOf xs 0)).p (mk B xs 0) = (B 0 (binOf xs 0)).p from Nat.min_eq_left hp0]⟩
    case round =>
      obtain ⟨k, hk, rfl, rfl⟩ := hrel
      by_cases hlt : k < n
      · have hd1 : decide ((k : Int) < (n : Int)) = true := by simp; omega
        have y0 := (row_cells (k := k) R4.out hlt).2.2.1
        have HE : Hid (min (min (B 0 (binOf xs 0)).p (mk B xs k)) (B k (binOf xs k)).p = min (B 0 (binOf xs 0)).p (mk B xs (k + 1))) := Nat.min_assoc _ _ _
        have h1 := HPP.out k
        have h2 : min (B 0 (binOf xs 0)).p (mk B xs k) ≤ 65536 := Nat.le_trans (Nat.min_le_left _ _) hp0
        generalize (B k (binOf xs k)).p = pk at *
        generalize hoo : min (B 0 (binOf xs 0)).p (mk B xs k) = oo at *
        obtain ⟨zz, hzz⟩ : ∃ zz, min oo pk = zz := ⟨_, rfl⟩
        have hz2 : min (oo : Int) (pk : Int) = (zz : Int) := by omega
        have HE2 : Hid (zz = min (B 0 (binOf xs 0)).p (mk B xs (k + 1))) := by show _ = _; rw [← hzz]; exact HE.out
        go_wp2
        go_round
        case rel => exact ⟨k + 1, by omega, by go_num, by rw [← HE2.out]⟩
        case measure => simp [intOf]; omega
      · obtain rfl : k = n := by omega
        have hd1 : decide ((k : Int) < (k : Int)) = false := by simp
        rw [Nat.min_eq_right HME.out]
        go_wp2
        go_ret
        exact ⟨rfl, T4.out.be⟩
end Go.Proofs.Ytedpikpknlaggaa
