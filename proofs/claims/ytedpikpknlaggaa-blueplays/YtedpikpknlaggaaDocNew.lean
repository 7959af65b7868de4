/- The contracts of the document's New and change. Conditions: those of each theorem. -/
import Derived.Test.YtedpikpknlaggaaLevs
namespace Go.Proofs.Ytedpikpknlaggaa
open Go.RowKit

/-- What the document's New, Put, Touch and Clear answer: levels in new memory. -/
def DocOut (n m t h u d : Nat) (B : Bins) (w : World) (e : Ending) (w' : World) : Prop :=
  (∃ A c, e = .returned (dval A n c t h u d) ∧ DocAt (fun k => w.heap.size ≤ k) w' A n m B) ∧ Below w.heap.size w w'
/-- Where New stands. -/
structure DnRel (w : World) (n m t h u d k : Nat) (W : World) : Prop where
  at_ : ∃ v q cp, Blk W (w.heap.size + 1) 36 [v, .int .i64 (t : Nat), .int .i64 (h : Nat), .int .i64 (u : Nat), .int .i64 (d : Nat)] ∧ LevD W (w.heap.size + 2) v q cp m k (fun _ _ => bin0)
  res : Blk W w.heap.size 36 (dcs none 0 0 0 0 0 0)
  be : Below w.heap.size w W
  size : w.heap.size + 2 ≤ W.heap.size
theorem ownsRow_keep {w w' : World} {base : Nat} {e : TypeId} {size n : Nat} {v : Value} {xs : List Value} (h : w.ownsRow base e size v n xs) (hb : Below w.heap.size w w') : w'.ownsRow base e size v n xs :=
  (Far.of_below hb nobody).row h (fun _ _ e => e)
/-- What stands when the result has been stored. -/
abbrev resAt (W : World) (g : Nat) (A : Option Addr) (n c t h u d : Nat) : World := ((((W.setCell ⟨g, 0, none⟩ (.slice A n c)).setCell ⟨g, 1, none⟩ (.int .i64 (t : Nat))).setCell ⟨g, 2, none⟩ (.int .i64 (h : Nat))).setCell ⟨g, 3, none⟩ (.int .i64 (u : Nat))).setCell ⟨g, 4, none⟩ (.int .i64 (d : Nat))
theorem far_res (W : World) (g : Nat) (A : Option Addr) (n c t h u d : Nat) : Far (only g) W (resAt W g A n c t h u d) := (((((Far.refl (only g) W).set_ (p := ⟨g, 0, none⟩) (fun _ => rfl) _).set_ (p := ⟨g, 1, none⟩) (fun _ => rfl) _).set_ (p := ⟨g, 2, none⟩) (fun _ => rfl) _).set_ (p := ⟨g, 3, none⟩) (fun _ => rfl) _).set_ (p := ⟨g, 4, none⟩) (fun _ => rfl) _
theorem below_res {w W : World} {B g : Nat} (h : Below B w W) (A : Option Addr) (n c t hh u d : Nat) (hg : B ≤ g := by exact Nat.le_refl _) : Below B w (resAt W g A n c t hh u d) := ((((h.setCell hg _).setCell hg _).setCell hg _).setCell hg _).setCell hg _
set_option maxHeartbeats 2000000 in
theorem refNew_ (n m t h u d : Nat) (x1 x2 x3 x4 x5 x6 : Int) (w : World) (e1 : x1 = n) (e2 : x2 = m) (e3 : x3 = t) (e4 : x4 = h) (e5 : x5 = u) (e6 : x6 = d) (n1 : 1 ≤ n) (n2 : n ≤ 4) (m2 : m ≤ 64) :
    Calls Try.prog 13 #[.int .i64 x1, .int .i64 x2, .int .i64 x3, .int .i64 x4, .int .i64 x5, .int .i64 x6] w (DocOut n m t h u d (fun _ _ => bin0) w) := by
  subst e1 e2 e3 e4 e5 e6
  have hmk := fun W => run_make_many (P := Try.prog) 62 66 (.agg #[.int .i64 0, .int .i64 0, .int .i64 0]) #[.int .i64 0, .int .i64 0, .int .i64 0] 3 24 Try.underlying62 info66 rfl .i64 .i64 m (by omega) (by omega) W
  have H0 : Hid (DnRel w n m t h u d 0 ((w.alloc (dbox none 0 0 0 0 0 0)).alloc (dbox none 0 0 t h u d))) := ⟨⟨_, _, _, by have := Blk.new (w.alloc (dbox none 0 0 0 0 0 0)) 36 (dcs none 0 0 t h u d); simpa using this, LevD.nil⟩, (Blk.new w 36 (dcs none 0 0 0 0 0 0)).alloc _, ((Below.refl _ w).alloc (Nat.le_refl _) _).alloc (by simp) _, by simp⟩
  go_enter Try.func13, Try.ntmps13
  go_wp2_with fail
  go_loopw [20] (fun i w' => ∃ k : Nat, k ≤ n ∧ i = .int .i64 k ∧ DnRel w n m t h u d k w') (fun i _ => n - (intOf i).toNat)
  case atStart => exact ⟨0, by omega, rfl, H0.out⟩
  case round =>
    clear H0
    obtain ⟨k, hk, rfl, ⟨v, q, cp, r1, r2⟩, r3, r4, r5⟩ := hrel
    have R1 := Lib.hid r1
    have R2 := Lib.hid r2
    have R3 := Lib.hid r3
    have R4 := Lib.hid r4
    have R5 := Lib.hid r5
    clear r1 r2 r3 r4 r5
    by_cases hlt : k < n
    · have hd1 : decide ((k : Int) < (n : Int)) = true := by simp; omega
      go_upto_region 4 with fail
      refine til_begin (fun W => Blk W (w.heap.size + 1) 36 [v, .int .i64 (t : Nat), .int .i64 (h : Nat), .int .i64 (u : Nat), .int .i64 (d : Nat)]) 6 (by kernel_rfl) ?_
      have D0 := Lib.hid ((R1.out : Blk wr.drew (w.heap.size + 1) 36 [v, .int .i64 (t : Nat), .int .i64 (h : Nat), .int .i64 (u : Nat), .int .i64 (d : Nat)]))
      refine til_take (i := 0) (oi := ⟨some 22, _, _, _, _, _⟩) (v := ?_) rfl (by kernel_rfl) (by kernel_rfl) (by kernel_rfl) (by decide) (by kernel_rfl) (by kernel_rfl) (fun _ _ _ h => h) (Or.inl ⟨by rfl, ?_⟩) D0.out ?_
      rotate_left
      · (intro W hSW; clear hSW; go_simp)
        first | done | (with_reducible rfl)
      try simp only [Act.put, List.setIfInBounds_toArray, List.set_cons_zero, List.set_cons_succ]
      refine til_take (i := 1) (oi := ⟨some 23, _, _, _, _, _⟩) (v := v) rfl (by kernel_rfl) (by kernel_rfl) (by kernel_rfl) (by decide) (by kernel_rfl) (by kernel_rfl) (fun _ _ _ h => h) (Or.inl ⟨by rfl, ?_⟩) D0.out ?_
      · (intro W hSW; have c0 := hSW.cell 0; clear hSW; go_simp)
      try simp only [Act.put, List.setIfInBounds_toArray, List.set_cons_zero, List.set_cons_succ]
      refine til_take (i := 2) (oi := ⟨some 24, _, _, _, _, _⟩) (v := ?_) rfl (by kernel_rfl) (by kernel_rfl) (by kernel_rfl) (by decide) (by kernel_rfl) (by kernel_rfl) (fun _ _ _ h => h) (Or.inl ⟨by rfl, ?_⟩) D0.out ?_
      rotate_left
      · (intro W hSW; clear hSW; go_simp)
        first | done | (with_reducible rfl)
      try simp only [Act.put, List.setIfInBounds_toArray, List.set_cons_zero, List.set_cons_succ]
      have Y1 : Hid (Below wr.heap.size wr (wr.drew.alloc (.cells (madeCells #[.int .i64 0, .int .i64 0, .int .i64 0] (m * 3)) 66))) := (Below.refl _ wr).drew.alloc (Nat.le_refl _) _
      have K1 := Lib.hid (R1.out.below Y1.out)
      have X1 : Hid ((wr.drew.alloc (.cells (madeCells #[.int .i64 0, .int .i64 0, .int .i64 0] (m * 3)) 66)).ownsRow (w.heap.size + 2) 66 3 (.slice (some ⟨wr.heap.size, 0, none⟩) m m) m (cel true (fun _ => bin0) m)) := made_level (w := wr.drew) R5.out m2
      refine til_one (i := 3) (o := ⟨some 25, _, _, _, _, _⟩) (by kernel_rfl) rfl (fun K hK => ?_)
      go_simp
      refine hK.out _ _ (fun _ => K1.out) ?_
      clear hK K
      try simp only [Act.put, List.setIfInBounds_toArray, List.set_cons_zero, List.set_cons_succ]
      have Y2 : Hid (Below wr.heap.size wr ((wr.drew.alloc (.cells (madeCells #[.int .i64 0, .int .i64 0, .int .i64 0] (m * 3)) 66)).alloc (.cells #[.slice (some ⟨wr.heap.size, 0, none⟩) m m] 62))) := Y1.out.alloc (by simp) _
      have K2 := Lib.hid (R1.out.below Y2.out)
      have X2 := Lib.hid (ownsRow_keep X1.out (below_one _ (.cells #[.slice (some ⟨wr.heap.size, 0, none⟩) m m] 62)))
      have L2 := Lib.hid (R2.out.below Y2.out)
      refine til_one (i := 4) (o := ⟨some 26, _, _, _, _, _⟩) (by kernel_rfl) rfl (fun K hK => ?_)
      go_simp
      refine hK.out _ _ (fun _ => K2.out) ?_
      clear hK K
      obtain ⟨v', w3, hrun, o3, g3⟩ := run_append_level ((wr.drew.alloc (.cells (madeCells #[.int .i64 0, .int .i64 0, .int .i64 0] (m * 3)) 66)).alloc (.cells #[.slice (some ⟨wr.heap.size, 0, none⟩) m m] 62)) (w.heap.size + 2) k v _ (wr.heap.size + 1) (.slice (some ⟨wr.heap.size, 0, none⟩) m m) L2.out.row (by have := Blk.new (wr.drew.alloc (.cells (madeCells #[.int .i64 0, .int .i64 0, .int .i64 0] (m * 3)) 66)) 62 [.slice (some ⟨wr.heap.size, 0, none⟩) m m]; simpa using this) rfl (by omega) (Nat.le_trans R5.out Y2.out.size)
      obtain ⟨q', cp', hlev⟩ := L2.out.more o3 g3 X2.out
      obtain ⟨gv, cv, hv', _, _⟩ := World.ownsRow.form o3 (by omega)
      have L3 := Lib.hid hlev
      have K3 := Lib.hid (K2.out.grown g3 (K2.out.row_apart L2.out.row (by decide)))
      have J3 := Lib.hid ((R3.out.below Y2.out).grown g3 ((R3.out.below Y2.out).row_apart L2.out.row (by decide)))
      have W3 : Hid (Below w.heap.size w w3) := (R4.out.trans (Y2.out.mono R4.out.size)).grown g3 (Nat.le_trans R4.out.size Y2.out.size) (fun i e => by have := (L2.out.row.lt i e).1; omega)
      have Z3 : Hid (w.heap.size + 2 ≤ w3.heap.size) := Nat.le_trans (Nat.le_trans R5.out Y2.out.size) g3.size
      clear o3 g3 hlev
      try simp only [Act.put, List.setIfInBounds_toArray, List.set_cons_zero, List.set_cons_succ]
      refine til_one (i := 5) (o := ⟨some 27, _, _, _, _, _⟩) (by kernel_rfl) rfl (fun K hK => ?_)
      refine step_app (by rfl) 34 (.tmp 23) (.tmp 26) (by rfl) _ _ _ (by rfl) (by rfl) hrun ?_
      refine hK.out _ _ (fun _ => K3.out) ?_
      clear hK K
      subst hv'
      clear hrun
      have c5 := K3.out.cell 0
      have f5 := K3.out.frozen 0
      try simp only [Act.put, List.setIfInBounds_toArray, List.set_cons_zero, List.set_cons_succ]
      refine til_one (i := 6) (o := ⟨some 28, _, _, _, _, _⟩) (by kernel_rfl) rfl (fun K hK => ?_)
      go_simp
      refine hK.out _ _ (past (by kernel_rfl)) ?_
      clear hK K
      try simp only [Act.put, List.setIfInBounds_toArray, List.set_cons_zero, List.set_cons_succ]
      refine til_one (i := 7) (o := ⟨none, _, _, _, _, _⟩) (by kernel_rfl) rfl (fun K hK => ?_)
      go_simp
      refine hK.out _ _ (past (by kernel_rfl)) ?_
      clear hK K
      try simp only [Act.put]
      refine til_done (by kernel_rfl) ?_ _
      have F4 : Hid (Far (only (w.heap.size + 1)) w3 (w3.setCell ⟨w.heap.size + 1, 0, none⟩ (.slice (some ⟨gv, 0, none⟩) (k + 1) cv))) := (Far.refl (only (w.heap.size + 1)) _).set_ (p := ⟨w.heap.size + 1, 0, none⟩) (fun _ => rfl) _
      have X4 : Hid (DnRel w n m t h u d (k + 1) (w3.setCell ⟨w.heap.size + 1, 0, none⟩ (.slice (some ⟨gv, 0, none⟩) (k + 1) cv))) := ⟨⟨_, _, _, by simpa using K3.out.set_ 0 (.slice (some ⟨gv, 0, none⟩) (k + 1) cv), L3.out.far F4.out (fun i h1 _ e => by have : i = w.heap.size + 1 := e; omega)⟩, J3.out.far F4.out (fun e => by have : w.heap.size = w.heap.size + 1 := e; omega), W3.out.setCell (by simp) _, Nat.le_trans Z3.out F4.out.size⟩
      clear c5 f5 F4 K3 J3 L3 W3 Z3 K2 K1 X1 X2 L2 Y1 Y2 R1 R2 R3 R4 R5
      generalize (w3.setCell ⟨w.heap.size + 1, 0, none⟩ (.slice (some ⟨gv, 0, none⟩) (k + 1) cv)) = x4 at *
      go_wp2_with fail
      go_roundw
      case rel => exact ⟨k + 1, by omega, by go_num, X4.out⟩
      case measure => simp [intOf]; omega
    · obtain rfl : k = n := by omega
      have hd1 : decide ((k : Int) < (k : Int)) = false := by simp
      obtain ⟨A, cc, rfl, hdoc⟩ := R2.out.done n1
      have HD := Lib.hid hdoc
      clear hdoc
      have c0 := R1.out.cell 0
      have c1 := R1.out.cell 1
      have c2 := R1.out.cell 2
      have c3 := R1.out.cell 3
      have c4 := R1.out.cell 4
      have e0 := R3.out.cell 0
      have e1 := R3.out.cell 1
      have e2 := R3.out.cell 2
      have e3 := R3.out.cell 3
      have e4 := R3.out.cell 4
      have f0 := R3.out.frozen 0
      have f1 := R3.out.frozen 1
      have f2 := R3.out.frozen 2
      have f3 := R3.out.frozen 3
      have f4 := R3.out.frozen 4
      go_wp2_with fail
      refine bodyPost_ret (v := dval A k cc t h u d) (by simp [results, Try.results13, go_sem, e0, e1, e2, e3, e4]) rfl ?_
      have F5 := far_res wr w.heap.size A k cc t h u d
      exact ⟨⟨A, cc, rfl, (HD.out.far F5 (fun i h1 e => by have : i = w.heap.size := e; omega)).weak (fun i hi => by have : w.heap.size + 2 ≤ i := hi; show w.heap.size ≤ i; omega)⟩, below_res R4.out A k cc t h u d⟩
end Go.Proofs.Ytedpikpknlaggaa
