/- The contract of the document's change: a flow's bins put anew, all levels in new memory. Conditions: those of each theorem. -/
import Derived.Test.YtedpikpknlaggaaDocNew
namespace Go.Proofs.Ytedpikpknlaggaa
open Go.RowKit

/-- With other bins of a flow. -/
def chg (xs : List Int) (tf : Nat → Bin) (B : Bins) : Bins := fun l i => if i = binOf xs l then tf l else B l i
/-- Where change stands. -/
structure ChRel (w : World) (A : Option Addr) (n c t h u d m k : Nat) (F : Bins) (v : Value) (W : World) : Prop where
  at_ : ∃ q cp, LevD W (w.heap.size + 2) v q cp m k F
  box : Blk W w.heap.size 36 (dcs A n c t h u d)
  res : Blk W (w.heap.size + 1) 36 (dcs none 0 0 0 0 0 0)
  be : Below w.heap.size w W
  size : w.heap.size + 2 ≤ W.heap.size
theorem ChRel.start (w : World) (A : Option Addr) (n c t h u d m : Nat) (F : Bins) : ChRel w A n c t h u d m 0 F (.slice none 0 0) ((w.alloc (dbox A n c t h u d)).alloc (dbox none 0 0 0 0 0 0)) :=
  ⟨⟨_, _, LevD.nil⟩, (Blk.new w 36 (dcs A n c t h u d)).alloc _, by have := Blk.new (w.alloc (dbox A n c t h u d)) 36 (dcs none 0 0 0 0 0 0); simpa using this, ((Below.refl _ w).alloc (Nat.le_refl _) _).alloc (by simp) _, by simp⟩
theorem DocAt.raws {b : Nat → Prop} {w : World} {A : Option Addr} {n m : Nat} {B : Bins} (h : DocAt b w A n m B) : ∃ (s : Nat) (q cp : Nat → Nat), A = some ⟨s, 0, none⟩ ∧ ∀ W, Below w.heap.size w W → ∀ l, l < n → W.cell? ⟨s, l, none⟩ = some (.slice (some ⟨q l, 0, none⟩) m (cp l)) ∧ ∀ i u, (cel true (B l) m)[i]? = some u → W.cell? ⟨q l, i, none⟩ = some u := by
  obtain ⟨s, q, cp, rfl, h1, h2⟩ := h
  refine ⟨s, q, cp, rfl, fun W hW l hl => ⟨(hW.cell (World.block_lt_of_cell? w _ (h2 l hl).1)).trans (h2 l hl).1, fun i u hu => ?_⟩⟩
  have hi : i < m * 3 := by
    have := (List.getElem?_eq_some_iff.1 hu).1
    rwa [cel_length] at this
  have h3 := (h2 l hl).2.2 i hi
  exact ((hW.cell (cell_some h3 (cel_is hi))).trans h3).trans hu
/-- A bin of an own row stored whole. -/
theorem row_put {w : World} {base g m c k : Nat} {f : Nat → Bin} (h : w.ownsRow base 66 3 (.slice (some ⟨g, 0, none⟩) m c) m (cel true f m)) (hk : k < m) (x : Bin) :
    (((w.setCell ⟨g, k * 3, none⟩ (.int .i64 (x.b : Nat))).setCell ⟨g, k * 3 + 1, none⟩ (.int .i64 (x.c : Nat))).setCell ⟨g, k * 3 + 2, none⟩ (.int .i64 (x.p : Nat))).ownsRow base 66 3 (.slice (some ⟨g, 0, none⟩) m c) m (cel true (fun j => if j = k then x else f j) m) := by
  have h1 := (h.stored (k * 3) (.int .i64 (x.b : Nat))).1
  have h2 := (h1.stored (k * 3 + 1) (.int .i64 (x.c : Nat))).1
  have h3 := (h2.stored (k * 3 + 2) (.int .i64 (x.p : Nat))).1
  rw [rel_set3 hk x] at h3
  exact h3
theorem row_cells {w : World} {base g m c k : Nat} {f : Nat → Bin} (h : w.ownsRow base 66 3 (.slice (some ⟨g, 0, none⟩) m c) m (cel true f m)) (hk : k < m) :
    w.cell? ⟨g, k * 3, none⟩ = some (.int .i64 ((f k).b : Nat)) ∧ w.cell? ⟨g, k * 3 + 1, none⟩ = some (.int .i64 ((f k).c : Nat)) ∧ w.cell? ⟨g, k * 3 + 2, none⟩ = some (.int .i64 ((f k).p : Nat)) ∧ w.frozen? ⟨g, k * 3, none⟩ = false ∧ w.frozen? ⟨g, k * 3 + 1, none⟩ = false ∧ w.frozen? ⟨g, k * 3 + 2, none⟩ = false := by
  have hc := h.cells (g := g) rfl
  have g0 := hc _ _ (cel_b hk)
  have g1 := hc _ _ (rel_1 hk)
  have g2 := hc _ _ (rel_2 hk)
  rw [Addr.add_at, Nat.zero_add] at g0 g1 g2
  exact ⟨g0, g1, g2, h.frozenAt _, h.frozenAt _, h.frozenAt _⟩
set_option maxHeartbeats 4000000 in
theorem refChange_ (b : Nat → Prop) (A : Option Addr) (n m c t h u d : Nat) (B : Bins) (P : Option Addr) (nb cb : Nat) (xs : List Int) (base0 : Nat) (v : Value) (tf : Nat → Bin) (w : World) (hd : DocAt b w A n m B) (hi : Ints w P nb xs) (hf : flow n m xs = true) (hrow : BinsAt w base0 v tf n) (n1 : 1 ≤ n) (n2 : n ≤ 4) (m2 : m ≤ 64) :
    Calls Try.prog 33 #[dval A n c t h u d, .slice P nb cb, v] w (DocOut n m t h u d (chg xs tf B) w) := by
  obtain ⟨tb, tc, rfl, _, _⟩ := World.ownsRow.form hrow n1
  have HT := Lib.hid (fun k (hk : k < n) => row_cells hrow hk)
  have hnb : nb = n := by rw [← hi.1, flow_len hf]
  subst hnb
  have HI := Lib.hid hi
  have HX := Lib.hid (fun l hl => flow_at hf (l := l) hl)
  obtain ⟨s, q, cp, rfl, hr⟩ := hd.raws
  have HRD := Lib.hid hr
  have H0 := Lib.hid (ChRel.start w (some ⟨s, 0, none⟩) nb c t h u d m (chg xs tf B))
  clear hd hi hf hr hrow
  have c0 := H0.out.box.cell 0
  go_enter Try.func33, Try.ntmps33
  go_wp2_with fail
  clear c0
  go_loopw [7, 8, 9, 13] (fun v _ _ i w' => ∃ k : Nat, k ≤ nb ∧ i = .int .i64 k ∧ ChRel w (some ⟨s, 0, none⟩) nb c t h u d m k (chg xs tf B) v w') (fun _ _ _ i _ => nb - (intOf i).toNat)
  case atStart => exact ⟨0, by omega, rfl, H0.out⟩
  case round =>
    clear H0
    obtain ⟨k, hk, rfl, hr⟩ := hrel
    have R1 := Lib.hid hr
    clear hr
    by_cases hlt : k < nb
    · have hd1 : decide ((k : Int) < (nb : Int)) = true := by simp; omega
      obtain ⟨hxk, hbm⟩ := HX.out k hlt
      obtain ⟨ad, rfl, hx⟩ := HI.out.at_ hlt
      rw [hxk] at hx
      have Y1 : Hid (Below wr.heap.size wr (wr.alloc (.cells #[] 66))) := below_one _ _
      have W1 : Hid (Below w.heap.size w (wr.alloc (.cells #[] 66))) := R1.out.be.trans (Y1.out.mono R1.out.be.size)
      have hown : (wr.alloc (.cells #[] 66)).ownsRow (w.heap.size + 2) 66 3 (.slice (some ⟨wr.heap.size, 0, none⟩) 0 0) 0 [] := World.ownsRow_lit wr #[] 0 R1.out.size (by simp) (by simp)
      have hlv := HRD.out _ W1.out k hlt
      obtain ⟨vx, w4, hrun, o4, g4, hv4⟩ := run_append_bins _ (w.heap.size + 2) 0 m (cp k) _ [] (cel true (B k) m) ⟨q k, 0, none⟩ hown (cel_length _ _ _) (fun j u hj => by rw [Addr.add_at, Nat.zero_add]; exact hlv.2 j u hj) cel_one (by omega) (Nat.le_trans R1.out.size Y1.out.size)
      rw [Nat.zero_add, List.nil_append] at o4
      obtain ⟨gx, cx, rfl, _, _⟩ := World.ownsRow.form o4 (by omega)
      have hgx : wr.heap.size ≤ gx := by
        rcases hv4 with h | h
        · have : gx = wr.heap.size := by simpa [Value.ownBlock] using h
          omega
        · have : gx = wr.heap.size + 1 := by simpa [Value.ownBlock] using h
          omega
      have Y4 : Hid (Below wr.heap.size wr w4) := Y1.out.grown g4 Y1.out.size (fun i e => Nat.le_of_eq (by simpa [Value.ownBlock] using e))
      have O4 := Lib.hid o4
      have l0 := hlv.1
      have b0 := (R1.out.box.below Y1.out).cell 0
      clear o4 g4 hv4 hown hlv
      go_upto_region 6 with (at_builtin; refine wpList_app rfl 62 (.tmp 16) (.tmp 21) rfl _ _ _ rfl rfl hrun ?_; clear hrun)
      have W4 : Hid (Below w.heap.size w w4) := R1.out.be.trans (Y4.out.mono R1.out.be.size)
      have a1 := (W4.out.cell (World.block_lt_of_cell? w _ hx)).trans hx
      obtain ⟨t0, t1, t2, _⟩ := HT.out k hlt
      have t0' := (W4.out.cell (World.block_lt_of_cell? w _ t0)).trans t0
      have t1' := (W4.out.cell (World.block_lt_of_cell? w _ t1)).trans t1
      have t2' := (W4.out.cell (World.block_lt_of_cell? w _ t2)).trans t2
      obtain ⟨x0, x1, x2, f0, f1, f2⟩ := row_cells O4.out hbm
      have HP := Lib.hid (row_put O4.out hbm (tf k))
      have HCG : Hid ((fun j => if j = binOf xs k then tf k else B k j) = chg xs tf B k) := rfl
      clear hx t0 t1 t2 l0 b0 hxk
      generalize (tf k).b = y0 at *
      generalize (tf k).c = y1 at *
      generalize (tf k).p = y2 at *
      generalize binOf xs k = bk at *
      go_region
      go_upto_region 7 with fail
      obtain ⟨q1, cp1, hlev⟩ := R1.out.at_
      have Y6 : Hid (Below wr.heap.size wr (((w4.setCell ⟨gx, bk * 3, none⟩ (.int .i64 (y0 : Nat))).setCell ⟨gx, bk * 3 + 1, none⟩ (.int .i64 (y1 : Nat))).setCell ⟨gx, bk * 3 + 2, none⟩ (.int .i64 (y2 : Nat))).drew) := (((Y4.out.setCell hgx _).setCell hgx _).setCell hgx _).drew
      have X6 : Hid ((((w4.setCell ⟨gx, bk * 3, none⟩ (.int .i64 (y0 : Nat))).setCell ⟨gx, bk * 3 + 1, none⟩ (.int .i64 (y1 : Nat))).setCell ⟨gx, bk * 3 + 2, none⟩ (.int .i64 (y2 : Nat))).drew.ownsRow (w.heap.size + 2) 66 3 (.slice (some ⟨gx, 0, none⟩) m cx) m (cel true (chg xs tf B k) m)) := by
        rw [← HCG.out]
        exact HP.out
      clear x0 x1 x2 f0 f1 f2 a1 t0' t1' t2' HP O4 Y4 W4 Y1 W1
      generalize (((w4.setCell ⟨gx, bk * 3, none⟩ (.int .i64 (y0 : Nat))).setCell ⟨gx, bk * 3 + 1, none⟩ (.int .i64 (y1 : Nat))).setCell ⟨gx, bk * 3 + 2, none⟩ (.int .i64 (y2 : Nat))).drew = w6 at *
      have B7 : Hid (Below w6.heap.size w6 (w6.alloc (.cells #[.slice (some ⟨gx, 0, none⟩) m cx] 62))) := below_one _ _
      have Y7 : Hid (Below wr.heap.size wr (w6.alloc (.cells #[.slice (some ⟨gx, 0, none⟩) m cx] 62))) := Y6.out.trans (B7.out.mono Y6.out.size)
      have L7 := Lib.hid (hlev.below Y7.out)
      have X7 := Lib.hid (ownsRow_keep X6.out B7.out)
      obtain ⟨v', w8, hrun, o8, g8⟩ := run_append_level _ (w.heap.size + 2) k _ _ w6.heap.size (.slice (some ⟨gx, 0, none⟩) m cx) L7.out.row (Blk.new w6 62 [.slice (some ⟨gx, 0, none⟩) m cx]) rfl (by omega) (Nat.le_trans R1.out.size Y7.out.size)
      have R8 : Hid (ChRel w (some ⟨s, 0, none⟩) nb c t h u d m (k + 1) (chg xs tf B) v' w8) := ⟨L7.out.more o8 g8 X7.out, (R1.out.box.below Y7.out).grown g8 ((R1.out.box.below Y7.out).row_apart L7.out.row (by decide)), (R1.out.res.below Y7.out).grown g8 ((R1.out.res.below Y7.out).row_apart L7.out.row (by decide)),
        (R1.out.be.trans (Y7.out.mono R1.out.be.size)).grown g8 (Nat.le_trans R1.out.be.size Y7.out.size) (fun i e => by have := (L7.out.row.lt i e).1; omega), Nat.le_trans (Nat.le_trans R1.out.size Y7.out.size) g8.size⟩
      clear o8 g8 L7 X7 Y7 B7 X6 Y6 hlev
      go_wp2_with (at_builtin; refine wpList_app rfl 34 (.tmp 33) (.tmp 35) rfl _ _ _ rfl rfl hrun ?_; clear hrun)
      go_roundw
      case rel => exact ⟨k + 1, by omega, by go_num, R8.out⟩
      case measure => simp [intOf]; omega
    · obtain rfl : k = nb := by omega
      have hd1 : decide ((k : Int) < (k : Int)) = false := by simp
      obtain ⟨q1, cp1, hlev⟩ := R1.out.at_
      obtain ⟨A2, c2, rfl, hdoc⟩ := hlev.done n1
      have HD := Lib.hid hdoc
      clear hdoc hlev
      have c0 := R1.out.box.cell 0
      have c1 := R1.out.box.cell 1
      have c2' := R1.out.box.cell 2
      have c3 := R1.out.box.cell 3
      have c4 := R1.out.box.cell 4
      have e0 := R1.out.res.cell 0
      have e1 := R1.out.res.cell 1
      have e2 := R1.out.res.cell 2
      have e3 := R1.out.res.cell 3
      have e4 := R1.out.res.cell 4
      have f0 := R1.out.res.frozen 0
      have f1 := R1.out.res.frozen 1
      have f2 := R1.out.res.frozen 2
      have f3 := R1.out.res.frozen 3
      have f4 := R1.out.res.frozen 4
      have g0 := R1.out.box.frozen 0
      go_wp2_with fail
      refine bodyPost_ret (v := dval A2 k c2 t h u d) (by simp [results, Try.results33, go_sem, e0, e1, e2, e3, e4]) rfl ?_
      have F4 : Far (only w.heap.size) wr (wr.setCell ⟨w.heap.size, 0, none⟩ (.slice A2 k c2)) := (Far.refl (only w.heap.size) wr).set_ (p := ⟨w.heap.size, 0, none⟩) (fun _ => rfl) _
      have F5 := far_res (wr.setCell ⟨w.heap.size, 0, none⟩ (.slice A2 k c2)) (w.heap.size + 1) A2 k c2 t h u d
      exact ⟨⟨A2, c2, rfl, ((HD.out.far F4 (fun i h1 e => by have : i = w.heap.size := e; omega)).far F5 (fun i h1 e => by have : i = w.heap.size + 1 := e; omega)).weak (fun i hi => by have : w.heap.size + 2 ≤ i := hi; show w.heap.size ≤ i; omega)⟩, below_res (R1.out.be.setCell (Nat.le_refl _) _) A2 k c2 t h u d (Nat.le_succ _)⟩
end Go.Proofs.Ytedpikpknlaggaa
