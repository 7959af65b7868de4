/- What stands while the law BluePlays plays: the program's levels, the document's, an act. Conditions: those of each theorem. -/
import Derived.Test.YtedpikpknlaggaaDocPut
import Derived.Test.YtedpikpknlaggaaDocTouch
import Derived.Test.YtedpikpknlaggaaDocClear
import Derived.Test.YtedpikpknlaggaaDocSame
import Derived.Test.YtedpikpknlaggaaIns
namespace Go.Proofs.Ytedpikpknlaggaa
open Go.RowKit

/-- Where the document's levels may lie. -/
def bp (n g : Nat) (q : Nat → Nat) (dz : Nat) : Nat → Prop := fun k => ¬ own n g q k ∧ k ≠ dz
theorem DocAt.low {b : Nat → Prop} {w : World} {A : Option Addr} {n m : Nat} {B : Bins} (h : DocAt b w A n m B) (hn : 1 ≤ n) (hm : 1 ≤ m) : DocAt (fun k => b k ∧ k < w.heap.size) w A n m B := by
  obtain ⟨s, q, cp, rfl, h1, h2⟩ := h
  refine ⟨s, q, cp, rfl, ⟨h1, World.block_lt_of_cell? w _ (h2 0 hn).1⟩, fun l hl => ⟨(h2 l hl).1, ⟨(h2 l hl).2.1, ?_⟩, (h2 l hl).2.2⟩⟩
  exact cell_some ((h2 l hl).2.2 0 (by omega)) (cel_is (by omega))
/-- The two, alike. -/
structure PlRel (w1 : World) (g s : Nat) (q : Nat → Nat) (dz n m : Nat) (V : Blu) (A : Option Addr) (c : Nat) (W : World) : Prop where
  vn : V.n = n
  vm : V.m = m
  at_ : BAt W g s q V
  box : Blk W dz 36 (dcs A n c V.t V.h V.u V.d)
  doc : DocAt (bp n g q dz) W A n m V.B
  be : Below w1.heap.size w1 W
/-- What lies apart. -/
structure PlWay (w1 : World) (g : Nat) (q : Nat → Nat) (dz n : Nat) : Prop where
  lo : w1.heap.size ≤ g
  los : ∀ i, i < n → w1.heap.size ≤ q i
  lod : w1.heap.size ≤ dz
  nd : ¬ own n g q dz
section
variable {w1 W W7 W8 : World} {g s dz n m c c8 bx : Nat} {q : Nat → Nat} {V V' : Blu} {A A8 : Option Addr}
theorem PlRel.below (x : PlRel w1 g s q dz n m V A c W) (hb : Below W.heap.size W W7) : PlRel w1 g s q dz n m V A c W7 := ⟨x.vn, x.vm, x.at_.below hb, x.box.below hb, x.doc.below hb, x.be.trans (hb.mono x.be.size)⟩
theorem PlRel.new (x : PlRel w1 g s q dz n m V A c W) : ∀ k, W.heap.size ≤ k → bp n g q dz k := fun k hk => by
  refine ⟨fun h => ?_, fun h => ?_⟩
  · rcases h with rfl | ⟨l, hl, rfl⟩
    · have := x.at_.lt.1; omega
    · have := x.at_.lt.2.2 l (x.vn ▸ hl); omega
  · have := x.box.lt; omega
/-- The program's turned: the document's as it was. -/
theorem PlRel.turn (x : PlRel w1 g s q dz n m V A c W) (hw : PlWay w1 g q dz n) (hf : Far (own n g q) W W7) : Blk W7 dz 36 (dcs A n c V.t V.h V.u V.d) ∧ DocAt (bp n g q dz) W7 A n m V.B ∧ Below w1.heap.size w1 W7 :=
  ⟨x.box.far hf hw.nd, x.doc.far hf (fun _ h => h.1), far_low x.be hf hw.lo hw.los x.be.size⟩
theorem PlRel.still (x : PlRel w1 g s q dz n m V A c W) (hw : PlWay w1 g q dz n) (hf : Far (own n g q) W W7) (ha : BAt W7 g s q V) : PlRel w1 g s q dz n m V A c W7 := by
  obtain ⟨h1, h2, h3⟩ := x.turn hw hf
  exact ⟨x.vn, x.vm, ha, h1, h2, h3⟩
/-- The document's turned too, and stored. -/
theorem PlRel.put (x : PlRel w1 g s q dz n m V A c W) (hw : PlWay w1 g q dz n) (hf : Far (own n g q) W W7) (ha : BAt W7 g s q V') {B : Bins} (hd : DocAt (bp n g q dz) W8 A8 n m B) (hb : Below W7.heap.size W7 W8) (he : ∀ l k, l < n → k < m → B l k = V'.B l k)
    (hn : V'.n = n) (hm : V'.m = m) (ht : V'.t = V.t ∧ V'.h = V.h ∧ V'.u = V.u ∧ V'.d = V.d) : PlRel w1 g s q dz n m V' A8 c8 (resAt W8 dz A8 n c8 V.t V.h V.u V.d) := by
  obtain ⟨h1, h2, h3⟩ := x.turn hw hf
  have F := far_res W8 dz A8 n c8 V.t V.h V.u V.d
  obtain ⟨t1, t2, t3, t4⟩ := ht
  have hg : ∀ i, own n g q i → i ≠ dz := fun i hi e => hw.nd (e ▸ hi)
  refine ⟨hn, hm, (ha.below hb).far F (fun e => hg g (.inl rfl) e) (fun e => ?_) (fun l hl e => hg (q l) (.inr ⟨l, hn ▸ hl, rfl⟩) e), ?_, (hd.far F (fun k hk e => hk.2 e)).congr he, below_res (h3.trans (hb.mono h3.size)) A8 n c8 V.t V.h V.u V.d hw.lod⟩
  · obtain ⟨_, ⟨cs, b2, _⟩, _⟩ := ha
    exact b2.apart h1 (by decide) e
  · have b := h1.below hb
    rw [t1, t2, t3, t4]
    have := ((((b.set_ 0 (.slice A8 n c8)).set_ 1 (.int .i64 (V.t : Nat))).set_ 2 (.int .i64 (V.h : Nat))).set_ 3 (.int .i64 (V.u : Nat))).set_ 4 (.int .i64 (V.d : Nat))
    simpa using this
theorem PlRel.cells (x : PlRel w1 g s q dz n m V A c W) : W.cell? ⟨dz, 0, none⟩ = some (.slice A n c) ∧ W.cell? ⟨dz, 1, none⟩ = some (.int .i64 (V.t : Nat)) ∧ W.cell? ⟨dz, 2, none⟩ = some (.int .i64 (V.h : Nat)) ∧ W.cell? ⟨dz, 3, none⟩ = some (.int .i64 (V.u : Nat)) ∧ W.cell? ⟨dz, 4, none⟩ = some (.int .i64 (V.d : Nat)) :=
  ⟨x.box.cell 0, x.box.cell 1, x.box.cell 2, x.box.cell 3, x.box.cell 4⟩
end
theorem pl_start {w1 w3 w4 : World} {g s NN M T H U D c4 : Nat} {q : Nat → Nat} {A4 : Option Addr} (hN : 1 ≤ NN) (hM : 1 ≤ M) (h3 : BAt w3 g s q ⟨NN, M, T, H, U, D, fun _ _ => bin0⟩) (ha : w1.heap.size ≤ g ∧ w1.heap.size ≤ s ∧ ∀ l, l < NN → w1.heap.size ≤ q l) (b3 : Below w1.heap.size w1 w3)
    (d4 : DocAt (fun k => w3.heap.size ≤ k) w4 A4 NN M fun _ _ => bin0) (b4 : Below w3.heap.size w3 w4) :
    PlRel w1 g s q w4.heap.size NN M ⟨NN, M, T, H, U, D, fun _ _ => bin0⟩ A4 c4 (w4.alloc (dbox A4 NN c4 T H U D)) ∧ PlWay w1 g q w4.heap.size NN := by
  have hlt := h3.lt
  have hs := b4.size
  have B5 := below_one w4 (dbox A4 NN c4 T H U D)
  have hno : ∀ k, w3.heap.size ≤ k → ¬ own NN g q k := fun k hk e => by
    rcases e with rfl | ⟨l, hl, rfl⟩
    · have := hlt.1; omega
    · have := hlt.2.2 l hl; omega
  refine ⟨⟨rfl, rfl, (h3.below b4).below B5, Blk.new w4 36 _, ((d4.low hN hM).below B5).weak (fun k hk => ⟨hno k hk.1, Nat.ne_of_lt hk.2⟩), (b3.trans (b4.mono b3.size)).trans (B5.mono (Nat.le_trans b3.size hs))⟩, ⟨ha.1, ha.2.2, Nat.le_trans b3.size hs, hno _ hs⟩⟩
/-- With an act's copy in block bx. -/
structure PlAct (w1 : World) (g s : Nat) (q : Nat → Nat) (dz n m : Nat) (V : Blu) (A : Option Addr) (c bx : Nat) (a0 a1 a2 : Value) (W : World) : Prop where
  rel : PlRel w1 g s q dz n m V A c W
  act : Blk W bx 40 [a0, a1, a2]
section
variable {w1 W W7 W8 : World} {g s dz n m c c8 bx : Nat} {q : Nat → Nat} {V V' : Blu} {A A8 : Option Addr} {a0 a1 a2 : Value}
theorem PlAct.below (x : PlAct w1 g s q dz n m V A c bx a0 a1 a2 W) (hb : Below W.heap.size W W7) : PlAct w1 g s q dz n m V A c bx a0 a1 a2 W7 := ⟨x.rel.below hb, x.act.below hb⟩
theorem PlAct.still (x : PlAct w1 g s q dz n m V A c bx a0 a1 a2 W) (hw : PlWay w1 g q dz n) (hx : ¬ own n g q bx) (hf : Far (own n g q) W W7) (ha : BAt W7 g s q V) : PlAct w1 g s q dz n m V A c bx a0 a1 a2 W7 := ⟨x.rel.still hw hf ha, x.act.far hf hx⟩
theorem PlAct.put (x : PlAct w1 g s q dz n m V A c bx a0 a1 a2 W) (hw : PlWay w1 g q dz n) (hx : ¬ own n g q bx ∧ bx ≠ dz) (hf : Far (own n g q) W W7) (ha : BAt W7 g s q V') {B : Bins} (hd : DocAt (bp n g q dz) W8 A8 n m B) (hb : Below W7.heap.size W7 W8) (he : ∀ l k, l < n → k < m → B l k = V'.B l k)
    (hn : V'.n = n) (hm : V'.m = m) (ht : V'.t = V.t ∧ V'.h = V.h ∧ V'.u = V.u ∧ V'.d = V.d) : PlAct w1 g s q dz n m V' A8 c8 bx a0 a1 a2 (resAt W8 dz A8 n c8 V.t V.h V.u V.d) :=
  ⟨x.rel.put hw hf ha hd hb he hn hm ht, ((x.act.far hf hx.1).below hb).far (far_res W8 dz A8 n c8 V.t V.h V.u V.d) hx.2⟩
end
theorem take_add {N : Int} {x : Bin} (h0 : 0 ≤ N) (hx : x.Ok) : addB (-N) x = takeB N.toNat x := by
  unfold addB
  by_cases h : 0 ≤ -N
  · rw [if_pos h]
    have e : N = 0 := by omega
    subst e
    have := hx.b
    unfold putB takeB
    congr 1
    show min (x.b + 0) 4611686018427387904 = x.b - 0
    omega
  · rw [if_neg h, Int.neg_neg]
theorem put_add {N : Int} {x : Bin} (h0 : 0 ≤ N) : addB N x = putB N.toNat x := by
  unfold addB
  rw [if_pos h0]
theorem upd_eq {f f' : Bin → Bin} {xs : List Int} {n : Nat} {B : Bins} (h : ∀ l k, f (B l k) = f' (B l k)) (l k : Nat) : upd f xs n B l k = upd f' xs n B l k := by
  unfold upd
  rw [h]
theorem putV_is {V : Blu} {X : List Int} {N : Int} (h : (isz N && flow V.n V.m X) = true) : putV V X N = V.put (upd (putB N.toNat) X V.n V.B) := by unfold putV; rw [if_pos h]
theorem takeV_is {V : Blu} {X : List Int} {N : Int} (h : (isz N && flow V.n V.m X) = true) : takeV V X N = V.put (upd (takeB N.toNat) X V.n V.B) := by unfold takeV; rw [if_pos h]
theorem putV_no {V : Blu} {X : List Int} {N : Int} (h : (isz N && flow V.n V.m X) = false) : putV V X N = V := by unfold putV; rw [if_neg (by rw [h]; simp)]
theorem takeV_no {V : Blu} {X : List Int} {N : Int} (h : (isz N && flow V.n V.m X) = false) : takeV V X N = V := by unfold takeV; rw [if_neg (by rw [h]; simp)]
theorem touchV_B {V : Blu} {X : List Int} {z : Int} : (touchV V X z).B = (if flow V.n V.m X then upd (touchB V.t V.h V.u V.d (asT z)) X V.n V.B else V.B) ∧ (touchV V X z).n = V.n ∧ (touchV V X z).m = V.m ∧ (touchV V X z).t = V.t ∧ (touchV V X z).h = V.h ∧ (touchV V X z).u = V.u ∧ (touchV V X z).d = V.d := by
  unfold touchV
  split <;> exact ⟨rfl, rfl, rfl, rfl, rfl, rfl, rfl⟩
theorem isz_bd {N : Int} (h : isz N = true) : 0 ≤ N ∧ N ≤ 1073741824 := by
  simpa [isz] using h
theorem far_undrew {S : Nat → Prop} {w w' : World} (h : Far S w.drew w') : Far S w w' := ⟨h.os, h.tape, h.output, h.size, h.block⟩
theorem below_drew_ {w w' : World} (h : Below w.drew.heap.size w.drew w') : Below w.heap.size w w' := ⟨h.os, h.tape, h.output, h.size, h.block⟩
/-- The program's turned, the document's not yet. -/
structure PlMid (w1 : World) (g s : Nat) (q : Nat → Nat) (dz n m : Nat) (V : Blu) (A : Option Addr) (c bx : Nat) (a0 a1 a2 : Value) (V' : Blu) (W8 W : World) : Prop where
  far : Far (own n g q) W8 W
  at_ : BAt W g s q V'
  box : Blk W dz 36 (dcs A n c V.t V.h V.u V.d)
  act : Blk W bx 40 [a0, a1, a2]
  doc : DocAt (bp n g q dz) W A n m V.B
  be : Below w1.heap.size w1 W
  new : ∀ k, W.heap.size ≤ k → bp n g q dz k
section
variable {w1 W W7 W8 : World} {g s dz n m c c8 bx : Nat} {q : Nat → Nat} {V V' : Blu} {A A8 : Option Addr} {a0 a1 a2 : Value} {t u d : Nat}
theorem PlAct.mid (x : PlAct w1 g s q dz n m V A c bx a0 a1 a2 W8) (hw : PlWay w1 g q dz n) (hx : ¬ own n g q bx ∧ bx ≠ dz) (hf : Far (own n g q) W8 W) (ha : BAt W g s q V') : PlMid w1 g s q dz n m V A c bx a0 a1 a2 V' W8 W := by
  obtain ⟨h1, h2, h3⟩ := x.rel.turn hw hf
  exact ⟨hf, ha, h1, x.act.far hf hx.1, h2, h3, fun k hk => x.rel.new k (Nat.le_trans hf.size hk)⟩
theorem PlMid.cells (x : PlMid w1 g s q dz n m V A c bx a0 a1 a2 V' W8 W) : W.cell? ⟨dz, 0, none⟩ = some (.slice A n c) ∧ W.cell? ⟨dz, 1, none⟩ = some (.int .i64 (V.t : Nat)) ∧ W.cell? ⟨dz, 2, none⟩ = some (.int .i64 (V.h : Nat)) ∧ W.cell? ⟨dz, 3, none⟩ = some (.int .i64 (V.u : Nat)) ∧ W.cell? ⟨dz, 4, none⟩ = some (.int .i64 (V.d : Nat)) :=
  ⟨x.box.cell 0, x.box.cell 1, x.box.cell 2, x.box.cell 3, x.box.cell 4⟩
theorem PlMid.after (x : PlMid w1 g s q dz n m V A c bx a0 a1 a2 V' W8 W) (hb : Below W.heap.size W W7) : W7.cell? ⟨dz, 0, none⟩ = some (.slice A n c) ∧ W7.cell? ⟨dz, 1, none⟩ = some (.int .i64 (V.t : Nat)) ∧ W7.cell? ⟨dz, 2, none⟩ = some (.int .i64 (V.h : Nat)) ∧ W7.cell? ⟨dz, 3, none⟩ = some (.int .i64 (V.u : Nat)) ∧ W7.cell? ⟨dz, 4, none⟩ = some (.int .i64 (V.d : Nat)) ∧
    W7.frozen? ⟨dz, 0, none⟩ = false ∧ W7.frozen? ⟨dz, 1, none⟩ = false ∧ W7.frozen? ⟨dz, 2, none⟩ = false ∧ W7.frozen? ⟨dz, 3, none⟩ = false ∧ W7.frozen? ⟨dz, 4, none⟩ = false := by
  have b := x.box.below hb
  exact ⟨b.cell 0, b.cell 1, b.cell 2, b.cell 3, b.cell 4, b.frozen 0, b.frozen 1, b.frozen 2, b.frozen 3, b.frozen 4⟩
theorem PlMid.put (y : PlMid w1 g s q dz n m V A c bx a0 a1 a2 V' W8 W) (x : PlAct w1 g s q dz n m V A c bx a0 a1 a2 W8) (hw : PlWay w1 g q dz n) (hx : ¬ own n g q bx ∧ bx ≠ dz) {B : Bins} (hd : DocAt (bp n g q dz) W7 A8 n m B) (hb : Below W.heap.size W W7) (he : ∀ l k, l < n → k < m → B l k = V'.B l k)
    (hn : V'.n = n) (hm : V'.m = m) (ht : V'.t = V.t ∧ V'.h = V.h ∧ V'.u = V.u ∧ V'.d = V.d) : PlAct w1 g s q dz n m V' A8 c8 bx a0 a1 a2 (resAt W7 dz A8 n c8 V.t V.h V.u V.d) :=
  x.put hw hx y.far y.at_ hd hb he hn hm ht
/-- New thresholds in both. -/
theorem PlMid.tuned (y : PlMid w1 g s q dz n m V A c bx a0 a1 a2 { V with t := t, u := u, d := d } W8 W) (hw : PlWay w1 g q dz n) (hx : ¬ own n g q bx ∧ bx ≠ dz) (hn : V.n = n) (hm : V.m = m) :
    PlAct w1 g s q dz n m { V with t := t, u := u, d := d } A c bx a0 a1 a2 (((W.setCell ⟨dz, 1, none⟩ (.int .i64 (t : Nat))).setCell ⟨dz, 3, none⟩ (.int .i64 (u : Nat))).setCell ⟨dz, 4, none⟩ (.int .i64 (d : Nat))) := by
  have F : Far (only dz) W (((W.setCell ⟨dz, 1, none⟩ (.int .i64 (t : Nat))).setCell ⟨dz, 3, none⟩ (.int .i64 (u : Nat))).setCell ⟨dz, 4, none⟩ (.int .i64 (d : Nat))) := (((Far.refl (only dz) W).set_ (p := ⟨dz, 1, none⟩) (fun _ => rfl) _).set_ (p := ⟨dz, 3, none⟩) (fun _ => rfl) _).set_ (p := ⟨dz, 4, none⟩) (fun _ => rfl) _
  have hg : ∀ i, own n g q i → i ≠ dz := fun i hi e => hw.nd (e ▸ hi)
  refine ⟨⟨hn, hm, y.at_.far F (fun e => hg g (.inl rfl) e) (fun e => ?_) (fun l hl e => hg (q l) (.inr ⟨l, hn ▸ hl, rfl⟩) e), ?_, y.doc.far F (fun k hk e => hk.2 e), ((y.be.setCell hw.lod _).setCell hw.lod _).setCell hw.lod _⟩, y.act.far F hx.2⟩
  · obtain ⟨_, ⟨cs, b2, _⟩, _⟩ := y.at_
    exact b2.apart y.box (by decide) e
  · have := ((y.box.set_ 1 (.int .i64 (t : Nat))).set_ 3 (.int .i64 (u : Nat))).set_ 4 (.int .i64 (d : Nat))
    simpa using this
end
theorem eq_put {V : Blu} {X : List Int} {N : Int} {n m : Nat} (hz : isz N = true) (hf : flow n m X = true) (hn : V.n = n) (hm : V.m = m) (l k : Nat) : (if flow n m X then upd (addB N) X n V.B else V.B) l k = (putV V X N).B l k := by
  rw [putV_is (by rw [hn, hm, hz, hf]; rfl), if_pos hf]
  show _ = upd (putB N.toNat) X V.n V.B l k
  rw [hn]
  exact upd_eq (fun _ _ => put_add (isz_bd hz).1) l k
theorem eq_take {V : Blu} {X : List Int} {N : Int} {n m : Nat} (hB : BOk V.B) (hz : isz N = true) (hf : flow n m X = true) (hn : V.n = n) (hm : V.m = m) (l k : Nat) : (if flow n m X then upd (addB (-N)) X n V.B else V.B) l k = (takeV V X N).B l k := by
  rw [takeV_is (by rw [hn, hm, hz, hf]; rfl), if_pos hf]
  show _ = upd (takeB N.toNat) X V.n V.B l k
  rw [hn]
  exact upd_eq (fun l k => take_add (isz_bd hz).1 (hB l k)) l k
theorem eq_touch {V : Blu} {X : List Int} {z : Int} {n m : Nat} (hn : V.n = n) (hm : V.m = m) (l k : Nat) : (if flow n m X then upd (touchB V.t V.h V.u V.d (asT z)) X n V.B else V.B) l k = (touchV V X z).B l k := by
  rw [touchV_B.1, hn, hm]
theorem putV_n (V : Blu) (X : List Int) (z : Int) : (putV V X z).n = V.n ∧ (putV V X z).m = V.m ∧ (putV V X z).t = V.t ∧ (putV V X z).h = V.h ∧ (putV V X z).u = V.u ∧ (putV V X z).d = V.d := by unfold putV; split <;> exact ⟨rfl, rfl, rfl, rfl, rfl, rfl⟩
theorem takeV_n (V : Blu) (X : List Int) (z : Int) : (takeV V X z).n = V.n ∧ (takeV V X z).m = V.m ∧ (takeV V X z).t = V.t ∧ (takeV V X z).h = V.h ∧ (takeV V X z).u = V.u ∧ (takeV V X z).d = V.d := by unfold takeV; split <;> exact ⟨rfl, rfl, rfl, rfl, rfl, rfl⟩
end Go.Proofs.Ytedpikpknlaggaa
