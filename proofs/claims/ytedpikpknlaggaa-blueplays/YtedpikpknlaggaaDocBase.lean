/- What the document's Put, Touch and Mark have in common. Conditions: those of each theorem. -/
import Derived.Test.YtedpikpknlaggaaDocChange
namespace Go.Proofs.Ytedpikpknlaggaa
open Go.RowKit

/-- The first j of them turned. -/
def mapj (g : Bin → Bin) (f : Nat → Bin) (j : Nat) : Nat → Bin := fun l => if l < j then g (f l) else f l
theorem mapj_zero (g : Bin → Bin) (f : Nat → Bin) : mapj g f 0 = f := by
  funext l
  simp [mapj]
theorem mapj_at (g : Bin → Bin) (f : Nat → Bin) (k : Nat) : mapj g f k k = f k := by simp [mapj]
theorem mapj_succ (g : Bin → Bin) (f : Nat → Bin) (k : Nat) : (fun l => if l = k then g (f k) else mapj g f k l) = mapj g f (k + 1) := by
  funext l
  unfold mapj
  by_cases h : l = k
  · subst h
    rw [if_pos rfl, if_pos (by omega)]
  · rw [if_neg h]
    by_cases h2 : l < k
    · rw [if_pos h2, if_pos (by omega)]
    · rw [if_neg h2, if_neg (by omega)]
theorem chg_upd {g : Bin → Bin} {xs : List Int} {n : Nat} {B : Bins} (l i : Nat) (hl : l < n) : chg xs (mapj g (fun l => B l (binOf xs l)) n) B l i = upd g xs n B l i := by
  unfold chg mapj upd
  rw [if_pos hl]
  by_cases h : i = binOf xs l
  · rw [if_pos h, if_pos ⟨hl, h.symm⟩, h]
  · rw [if_neg h, if_neg (fun e => h e.2.symm)]
/-- What the document's Put and Touch answer. -/
def DocRes (b : Nat → Prop) (n m t h u d : Nat) (B : Bins) (w : World) (e : Ending) (w' : World) : Prop :=
  (∃ A c, e = .returned (dval A n c t h u d) ∧ DocAt b w' A n m B) ∧ Below w.heap.size w w'
/-- Where they stand. -/
structure PtRel (w : World) (A : Option Addr) (n c t h u d : Nat) (base : Nat) (v : Value) (f : Nat → Bin) (W : World) : Prop where
  box : Blk W w.heap.size 36 (dcs A n c t h u d)
  res : Blk W (w.heap.size + 1) 36 (dcs none 0 0 0 0 0 0)
  be : Below w.heap.size w W
  lo : w.heap.size + 2 ≤ base
  row : BinsAt W base v f n
theorem PtRel.below {w W W' : World} {A : Option Addr} {n c t h u d base : Nat} {v : Value} {f : Nat → Bin} (x : PtRel w A n c t h u d base v f W) (hb : Below W.heap.size W W') : PtRel w A n c t h u d base v f W' :=
  ⟨x.box.below hb, x.res.below hb, x.be.trans (hb.mono x.be.size), x.lo, ownsRow_keep x.row hb⟩
/-- A store into the row. -/
theorem PtRel.store {w W : World} {A : Option Addr} {n c t h u d base r rc i : Nat} {f f' : Nat → Bin} (x : PtRel w A n c t h u d base (.slice (some ⟨r, 0, none⟩) n rc) f W) (y : Value) (hf : (cel true f n).set i y = cel true f' n) : PtRel w A n c t h u d base (.slice (some ⟨r, 0, none⟩) n rc) f' (W.setCell ⟨r, i, none⟩ y) := by
  have h1 := (x.row.lt r rfl).1
  have h2 := (x.row.stored i y).1
  have hlo := x.lo
  rw [hf] at h2
  have hF : Far (only r) W (W.setCell ⟨r, i, none⟩ y) := (Far.refl (only r) W).set_ (p := ⟨r, i, none⟩) (fun _ => rfl) _
  exact ⟨x.box.far hF (fun e => by have : w.heap.size = r := e; omega), x.res.far hF (fun e => by have : w.heap.size + 1 = r := e; omega), x.be.setCell (show w.heap.size ≤ r by omega) _, x.lo, h2⟩
/-- The result stored. -/
theorem doc_end {b : Nat → Prop} {w W W' : World} {A A' : Option Addr} {n m c c' t h u d base : Nat} {v : Value} {f : Nat → Bin} {B B' : Bins} (hbw : ∀ k, w.heap.size ≤ k → b k) (x : PtRel w A n c t h u d base v f W) (hd : DocAt (fun k => W.heap.size ≤ k) W' A' n m B) (hb : Below W.heap.size W W') (he : ∀ l i, l < n → i < m → B l i = B' l i) :
    DocRes b n m t h u d B' w (.returned (dval A' n c' t h u d)) (resAt W' (w.heap.size + 1) A' n c' t h u d) := by
  have h1 := x.res.lt
  refine ⟨⟨A', c', rfl, ((hd.far (far_res W' (w.heap.size + 1) A' n c' t h u d) (fun i hi e => by have : i = w.heap.size + 1 := e; have : W.heap.size ≤ i := hi; omega)).congr he).weak (fun i hi => hbw i (by have : W.heap.size ≤ i := hi; omega))⟩, below_res (x.be.trans (hb.mono x.be.size)) A' n c' t h u d (Nat.le_succ _)⟩
theorem doc_same {b : Nat → Prop} {w W : World} {A : Option Addr} {n m c t h u d : Nat} {B : Bins} (hd : DocAt b w A n m B) (hb : Below w.heap.size w W) :
    DocRes b n m t h u d B w (.returned (dval A n c t h u d)) (resAt W (w.heap.size + 1) A n c t h u d) :=
  ⟨⟨A, c, rfl, hd.below (below_res hb A n c t h u d (Nat.le_succ _))⟩, below_res hb A n c t h u d (Nat.le_succ _)⟩
/-- The result's block, empty. -/
abbrev noneOf : Obj := .cells #[.slice none 0 0, .int .i64 0, .int .i64 0, .int .i64 0, .int .i64 0] 36
/-- The argument's box, the result's behind it. -/
structure Two5 (w : World) (A : Option Addr) (n c t h u d : Nat) (W : World) : Prop where
  box : Blk W w.heap.size 36 (dcs A n c t h u d)
  res : Blk W (w.heap.size + 1) 36 (dcs none 0 0 0 0 0 0)
  be : Below w.heap.size w W
theorem Two5.start (w : World) (A : Option Addr) (n c t h u d : Nat) : Two5 w A n c t h u d ((w.alloc (dbox A n c t h u d)).alloc noneOf) :=
  ⟨(Blk.new w 36 (dcs A n c t h u d)).alloc _, by have := Blk.new (w.alloc (dbox A n c t h u d)) 36 (dcs none 0 0 0 0 0 0); rw [show (w.alloc (dbox A n c t h u d)).heap.size = w.heap.size + 1 by simp] at this; exact this, ((Below.refl _ w).alloc (Nat.le_refl _) _).alloc (by simp) _⟩
theorem Two5.below {w W W' : World} {A : Option Addr} {n c t h u d : Nat} (x : Two5 w A n c t h u d W) (hb : Below W.heap.size W W') : Two5 w A n c t h u d W' := ⟨x.box.below hb, x.res.below hb, x.be.trans (hb.mono x.be.size)⟩
theorem Two5.with_ {w W W' : World} {A : Option Addr} {n c t h u d : Nat} {v : Value} {f : Nat → Bin} (x : Two5 w A n c t h u d W) (hb : Below W.heap.size W W') (hr : BinsAt W' W.heap.size v f n) : PtRel w A n c t h u d W.heap.size v f W' :=
  ⟨x.box.below hb, x.res.below hb, x.be.trans (hb.mono x.be.size), by have := x.res.lt; omega, hr⟩
theorem Two5.cells {w W : World} {A : Option Addr} {n c t h u d : Nat} (x : Two5 w A n c t h u d W) : W.cell? ⟨w.heap.size, 0, none⟩ = some (.slice A n c) ∧ W.cell? ⟨w.heap.size, 1, none⟩ = some (.int .i64 (t : Nat)) ∧ W.cell? ⟨w.heap.size, 2, none⟩ = some (.int .i64 (h : Nat)) ∧ W.cell? ⟨w.heap.size, 3, none⟩ = some (.int .i64 (u : Nat)) ∧ W.cell? ⟨w.heap.size, 4, none⟩ = some (.int .i64 (d : Nat)) :=
  ⟨x.box.cell 0, x.box.cell 1, x.box.cell 2, x.box.cell 3, x.box.cell 4⟩
theorem Two5.room {w W : World} {A : Option Addr} {n c t h u d : Nat} (x : Two5 w A n c t h u d W) : W.cell? ⟨w.heap.size + 1, 0, none⟩ = some (.slice none 0 0) ∧ W.cell? ⟨w.heap.size + 1, 1, none⟩ = some (.int .i64 0) ∧ W.cell? ⟨w.heap.size + 1, 2, none⟩ = some (.int .i64 0) ∧ W.cell? ⟨w.heap.size + 1, 3, none⟩ = some (.int .i64 0) ∧ W.cell? ⟨w.heap.size + 1, 4, none⟩ = some (.int .i64 0) ∧
    W.frozen? ⟨w.heap.size + 1, 0, none⟩ = false ∧ W.frozen? ⟨w.heap.size + 1, 1, none⟩ = false ∧ W.frozen? ⟨w.heap.size + 1, 2, none⟩ = false ∧ W.frozen? ⟨w.heap.size + 1, 3, none⟩ = false ∧ W.frozen? ⟨w.heap.size + 1, 4, none⟩ = false :=
  ⟨x.res.cell 0, x.res.cell 1, x.res.cell 2, x.res.cell 3, x.res.cell 4, x.res.frozen 0, x.res.frozen 1, x.res.frozen 2, x.res.frozen 3, x.res.frozen 4⟩
theorem PtRel.two {w W : World} {A : Option Addr} {n c t h u d base : Nat} {v : Value} {f : Nat → Bin} (x : PtRel w A n c t h u d base v f W) : Two5 w A n c t h u d W := ⟨x.box, x.res, x.be⟩
end Go.Proofs.Ytedpikpknlaggaa
