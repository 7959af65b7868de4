/- The program's table as the laws see it: its contracts, with what is left alone by them. Conditions: the program's contracts. -/
import Derived.Test.YteddnbabgahhfaaFill
namespace Go.Proofs.Yteddnbabgahhfaa
open Go.RowKit

/-- What the program's table may turn: nothing of before w, nothing of F. -/
def free (w : World) (F : Nat → Prop) : Nat → Prop := fun j => w.heap.size ≤ j ∧ ¬ F j
/-- The table at g has room for r and holds L; F is left alone. -/
def At (T : (Nat → Prop) → World → Nat → Int → List Ent → Prop) (w : World) (g : Nat) (r : Int) (L : List Ent) (F : Nat → Prop) (W : World) : Prop :=
  ∃ b, T b W g r L ∧ (∀ j, b j → free w F j) ∧ (∀ j, F j → j < W.heap.size) ∧ Below w.heap.size w W
/-- What an act on it leaves. -/
def Act1 (T : (Nat → Prop) → World → Nat → Int → List Ent → Prop) (w : World) (g : Nat) (r : Int) (L : List Ent) (F : Nat → Prop) (v : Value) (W : World) (e : Ending) (W' : World) : Prop :=
  e = .returned v ∧ At T w g r L F W' ∧ Far (free w F) W W'
section
variable {T : (Nat → Prop) → World → Nat → Int → List Ent → Prop} {w W W' : World} {g : Nat} {r : Int} {L : List Ent} {F F' : Nat → Prop} {p : Pre} {v : Int}
theorem At.be (h : At T w g r L F W) : Below w.heap.size w W := by obtain ⟨_, _, _, _, h⟩ := h; exact h
theorem At.in_ (h : At T w g r L F W) {j : Nat} (hj : F j) : j < W.heap.size := by obtain ⟨_, _, _, h, _⟩ := h; exact h j hj
/-- What is made behind it. -/
theorem At.below (P : ProgT T) (h : At T w g r L F W) (hb : Below W.heap.size W W') : At T w g r L F W' := by
  obtain ⟨b, h1, h2, h3, h4⟩ := h
  exact ⟨b, P.keep _ _ _ _ _ _ nobody h1 (Far.of_below hb nobody) (fun _ _ e => e), h2, fun j hj => Nat.lt_of_lt_of_le (h3 j hj) hb.size, h4.trans (hb.mono h4.size)⟩
theorem At.far (P : ProgT T) {S : Nat → Prop} (h : At T w g r L F W) (hf : Far S W W') (hS : ∀ j, S j → F j ∧ w.heap.size ≤ j) : At T w g r L F W' := by
  obtain ⟨b, h1, h2, h3, h4⟩ := h
  exact ⟨b, P.keep _ _ _ _ _ _ S h1 hf (fun j hj e => (h2 j hj).2 (hS j e).1), h2, fun j hj => Nat.lt_of_lt_of_le (h3 j hj) hf.size, h4.trans (hf.below h4.size (fun j hj e => by have := (hS j e).2; omega))⟩
/-- What has been made behind it is left alone from now on. -/
theorem At.grow (P : ProgT T) (h : At T w g r L F W) (hb : Below W.heap.size W W') : At T w g r L (fun j => F j ∨ (W.heap.size ≤ j ∧ j < W'.heap.size)) W' := by
  obtain ⟨b, h1, h2, h3, h4⟩ := h
  refine ⟨b, P.keep _ _ _ _ _ _ nobody h1 (Far.of_below hb nobody) (fun _ _ e => e), fun j hj => ⟨(h2 j hj).1, ?_⟩, ?_, h4.trans (hb.mono h4.size)⟩
  · rintro (e | e)
    · exact (h2 j hj).2 e
    · have := P.lt _ _ _ _ _ h1 j hj; omega
  · rintro j (e | e)
    · exact Nat.lt_of_lt_of_le (h3 j e) hb.size
    · exact e.2
theorem At.less (h : At T w g r L F W) (hF : ∀ j, F' j → F j) : At T w g r L F' W := by
  obtain ⟨b, h1, h2, h3, h4⟩ := h
  exact ⟨b, h1, fun j hj => ⟨(h2 j hj).1, fun e => (h2 j hj).2 (hF j e)⟩, fun j hj => h3 j (hF j hj), h4⟩
theorem At.new (P : ProgT T) (hb : Below w.heap.size w W) (h1 : 1 ≤ r) (h2 : r ≤ 64) :
    Calls Try.prog 8 #[.int .i64 r] W fun e W' => ∃ g, e = .returned (.tuple #[.pointer (some ⟨g, 0, none⟩), .int .i64 0]) ∧ At T w g r [] nobody W' :=
  (P.new r W h1 h2).mono fun _ _ ⟨g, b, he, ht, hbl, hb'⟩ => ⟨g, he, b, ht, fun j hj => ⟨Nat.le_trans hb.size (hbl j hj), fun e => e⟩, fun _ hj => absurd hj (fun e => e), hb.trans (hb'.mono hb.size)⟩
theorem At.acted (h2 : ∀ j, F j → j < W.heap.size) (h4 : Below w.heap.size w W) {b b' : Nat → Prop} (hb : ∀ j, b j → free w F j) (ht : T b' W' g r L) (hf : Far b W W') (hn : ∀ k, b' k → b k ∨ W.heap.size ≤ k) : At T w g r L F W' ∧ Far (free w F) W W' := by
  refine ⟨⟨b', ht, fun j hj => ?_, fun j hj => Nat.lt_of_lt_of_le (h2 j hj) hf.size, h4.trans (hf.below h4.size (fun j hj e => by have := (hb j e).1; omega))⟩, hf.mono hb⟩
  rcases hn j hj with e | e
  · exact hb j e
  · exact ⟨Nat.le_trans h4.size e, fun e' => by have := h2 j e'; omega⟩
theorem At.put (P : ProgT T) (h : At T w g r L F W) (ho : Oks L) (hp : p.Ok) (hv : i64 v) :
    Calls Try.prog 9 #[.pointer (some ⟨g, 0, none⟩), .agg p.cs.toArray, .int .i64 v] W (Act1 T w g r (Yteddnbabgahhfaa.put L r p v) F (.bool (may L r p)) W) := by
  obtain ⟨b, h1, h2, h3, h4⟩ := h
  exact (P.put b W g r L p v h1 ho hp hv).mono fun _ _ ⟨he, b', ht, hf, hn⟩ => ⟨he, At.acted h3 h4 h2 ht hf hn⟩
theorem At.del (P : ProgT T) (h : At T w g r L F W) (ho : Oks L) (hp : p.Ok) :
    Calls Try.prog 12 #[.pointer (some ⟨g, 0, none⟩), .agg p.cs.toArray] W (Act1 T w g r (Yteddnbabgahhfaa.del L p) F (.bool (has L p)) W) := by
  obtain ⟨b, h1, h2, h3, h4⟩ := h
  exact (P.del b W g r L p h1 ho hp).mono fun _ _ ⟨he, b', ht, hf, hn⟩ => ⟨he, At.acted h3 h4 h2 ht hf hn⟩
theorem At.get (P : ProgT T) (h : At T w g r L F W) (ho : Oks L) (hp : p.Ok) :
    Calls Try.prog 14 #[.pointer (some ⟨g, 0, none⟩), .agg p.cs.toArray] W (Act1 T w g r L F (.tuple #[.int .i64 (val L p), .bool (has L p)]) W) := by
  have h0 := h
  obtain ⟨b, h1, h2, h3, h4⟩ := h
  exact (P.get b W g r L p h1 ho hp).mono fun _ _ ⟨he, hb⟩ => ⟨he, h0.below P hb, Far.of_below hb _⟩
theorem At.len (P : ProgT T) (h : At T w g r L F W) : Calls Try.prog 10 #[.pointer (some ⟨g, 0, none⟩)] W (Act1 T w g r L F (.int .i64 (L.length : Nat)) W) := by
  have h0 := h
  obtain ⟨b, h1, h2, h3, h4⟩ := h
  exact (P.len b W g r L h1).mono fun _ _ ⟨he, hb⟩ => ⟨he, h0.below P hb, Far.of_below hb _⟩
/-- All that there are, and a slice of them. -/
theorem At.all (P : ProgT T) (h : At T w g r L F W) (ho : Oks L) : Calls Try.prog 11 #[.pointer (some ⟨g, 0, none⟩)] W fun e W' => DRes kPre (pres L) W e W' ∧ At T w g r L F W' := by
  have h0 := h
  obtain ⟨b, h1, h2, h3, h4⟩ := h
  exact (P.all b W g r L h1 ho).mono fun _ _ h => ⟨h, by obtain ⟨_, _, _, _, _, hb⟩ := h; exact h0.below P hb⟩
end
/-- A new variable that is a prefix. -/
theorem wpList_newp {ops : Array Oper} {rest : List Oper} {o : Oper} {a : Act} {Q : Exit → Act → World → Prop} (hgd : o.guard = none) (x y : Operand) (ho : o.op = .store 31 x y) (z : World) (p : Pre)
    (hx : a.eval x = .pointer (some ⟨z.heap.size, 0, none⟩)) (hy : a.eval y = .agg p.cs.toArray)
    (h : ∀ w', Hid (Blk w' z.heap.size 31 p.cs) → Hid (Below z.heap.size z w') → wpList Try.prog ops Q rest (a.put o.dst undef) w') : wpList Try.prog ops Q (o :: rest) a (z.alloc (.cells #[.bool false, .int .u8 0, .int .u8 0, .int .u8 0, .int .u8 0, .int .u8 0, .int .u8 0, .int .u8 0] 31)) :=
  wpList_lay hgd 31 8 size25 x y ho z.heap.size p.cs hx hy 31 pre0.cs (Blk.new z 31 pre0.cs) rfl (cs8 _) (all_oneCell_toArray (pre_each p)) fun w' hb hf =>
    h w' hb (below_only ((Below.refl _ _).alloc (Nat.le_refl _) _) hf.out (Nat.le_refl _) (by simp))
end Go.Proofs.Yteddnbabgahhfaa
