/- What the laws want of the program's box: a structure of premises; how the laws see it. No conditions. -/
import Derived.Test.YtpjeeccgpnpokaaOwn
namespace Go.Proofs.Ytpjeeccgpnpokaa
open Go.RowKit

def i64 (z : Int) : Prop := -9223372036854775808 ≤ z ∧ z ≤ 9223372036854775807
/-- What something answers that only reads, or makes memory of its own. -/
def Ans (v : Value) (w : World) (e : Ending) (w' : World) : Prop := e = .returned v ∧ Below w.heap.size w w'
/-- Who is put in. -/
def newE (C : Cfg) (p : Pre) (x : Int) : Ent := ⟨p, addC (cnt (clm x)) (cnt C.term), C.b * 1048576, clm x⟩
def putE (C : Cfg) (S : List Ent) (p : Pre) : Int := if has S p then 7 else if C.room ≤ S.length then 6 else 0
def putS (C : Cfg) (S : List Ent) (p : Pre) (x : Int) : List Ent := if has S p then S else if C.room ≤ S.length then S else ins S (plc S p) (newE C p x)
abbrev Tbl := (Nat → Prop) → World → Nat → Cfg → List Ent → Prop
/-- What an act leaves. -/
def Acted (T : Tbl) (b : Nat → Prop) (g : Nat) (C : Cfg) (L' : List Ent) (v : Value) (w : World) (e : Ending) (w' : World) : Prop :=
  e = .returned v ∧ ∃ b', T b' w' g C L' ∧ Far b w w' ∧ ∀ k, b' k → b k ∨ w.heap.size ≤ k
/-- Boxes: T b w g C L: the box at g lives in the blocks b, is set up as C and holds L. -/
structure ProgB (T : Tbl) : Prop where
  keep : ∀ b w w' g C L (S : Nat → Prop), T b w g C L → Far S w w' → (∀ k, b k → ¬ S k) → T b w' g C L
  lt : ∀ b w g C L, T b w g C L → ∀ k, b k → k < w.heap.size
  bad : ∀ (C : Cfg) w, i64 C.room → i64 C.term → i64 C.r → i64 C.b → ¬ C.Ok → Calls Try.prog 7 #[.int .i64 C.room, .int .i64 C.term, .int .i64 C.r, .int .i64 C.b] w (Ans (.tuple #[.pointer none, .int .i64 1]) w)
  new : ∀ (C : Cfg) w, C.Ok → Calls Try.prog 7 #[.int .i64 C.room, .int .i64 C.term, .int .i64 C.r, .int .i64 C.b] w fun e w' => ∃ g b, e = .returned (.tuple #[.pointer (some ⟨g, 0, none⟩), .int .i64 0]) ∧ T b w' g C [] ∧ (∀ k, b k → w.heap.size ≤ k) ∧ Below w.heap.size w w'
  put : ∀ b w g C L p x, T b w g C L → C.Ok → Oks C L → p.Ok → i64 x → Calls Try.prog 8 #[.pointer (some ⟨g, 0, none⟩), .agg p.cs.toArray, .int .i64 x] w (Acted T b g C (putS C (swp L x) p x) (.int .i64 (putE C (swp L x) p)) w)
  inn : ∀ b w g C L p x, T b w g C L → C.Ok → Oks C L → p.Ok → i64 x → Calls Try.prog 9 #[.pointer (some ⟨g, 0, none⟩), .agg p.cs.toArray, .int .i64 x] w (Acted T b g C (swp L x) (.bool (has (swp L x) p)) w)
  take : ∀ b w g C L p x n, T b w g C L → C.Ok → Oks C L → p.Ok → i64 x → i64 n → Calls Try.prog 14 #[.pointer (some ⟨g, 0, none⟩), .agg p.cs.toArray, .int .i64 x, .int .i64 n] w (Acted T b g C (takeS C (swp L x) p x n) (.bool (takeK C (swp L x) p x n)) w)
  drop : ∀ b w g C L p x, T b w g C L → C.Ok → Oks C L → p.Ok → i64 x → Calls Try.prog 16 #[.pointer (some ⟨g, 0, none⟩), .agg p.cs.toArray, .int .i64 x] w (Acted T b g C (del (swp L x) p) (.bool (has (swp L x) p)) w)
  all : ∀ b w g C L x, T b w g C L → C.Ok → Oks C L → i64 x → Calls Try.prog 10 #[.pointer (some ⟨g, 0, none⟩), .int .i64 x] w fun e w' => ∃ A c, Els kPre w' A (pres (swp L x)) ∧ (pres (swp L x)).length ≤ c ∧ Acted T b g C (swp L x) (.slice A (pres (swp L x)).length c) w e w'
  putNil : ∀ (p : Pre) x w, p.Ok → i64 x → Calls Try.prog 8 #[.pointer none, .agg p.cs.toArray, .int .i64 x] w (Ans (.int .i64 1) w)
  inNil : ∀ (p : Pre) x w, p.Ok → i64 x → Calls Try.prog 9 #[.pointer none, .agg p.cs.toArray, .int .i64 x] w (Ans (.bool false) w)
  allNil : ∀ x w, i64 x → Calls Try.prog 10 #[.pointer none, .int .i64 x] w (DRes kPre [] w)

/-! How the laws see it. -/
def free (w : World) (F : Nat → Prop) : Nat → Prop := fun j => w.heap.size ≤ j ∧ ¬ F j
/-- The box at g is set up as C and holds L; F is left alone. -/
def At (T : Tbl) (w : World) (g : Nat) (C : Cfg) (L : List Ent) (F : Nat → Prop) (W : World) : Prop :=
  ∃ b, T b W g C L ∧ (∀ j, b j → free w F j) ∧ (∀ j, F j → j < W.heap.size) ∧ Below w.heap.size w W
def Act1 (T : Tbl) (w : World) (g : Nat) (C : Cfg) (L : List Ent) (F : Nat → Prop) (v : Value) (W : World) (e : Ending) (W' : World) : Prop :=
  e = .returned v ∧ At T w g C L F W' ∧ Far (free w F) W W'
section
variable {T : Tbl} {w W W' : World} {g : Nat} {C : Cfg} {L L' : List Ent} {F F' : Nat → Prop} {p : Pre} {x n : Int}
theorem At.be (h : At T w g C L F W) : Below w.heap.size w W := by obtain ⟨_, _, _, _, h⟩ := h; exact h
theorem At.below (P : ProgB T) (h : At T w g C L F W) (hb : Below W.heap.size W W') : At T w g C L F W' := by
  obtain ⟨b, h1, h2, h3, h4⟩ := h
  exact ⟨b, P.keep _ _ _ _ _ _ nobody h1 (Far.of_below hb nobody) (fun _ _ e => e), h2, fun j hj => Nat.lt_of_lt_of_le (h3 j hj) hb.size, h4.trans (hb.mono h4.size)⟩
theorem At.far (P : ProgB T) {S : Nat → Prop} (h : At T w g C L F W) (hf : Far S W W') (hS : ∀ j, S j → F j ∧ w.heap.size ≤ j) : At T w g C L F W' := by
  obtain ⟨b, h1, h2, h3, h4⟩ := h
  exact ⟨b, P.keep _ _ _ _ _ _ S h1 hf (fun j hj e => (h2 j hj).2 (hS j e).1), h2, fun j hj => Nat.lt_of_lt_of_le (h3 j hj) hf.size, h4.trans (hf.below h4.size (fun j hj e => by have := (hS j e).2; omega))⟩
theorem At.grow (P : ProgB T) (h : At T w g C L F W) (hb : Below W.heap.size W W') : At T w g C L (fun j => F j ∨ (W.heap.size ≤ j ∧ j < W'.heap.size)) W' := by
  obtain ⟨b, h1, h2, h3, h4⟩ := h
  refine ⟨b, P.keep _ _ _ _ _ _ nobody h1 (Far.of_below hb nobody) (fun _ _ e => e), fun j hj => ⟨(h2 j hj).1, ?_⟩, ?_, h4.trans (hb.mono h4.size)⟩
  · rintro (e | e)
    · exact (h2 j hj).2 e
    · have := P.lt _ _ _ _ _ h1 j hj; omega
  · rintro j (e | e)
    · exact Nat.lt_of_lt_of_le (h3 j e) hb.size
    · exact e.2
theorem At.less (h : At T w g C L F W) (hF : ∀ j, F' j → F j) : At T w g C L F' W := by
  obtain ⟨b, h1, h2, h3, h4⟩ := h
  exact ⟨b, h1, fun j hj => ⟨(h2 j hj).1, fun e => (h2 j hj).2 (hF j e)⟩, fun j hj => h3 j (hF j hj), h4⟩
theorem At.new (P : ProgB T) (hb : Below w.heap.size w W) (hC : C.Ok) :
    Calls Try.prog 7 #[.int .i64 C.room, .int .i64 C.term, .int .i64 C.r, .int .i64 C.b] W fun e W' => ∃ g, e = .returned (.tuple #[.pointer (some ⟨g, 0, none⟩), .int .i64 0]) ∧ At T w g C [] nobody W' :=
  (P.new C W hC).mono fun _ _ ⟨g, b, he, ht, hbl, hb'⟩ => ⟨g, he, b, ht, fun j hj => ⟨Nat.le_trans hb.size (hbl j hj), fun e => e⟩, fun _ hj => absurd hj (fun e => e), hb.trans (hb'.mono hb.size)⟩
theorem At.acted {b : Nat → Prop} {v : Value} {e : Ending} (h2 : ∀ j, F j → j < W.heap.size) (h4 : Below w.heap.size w W) (hb : ∀ j, b j → free w F j) (h : Acted T b g C L' v W e W') : Act1 T w g C L' F v W e W' := by
  obtain ⟨he, b', ht, hf, hn⟩ := h
  refine ⟨he, ⟨b', ht, fun j hj => ?_, fun j hj => Nat.lt_of_lt_of_le (h2 j hj) hf.size, h4.trans (hf.below h4.size (fun j hj e => by have := (hb j e).1; omega))⟩, hf.mono hb⟩
  rcases hn j hj with e | e
  · exact hb j e
  · exact ⟨Nat.le_trans h4.size e, fun e' => by have := h2 j e'; omega⟩
theorem At.put (P : ProgB T) (h : At T w g C L F W) (hC : C.Ok) (ho : Oks C L) (hp : p.Ok) (hx : i64 x) :
    Calls Try.prog 8 #[.pointer (some ⟨g, 0, none⟩), .agg p.cs.toArray, .int .i64 x] W (Act1 T w g C (putS C (swp L x) p x) F (.int .i64 (putE C (swp L x) p)) W) := by
  obtain ⟨b, h1, h2, h3, h4⟩ := h
  exact (P.put b W g C L p x h1 hC ho hp hx).mono fun _ _ h => At.acted h3 h4 h2 h
theorem At.inn (P : ProgB T) (h : At T w g C L F W) (hC : C.Ok) (ho : Oks C L) (hp : p.Ok) (hx : i64 x) :
    Calls Try.prog 9 #[.pointer (some ⟨g, 0, none⟩), .agg p.cs.toArray, .int .i64 x] W (Act1 T w g C (swp L x) F (.bool (has (swp L x) p)) W) := by
  obtain ⟨b, h1, h2, h3, h4⟩ := h
  exact (P.inn b W g C L p x h1 hC ho hp hx).mono fun _ _ h => At.acted h3 h4 h2 h
theorem At.take (P : ProgB T) (h : At T w g C L F W) (hC : C.Ok) (ho : Oks C L) (hp : p.Ok) (hx : i64 x) (hn : i64 n) :
    Calls Try.prog 14 #[.pointer (some ⟨g, 0, none⟩), .agg p.cs.toArray, .int .i64 x, .int .i64 n] W (Act1 T w g C (takeS C (swp L x) p x n) F (.bool (takeK C (swp L x) p x n)) W) := by
  obtain ⟨b, h1, h2, h3, h4⟩ := h
  exact (P.take b W g C L p x n h1 hC ho hp hx hn).mono fun _ _ h => At.acted h3 h4 h2 h
theorem At.drop (P : ProgB T) (h : At T w g C L F W) (hC : C.Ok) (ho : Oks C L) (hp : p.Ok) (hx : i64 x) :
    Calls Try.prog 16 #[.pointer (some ⟨g, 0, none⟩), .agg p.cs.toArray, .int .i64 x] W (Act1 T w g C (del (swp L x) p) F (.bool (has (swp L x) p)) W) := by
  obtain ⟨b, h1, h2, h3, h4⟩ := h
  exact (P.drop b W g C L p x h1 hC ho hp hx).mono fun _ _ h => At.acted h3 h4 h2 h
theorem At.all (P : ProgB T) (h : At T w g C L F W) (hC : C.Ok) (ho : Oks C L) (hx : i64 x) :
    Calls Try.prog 10 #[.pointer (some ⟨g, 0, none⟩), .int .i64 x] W fun e W' => ∃ A c, Els kPre W' A (pres (swp L x)) ∧ (pres (swp L x)).length ≤ c ∧ Act1 T w g C (swp L x) F (.slice A (pres (swp L x)).length c) W e W' := by
  obtain ⟨b, h1, h2, h3, h4⟩ := h
  exact (P.all b W g C L x h1 hC ho hx).mono fun _ _ ⟨A, c, he, hc, h⟩ => ⟨A, c, he, hc, At.acted h3 h4 h2 h⟩
end
end Go.Proofs.Ytpjeeccgpnpokaa
