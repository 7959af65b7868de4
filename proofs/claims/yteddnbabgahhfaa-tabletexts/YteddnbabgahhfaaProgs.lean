/- What the laws want of the program's table: a structure of premises. No conditions. -/
import Derived.Test.YteddnbabgahhfaaPut
namespace Go.Proofs.Yteddnbabgahhfaa
open Go.RowKit

/-- What a prefix has; nothing: 0. -/
def val (L : List Ent) (p : Pre) : Int := if has L p then (at_ L (idx L p)).v else 0
def i64 (z : Int) : Prop := -9223372036854775808 ≤ z ∧ z ≤ 9223372036854775807
/-- The number of a fault: none, an argument out of range. -/
def errOf (r : Int) : Int := if 1 ≤ r ∧ r ≤ 64 then 0 else 1
/-- What something answers that only reads, or makes memory of its own. -/
def Ans (v : Value) (w : World) (e : Ending) (w' : World) : Prop := e = .returned v ∧ Below w.heap.size w w'
/-- Tables of numbers: T b w g r L: the table at g lives in the blocks b, has room for r and holds L. -/
structure ProgT (T : (Nat → Prop) → World → Nat → Int → List Ent → Prop) : Prop where
  keep : ∀ b w w' g r L (S : Nat → Prop), T b w g r L → Far S w w' → (∀ k, b k → ¬ S k) → T b w' g r L
  lt : ∀ b w g r L, T b w g r L → ∀ k, b k → k < w.heap.size
  bad : ∀ r w, i64 r → ¬ (1 ≤ r ∧ r ≤ 64) → Calls Try.prog 8 #[.int .i64 r] w (Ans (.tuple #[.pointer none, .int .i64 1]) w)
  new : ∀ r w, 1 ≤ r → r ≤ 64 → Calls Try.prog 8 #[.int .i64 r] w fun e w' => ∃ g b, e = .returned (.tuple #[.pointer (some ⟨g, 0, none⟩), .int .i64 0]) ∧ T b w' g r [] ∧ (∀ k, b k → w.heap.size ≤ k) ∧ Below w.heap.size w w'
  get : ∀ b w g r L p, T b w g r L → Oks L → p.Ok → Calls Try.prog 14 #[.pointer (some ⟨g, 0, none⟩), .agg p.cs.toArray] w (Ans (.tuple #[.int .i64 (val L p), .bool (has L p)]) w)
  len : ∀ b w g r L, T b w g r L → Calls Try.prog 10 #[.pointer (some ⟨g, 0, none⟩)] w (Ans (.int .i64 (L.length : Nat)) w)
  all : ∀ b w g r L, T b w g r L → Oks L → Calls Try.prog 11 #[.pointer (some ⟨g, 0, none⟩)] w (DRes kPre (pres L) w)
  put : ∀ b w g r L p v, T b w g r L → Oks L → p.Ok → i64 v → Calls Try.prog 9 #[.pointer (some ⟨g, 0, none⟩), .agg p.cs.toArray, .int .i64 v] w fun e w' => e = .returned (.bool (may L r p)) ∧ ∃ b', T b' w' g r (put L r p v) ∧ Far b w w' ∧ ∀ k, b' k → b k ∨ w.heap.size ≤ k
  del : ∀ b w g r L p, T b w g r L → Oks L → p.Ok → Calls Try.prog 12 #[.pointer (some ⟨g, 0, none⟩), .agg p.cs.toArray] w fun e w' => e = .returned (.bool (has L p)) ∧ ∃ b', T b' w' g r (del L p) ∧ Far b w w' ∧ ∀ k, b' k → b k ∨ w.heap.size ≤ k
  putNil : ∀ (p : Pre) v w, p.Ok → i64 v → Calls Try.prog 9 #[.pointer none, .agg p.cs.toArray, .int .i64 v] w (Ans (.bool false) w)
  lenNil : ∀ w, Calls Try.prog 10 #[.pointer none] w (Ans (.int .i64 0) w)
  allNil : ∀ w, Calls Try.prog 11 #[.pointer none] w (DRes kPre [] w)
  delNil : ∀ (p : Pre) w, p.Ok → Calls Try.prog 12 #[.pointer none, .agg p.cs.toArray] w (Ans (.bool false) w)
/-- The order. -/
def ProgL : Prop := ∀ (p q : Pre) w, p.Ok → q.Ok → Calls Try.prog 19 #[.agg p.cs.toArray, .agg q.cs.toArray] w (Ans (.bool (ltP p q)) w)
end Go.Proofs.Yteddnbabgahhfaa
