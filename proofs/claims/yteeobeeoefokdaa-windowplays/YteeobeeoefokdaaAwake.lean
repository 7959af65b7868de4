/- The contract of the laws' awake; what came in: prefixes and numbers. Conditions: those of each theorem. -/
import Derived.Test.YteeobeeoefokdaaNews
import Derived.Deep.Slices
namespace Go.Proofs.Yteeobeeoefokdaa
open Go.ChangeShapes Go.WideShapes Go.ChangeAt Go.RowKit

theorem pre6_ok : pre6.Ok := ⟨by decide⟩
theorem below_far {B : Nat} {g q : Nat} {a w w' : World} (h : Below B a w) (hf : Far (two g q) w w') (hg : B ≤ g) (hq : B ≤ q) (hB : B ≤ w.heap.size) : Below B a w' :=
  h.trans (hf.below hB (fun k hk e => by rcases e with e | e <;> omega))
end Go.Proofs.Yteeobeeoefokdaa
