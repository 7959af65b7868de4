/-
  No cell of these rows narrows 'for every input' (looked for: loops, veiled, ifaces, maps, wideKeys, modest, calm, conditions, laid).
  DERIVED. THE GIVEN ROWS OF THIS SEAT. 5 by the template 'for every input the law returns true; each argument reads behind the call as it read before'; 0 by the template 'total and deterministic' (their statements: YtgmbkmlnoehomaaTotals.lean).
  GIVEN WITH THE SEED: the statements are not yours to turn. If you find one false, say at which input.
  Laid BY PROGRAM, IN A SANDBOX (cutbox-rows.mjs): the forced cells as the released guide's own fill.sh prints them over the translation 11572ddd04672f8f… (all of the seat's roots in one cut). By AI agents, Wed Nov 11 2026. No macro, syntax, notation, axiom, sorry.
-/
import Derived.Test.YtgmbkmlnoehomaaChecked
import GoSem.Claim
import GoSem.ClaimJoined
import GoSem.ClaimMapViews
import Derived.JoinedTies
import Derived.KernelRfl
namespace Go.Proofs.Ytgmbkmlnoehomaa
/- THE CELL 'sum', in the pinned program and in every row, IS THE sha256 OF THE DUMP (.gsa) THAT YtgmbkmlnoehomaaProg.lean LOADS. Nothing in Lean hashes anything: it is a label: what it is worth is what the hold of that sum in a sandbox is worth. -/
noncomputable def Try.pinned : Pinned := { name := "ytgmbkmlnoehomaa", sum := "11572ddd04672f8f61cb578442d978c01f7a511f7e1a70bbb47b34fd7217eb62", checked := Try.checked }
namespace Rows
def none {H : Type} : Left H := { results := [], args := [] }

/-- 'bailifflaw18.SketchPlays': WHATEVER THE INPUT: true; the input reads as it did. -/
def sketchPlaysSpec : ChangeSpec := { name := "sketchPlays", fn := fun _ => fun
  | [d1, d2, d3] => { results := [.lit (.bool true)], args := [d1, d2, d3] }
  | _ => none }
def sketchPlaysRow : OpenClaim := { program := "ytgmbkmlnoehomaa", sum := "11572ddd04672f8f61cb578442d978c01f7a511f7e1a70bbb47b34fd7217eb62", func := "bailiff/bailifflaw18.SketchPlays", spec := "sketchPlays", unfollowed := true, recurses := true, apart := false }
def SketchPlaysSaid : Prop := sketchPlaysRow.holds Try.pinned (OpenSpec.ofChange sketchPlaysSpec)

/-- ITS FALSE NEIGHBOUR: 'it returns false'. Refute it at one input. -/
def sketchPlaysWrong : ChangeSpec := { name := "sketchPlays", fn := fun _ => fun
  | [d1, d2, d3] => { results := [.lit (.bool false)], args := [d1, d2, d3] }
  | _ => none }
def SketchPlaysWrongFalsely : Prop := sketchPlaysRow.holds Try.pinned (OpenSpec.ofChange sketchPlaysWrong)

/-- 'bailifflaw18.SketchBounds': WHATEVER THE INPUT: true; the input reads as it did. -/
def sketchBoundsSpec : ChangeSpec := { name := "sketchBounds", fn := fun _ => fun
  | [d1, d2, d3] => { results := [.lit (.bool true)], args := [d1, d2, d3] }
  | _ => none }
def sketchBoundsRow : OpenClaim := { program := "ytgmbkmlnoehomaa", sum := "11572ddd04672f8f61cb578442d978c01f7a511f7e1a70bbb47b34fd7217eb62", func := "bailiff/bailifflaw18.SketchBounds", spec := "sketchBounds", unfollowed := true, recurses := true, apart := false }
def SketchBoundsSaid : Prop := sketchBoundsRow.holds Try.pinned (OpenSpec.ofChange sketchBoundsSpec)

/-- ITS FALSE NEIGHBOUR: 'it returns false'. Refute it at one input. -/
def sketchBoundsWrong : ChangeSpec := { name := "sketchBounds", fn := fun _ => fun
  | [d1, d2, d3] => { results := [.lit (.bool false)], args := [d1, d2, d3] }
  | _ => none }
def SketchBoundsWrongFalsely : Prop := sketchBoundsRow.holds Try.pinned (OpenSpec.ofChange sketchBoundsWrong)

/-- 'bailifflaw18.SketchExact': WHATEVER THE INPUT: true; the input reads as it did. -/
def sketchExactSpec : ChangeSpec := { name := "sketchExact", fn := fun _ => fun
  | [d] => { results := [.lit (.bool true)], args := [d] }
  | _ => none }
def sketchExactRow : OpenClaim := { program := "ytgmbkmlnoehomaa", sum := "11572ddd04672f8f61cb578442d978c01f7a511f7e1a70bbb47b34fd7217eb62", func := "bailiff/bailifflaw18.SketchExact", spec := "sketchExact", unfollowed := true, recurses := true, apart := false }
def SketchExactSaid : Prop := sketchExactRow.holds Try.pinned (OpenSpec.ofChange sketchExactSpec)

/-- ITS FALSE NEIGHBOUR: 'it returns false'. Refute it at one input. -/
def sketchExactWrong : ChangeSpec := { name := "sketchExact", fn := fun _ => fun
  | [d] => { results := [.lit (.bool false)], args := [d] }
  | _ => none }
def SketchExactWrongFalsely : Prop := sketchExactRow.holds Try.pinned (OpenSpec.ofChange sketchExactWrong)

/-- 'bailifflaw18.SketchSums': WHATEVER THE INPUT: true; the input reads as it did. -/
def sketchSumsSpec : ChangeSpec := { name := "sketchSums", fn := fun _ => fun
  | [d1, d2] => { results := [.lit (.bool true)], args := [d1, d2] }
  | _ => none }
def sketchSumsRow : OpenClaim := { program := "ytgmbkmlnoehomaa", sum := "11572ddd04672f8f61cb578442d978c01f7a511f7e1a70bbb47b34fd7217eb62", func := "bailiff/bailifflaw18.SketchSums", spec := "sketchSums", unfollowed := true, recurses := true, apart := false }
def SketchSumsSaid : Prop := sketchSumsRow.holds Try.pinned (OpenSpec.ofChange sketchSumsSpec)

/-- ITS FALSE NEIGHBOUR: 'it returns false'. Refute it at one input. -/
def sketchSumsWrong : ChangeSpec := { name := "sketchSums", fn := fun _ => fun
  | [d1, d2] => { results := [.lit (.bool false)], args := [d1, d2] }
  | _ => none }
def SketchSumsWrongFalsely : Prop := sketchSumsRow.holds Try.pinned (OpenSpec.ofChange sketchSumsWrong)

/-- 'bailifflaw18.SketchOwn': WHATEVER THE INPUT: true; the input reads as it did. -/
def sketchOwnSpec : ChangeSpec := { name := "sketchOwn", fn := fun _ => fun
  | [d] => { results := [.lit (.bool true)], args := [d] }
  | _ => none }
def sketchOwnRow : OpenClaim := { program := "ytgmbkmlnoehomaa", sum := "11572ddd04672f8f61cb578442d978c01f7a511f7e1a70bbb47b34fd7217eb62", func := "bailiff/bailifflaw18.SketchOwn", spec := "sketchOwn", unfollowed := true, recurses := true, apart := false }
def SketchOwnSaid : Prop := sketchOwnRow.holds Try.pinned (OpenSpec.ofChange sketchOwnSpec)

/-- ITS FALSE NEIGHBOUR: 'it returns false'. Refute it at one input. -/
def sketchOwnWrong : ChangeSpec := { name := "sketchOwn", fn := fun _ => fun
  | [d] => { results := [.lit (.bool false)], args := [d] }
  | _ => none }
def SketchOwnWrongFalsely : Prop := sketchOwnRow.holds Try.pinned (OpenSpec.ofChange sketchOwnWrong)

/- THE SECOND FORM. 'bulk': how many values and letters a reading holds, each counted each time it is reached (what is shared counts as often as it is met; a slice's spare places count too). A statement '..UptoSaid' is the law's where the arguments, and the package variables that the reading takes, are together of bulk at most 1048576: NARROWER than '..Said'. Prove '..Said' where nothing that the law and all that it calls make is longer than what came in: it says more and counts as full. Else prove '..UptoSaid'. A law counts once. -/
mutual
def uptoBulk {H : Type} : DataW H → Nat
  | .lit (.string bytes) => bytes.length + 1
  | .lit _ => 1
  | .nil => 1
  | .ptr d => uptoBulk d + 1
  | .slice elems spare => uptoBulkAll elems + uptoBulkAll spare + 1
  | .agg parts => uptoBulkAll parts + 1
  | .iface _ d => uptoBulk d + 1
  | .map entries => uptoBulkEntries entries + 1
  | .held _ => 1
def uptoBulkAll {H : Type} : List (DataW H) → Nat
  | [] => 0
  | d :: r => uptoBulk d + uptoBulkAll r
def uptoBulkEntries {H : Type} : List (Lit × DataW H) → Nat
  | [] => 0
  | x :: r => uptoBulkEntry x + uptoBulkEntries r
def uptoBulkEntry {H : Type} : Lit × DataW H → Nat
  | (.string bytes, d) => bytes.length + uptoBulk d + 1
  | (_, d) => uptoBulk d + 1
 end
def uptoSmall : (H : Type) → List (DataW H) → Bool := fun _ ds => decide (uptoBulkAll ds ≤ 1048576)
def OpenSpec.upto (s : _root_.Go.ChangeSpec) : _root_.Go.OpenSpec := { _root_.Go.OpenSpec.ofChange s with cond := some uptoSmall }

/-- 'bailifflaw18.SketchPlays', WHERE WHAT IT READS IS OF BULK AT MOST 1048576: true; the input reads as it did. -/
def sketchPlaysUptoRow : OpenClaim := { program := "ytgmbkmlnoehomaa", sum := "11572ddd04672f8f61cb578442d978c01f7a511f7e1a70bbb47b34fd7217eb62", func := "bailiff/bailifflaw18.SketchPlays", spec := "sketchPlays", unfollowed := true, recurses := true, apart := false, narrowed := true }
def SketchPlaysUptoSaid : Prop := sketchPlaysUptoRow.holds Try.pinned (OpenSpec.upto sketchPlaysSpec)

/-- 'bailifflaw18.SketchBounds', WHERE WHAT IT READS IS OF BULK AT MOST 1048576: true; the input reads as it did. -/
def sketchBoundsUptoRow : OpenClaim := { program := "ytgmbkmlnoehomaa", sum := "11572ddd04672f8f61cb578442d978c01f7a511f7e1a70bbb47b34fd7217eb62", func := "bailiff/bailifflaw18.SketchBounds", spec := "sketchBounds", unfollowed := true, recurses := true, apart := false, narrowed := true }
def SketchBoundsUptoSaid : Prop := sketchBoundsUptoRow.holds Try.pinned (OpenSpec.upto sketchBoundsSpec)

/-- 'bailifflaw18.SketchExact', WHERE WHAT IT READS IS OF BULK AT MOST 1048576: true; the input reads as it did. -/
def sketchExactUptoRow : OpenClaim := { program := "ytgmbkmlnoehomaa", sum := "11572ddd04672f8f61cb578442d978c01f7a511f7e1a70bbb47b34fd7217eb62", func := "bailiff/bailifflaw18.SketchExact", spec := "sketchExact", unfollowed := true, recurses := true, apart := false, narrowed := true }
def SketchExactUptoSaid : Prop := sketchExactUptoRow.holds Try.pinned (OpenSpec.upto sketchExactSpec)

/-- 'bailifflaw18.SketchSums', WHERE WHAT IT READS IS OF BULK AT MOST 1048576: true; the input reads as it did. -/
def sketchSumsUptoRow : OpenClaim := { program := "ytgmbkmlnoehomaa", sum := "11572ddd04672f8f61cb578442d978c01f7a511f7e1a70bbb47b34fd7217eb62", func := "bailiff/bailifflaw18.SketchSums", spec := "sketchSums", unfollowed := true, recurses := true, apart := false, narrowed := true }
def SketchSumsUptoSaid : Prop := sketchSumsUptoRow.holds Try.pinned (OpenSpec.upto sketchSumsSpec)

/-- 'bailifflaw18.SketchOwn', WHERE WHAT IT READS IS OF BULK AT MOST 1048576: true; the input reads as it did. -/
def sketchOwnUptoRow : OpenClaim := { program := "ytgmbkmlnoehomaa", sum := "11572ddd04672f8f61cb578442d978c01f7a511f7e1a70bbb47b34fd7217eb62", func := "bailiff/bailifflaw18.SketchOwn", spec := "sketchOwn", unfollowed := true, recurses := true, apart := false, narrowed := true }
def SketchOwnUptoSaid : Prop := sketchOwnUptoRow.holds Try.pinned (OpenSpec.upto sketchOwnSpec)

end Rows
end Go.Proofs.Ytgmbkmlnoehomaa
