/-
  No cell of these rows narrows 'for every input' (looked for: loops, veiled, ifaces, maps, wideKeys, modest, calm, conditions, laid).
  DERIVED. THE GIVEN ROWS OF THIS SEAT. 4 by the template 'for every input the law returns true; each argument reads behind the call as it read before'; 0 by the template 'total and deterministic' (their statements: YtjenfhkgceneaaaTotals.lean).
  GIVEN WITH THE SEED: the statements are not yours to turn. If you find one false, say at which input.
  Laid BY PROGRAM, IN A SANDBOX (cutbox-rows.mjs): the forced cells as the released guide's own fill.sh prints them over the translation 36048c094e95be36… (all of the seat's roots in one cut). By AI agents, Wed Nov 11 2026. No macro, syntax, notation, axiom, sorry.
-/
import Derived.Test.YtjenfhkgceneaaaChecked
import GoSem.Claim
import GoSem.ClaimJoined
import GoSem.ClaimMapViews
import Derived.JoinedTies
import Derived.KernelRfl
namespace Go.Proofs.Ytjenfhkgceneaaa
/- THE CELL 'sum', in the pinned program and in every row, IS THE sha256 OF THE DUMP (.gsa) THAT YtjenfhkgceneaaaProg.lean LOADS. Nothing in Lean hashes anything: it is a label: what it is worth is what the hold of that sum in a sandbox is worth. -/
noncomputable def Try.pinned : Pinned := { name := "ytjenfhkgceneaaa", sum := "36048c094e95be36b9c8b169722e637f945265f280ae4f7a2275f86631793c1d", checked := Try.checked }
namespace Rows
def none {H : Type} : Left H := { results := [], args := [] }

/-- 'bailifflaw13.KeyedFalls': WHATEVER THE INPUT: true; the input reads as it did. -/
def keyedFallsSpec : ChangeSpec := { name := "keyedFalls", fn := fun _ => fun
  | [d1, d2, d3, d4] => { results := [.lit (.bool true)], args := [d1, d2, d3, d4] }
  | _ => none }
def keyedFallsRow : OpenClaim := { program := "ytjenfhkgceneaaa", sum := "36048c094e95be36b9c8b169722e637f945265f280ae4f7a2275f86631793c1d", func := "bailiff/bailifflaw13.KeyedFalls", spec := "keyedFalls", apart := false }
def KeyedFallsSaid : Prop := keyedFallsRow.holds Try.pinned (OpenSpec.ofChange keyedFallsSpec)

/-- ITS FALSE NEIGHBOUR: 'it returns false'. Refute it at one input. -/
def keyedFallsWrong : ChangeSpec := { name := "keyedFalls", fn := fun _ => fun
  | [d1, d2, d3, d4] => { results := [.lit (.bool false)], args := [d1, d2, d3, d4] }
  | _ => none }
def KeyedFallsWrongFalsely : Prop := keyedFallsRow.holds Try.pinned (OpenSpec.ofChange keyedFallsWrong)

/-- 'bailifflaw13.KeyedWithin': WHATEVER THE INPUT: true; the input reads as it did. -/
def keyedWithinSpec : ChangeSpec := { name := "keyedWithin", fn := fun _ => fun
  | [d1, d2, d3, d4] => { results := [.lit (.bool true)], args := [d1, d2, d3, d4] }
  | _ => none }
def keyedWithinRow : OpenClaim := { program := "ytjenfhkgceneaaa", sum := "36048c094e95be36b9c8b169722e637f945265f280ae4f7a2275f86631793c1d", func := "bailiff/bailifflaw13.KeyedWithin", spec := "keyedWithin", apart := false }
def KeyedWithinSaid : Prop := keyedWithinRow.holds Try.pinned (OpenSpec.ofChange keyedWithinSpec)

/-- ITS FALSE NEIGHBOUR: 'it returns false'. Refute it at one input. -/
def keyedWithinWrong : ChangeSpec := { name := "keyedWithin", fn := fun _ => fun
  | [d1, d2, d3, d4] => { results := [.lit (.bool false)], args := [d1, d2, d3, d4] }
  | _ => none }
def KeyedWithinWrongFalsely : Prop := keyedWithinRow.holds Try.pinned (OpenSpec.ofChange keyedWithinWrong)

/-- 'bailifflaw13.KeyedAlone': WHATEVER THE INPUT: true; the input reads as it did. -/
def keyedAloneSpec : ChangeSpec := { name := "keyedAlone", fn := fun _ => fun
  | [d1, d2] => { results := [.lit (.bool true)], args := [d1, d2] }
  | _ => none }
def keyedAloneRow : OpenClaim := { program := "ytjenfhkgceneaaa", sum := "36048c094e95be36b9c8b169722e637f945265f280ae4f7a2275f86631793c1d", func := "bailiff/bailifflaw13.KeyedAlone", spec := "keyedAlone", apart := false }
def KeyedAloneSaid : Prop := keyedAloneRow.holds Try.pinned (OpenSpec.ofChange keyedAloneSpec)

/-- ITS FALSE NEIGHBOUR: 'it returns false'. Refute it at one input. -/
def keyedAloneWrong : ChangeSpec := { name := "keyedAlone", fn := fun _ => fun
  | [d1, d2] => { results := [.lit (.bool false)], args := [d1, d2] }
  | _ => none }
def KeyedAloneWrongFalsely : Prop := keyedAloneRow.holds Try.pinned (OpenSpec.ofChange keyedAloneWrong)

/-- 'bailifflaw13.KeyedFour': WHATEVER THE INPUT: true; the input reads as it did. -/
def keyedFourSpec : ChangeSpec := { name := "keyedFour", fn := fun _ => fun
  | [d1, d2, d3, d4, d5] => { results := [.lit (.bool true)], args := [d1, d2, d3, d4, d5] }
  | _ => none }
def keyedFourRow : OpenClaim := { program := "ytjenfhkgceneaaa", sum := "36048c094e95be36b9c8b169722e637f945265f280ae4f7a2275f86631793c1d", func := "bailiff/bailifflaw13.KeyedFour", spec := "keyedFour", apart := false }
def KeyedFourSaid : Prop := keyedFourRow.holds Try.pinned (OpenSpec.ofChange keyedFourSpec)

/-- ITS FALSE NEIGHBOUR: 'it returns false'. Refute it at one input. -/
def keyedFourWrong : ChangeSpec := { name := "keyedFour", fn := fun _ => fun
  | [d1, d2, d3, d4, d5] => { results := [.lit (.bool false)], args := [d1, d2, d3, d4, d5] }
  | _ => none }
def KeyedFourWrongFalsely : Prop := keyedFourRow.holds Try.pinned (OpenSpec.ofChange keyedFourWrong)

/- THE SECOND FORM. 'bulk': how many values and letters a reading holds, each counted each time it is reached (what is shared counts as often as it is met; a slice's spare places count too). A statement '..UptoSaid' is the law's where the arguments, and the package variables that the reading takes, are together of bulk at most 1048576: NARROWER than '..Said'. Prove '..Said' where nothing that the law and all that it calls make is longer than what came in: it says more and counts as full. Else prove '..UptoSaid'. A law counts once. -/
mutual
def uptoBulk {H : Type} : DataW H → Nat
  | .lit (.string bytes) => bytes.length + 1
  | .lit _ => 1
  | .nil => 1
  | .ptr d => uptoBulk d + 1
  | .slice elems spare => uptoBulkAll elems + uptoBulkAll spare + 1
  | .agg parts => uptoBulkAll parts + 1
  | .iface _ d => uptoBulk d + 1
  | .map entries => uptoBulkEntries entries + 1
  | .held _ => 1
def uptoBulkAll {H : Type} : List (DataW H) → Nat
  | [] => 0
  | d :: r => uptoBulk d + uptoBulkAll r
def uptoBulkEntries {H : Type} : List (Lit × DataW H) → Nat
  | [] => 0
  | x :: r => uptoBulkEntry x + uptoBulkEntries r
def uptoBulkEntry {H : Type} : Lit × DataW H → Nat
  | (.string bytes, d) => bytes.length + uptoBulk d + 1
  | (_, d) => uptoBulk d + 1
 end
def uptoSmall : (H : Type) → List (DataW H) → Bool := fun _ ds => decide (uptoBulkAll ds ≤ 1048576)
def OpenSpec.upto (s : _root_.Go.ChangeSpec) : _root_.Go.OpenSpec := { _root_.Go.OpenSpec.ofChange s with cond := some uptoSmall }

/-- 'bailifflaw13.KeyedFalls', WHERE WHAT IT READS IS OF BULK AT MOST 1048576: true; the input reads as it did. -/
def keyedFallsUptoRow : OpenClaim := { program := "ytjenfhkgceneaaa", sum := "36048c094e95be36b9c8b169722e637f945265f280ae4f7a2275f86631793c1d", func := "bailiff/bailifflaw13.KeyedFalls", spec := "keyedFalls", apart := false, narrowed := true }
def KeyedFallsUptoSaid : Prop := keyedFallsUptoRow.holds Try.pinned (OpenSpec.upto keyedFallsSpec)

/-- 'bailifflaw13.KeyedWithin', WHERE WHAT IT READS IS OF BULK AT MOST 1048576: true; the input reads as it did. -/
def keyedWithinUptoRow : OpenClaim := { program := "ytjenfhkgceneaaa", sum := "36048c094e95be36b9c8b169722e637f945265f280ae4f7a2275f86631793c1d", func := "bailiff/bailifflaw13.KeyedWithin", spec := "keyedWithin", apart := false, narrowed := true }
def KeyedWithinUptoSaid : Prop := keyedWithinUptoRow.holds Try.pinned (OpenSpec.upto keyedWithinSpec)

/-- 'bailifflaw13.KeyedAlone', WHERE WHAT IT READS IS OF BULK AT MOST 1048576: true; the input reads as it did. -/
def keyedAloneUptoRow : OpenClaim := { program := "ytjenfhkgceneaaa", sum := "36048c094e95be36b9c8b169722e637f945265f280ae4f7a2275f86631793c1d", func := "bailiff/bailifflaw13.KeyedAlone", spec := "keyedAlone", apart := false, narrowed := true }
def KeyedAloneUptoSaid : Prop := keyedAloneUptoRow.holds Try.pinned (OpenSpec.upto keyedAloneSpec)

/-- 'bailifflaw13.KeyedFour', WHERE WHAT IT READS IS OF BULK AT MOST 1048576: true; the input reads as it did. -/
def keyedFourUptoRow : OpenClaim := { program := "ytjenfhkgceneaaa", sum := "36048c094e95be36b9c8b169722e637f945265f280ae4f7a2275f86631793c1d", func := "bailiff/bailifflaw13.KeyedFour", spec := "keyedFour", apart := false, narrowed := true }
def KeyedFourUptoSaid : Prop := keyedFourUptoRow.holds Try.pinned (OpenSpec.upto keyedFourSpec)

end Rows
end Go.Proofs.Ytjenfhkgceneaaa
