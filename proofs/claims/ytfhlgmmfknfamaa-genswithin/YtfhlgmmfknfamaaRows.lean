/-
  No cell of these rows narrows 'for every input' (looked for: loops, veiled, ifaces, maps, wideKeys, modest, calm, conditions, laid).
  DERIVED. THE GIVEN ROWS OF THIS SEAT. 4 by the template 'for every input the law returns true; each argument reads behind the call as it read before'; 0 by the template 'total and deterministic' (their statements: YtfhlgmmfknfamaaTotals.lean).
  GIVEN WITH THE SEED: the statements are not yours to turn. If you find one false, say at which input.
  Laid BY PROGRAM, IN A SANDBOX (cutbox-rows.mjs): the forced cells as the released guide's own fill.sh prints them over the translation 42cf6a06f1a7ac23… (all of the seat's roots in one cut). By AI agents, Wed Nov 11 2026. No macro, syntax, notation, axiom, sorry.
-/
import Derived.Test.YtfhlgmmfknfamaaChecked
import GoSem.Claim
import GoSem.ClaimJoined
import GoSem.ClaimMapViews
import Derived.JoinedTies
import Derived.KernelRfl
namespace Go.Proofs.Ytfhlgmmfknfamaa
/- THE CELL 'sum', in the pinned program and in every row, IS THE sha256 OF THE DUMP (.gsa) THAT YtfhlgmmfknfamaaProg.lean LOADS. Nothing in Lean hashes anything: it is a label: what it is worth is what the hold of that sum in a sandbox is worth. -/
noncomputable def Try.pinned : Pinned := { name := "ytfhlgmmfknfamaa", sum := "42cf6a06f1a7ac232632e33a2cd5888a3c4f6c5641c556117542c138d19fbfaa", checked := Try.checked }
namespace Rows
def none {H : Type} : Left H := { results := [], args := [] }

/-- 'bailifflaw24.GensPlay': WHATEVER THE INPUT: true; the input reads as it did. -/
def gensPlaySpec : ChangeSpec := { name := "gensPlay", fn := fun _ => fun
  | [d1, d2, d3, d4, d5] => { results := [.lit (.bool true)], args := [d1, d2, d3, d4, d5] }
  | _ => none }
def gensPlayRow : OpenClaim := { program := "ytfhlgmmfknfamaa", sum := "42cf6a06f1a7ac232632e33a2cd5888a3c4f6c5641c556117542c138d19fbfaa", func := "bailiff/bailifflaw24.GensPlay", spec := "gensPlay", apart := false }
def GensPlaySaid : Prop := gensPlayRow.holds Try.pinned (OpenSpec.ofChange gensPlaySpec)

/-- ITS FALSE NEIGHBOUR: 'it returns false'. Refute it at one input. -/
def gensPlayWrong : ChangeSpec := { name := "gensPlay", fn := fun _ => fun
  | [d1, d2, d3, d4, d5] => { results := [.lit (.bool false)], args := [d1, d2, d3, d4, d5] }
  | _ => none }
def GensPlayWrongFalsely : Prop := gensPlayRow.holds Try.pinned (OpenSpec.ofChange gensPlayWrong)

/-- 'bailifflaw24.GensMove': WHATEVER THE INPUT: true; the input reads as it did. -/
def gensMoveSpec : ChangeSpec := { name := "gensMove", fn := fun _ => fun
  | [d1, d2, d3, d4] => { results := [.lit (.bool true)], args := [d1, d2, d3, d4] }
  | _ => none }
def gensMoveRow : OpenClaim := { program := "ytfhlgmmfknfamaa", sum := "42cf6a06f1a7ac232632e33a2cd5888a3c4f6c5641c556117542c138d19fbfaa", func := "bailiff/bailifflaw24.GensMove", spec := "gensMove", apart := false }
def GensMoveSaid : Prop := gensMoveRow.holds Try.pinned (OpenSpec.ofChange gensMoveSpec)

/-- ITS FALSE NEIGHBOUR: 'it returns false'. Refute it at one input. -/
def gensMoveWrong : ChangeSpec := { name := "gensMove", fn := fun _ => fun
  | [d1, d2, d3, d4] => { results := [.lit (.bool false)], args := [d1, d2, d3, d4] }
  | _ => none }
def GensMoveWrongFalsely : Prop := gensMoveRow.holds Try.pinned (OpenSpec.ofChange gensMoveWrong)

/-- 'bailifflaw24.GensEpochs': WHATEVER THE INPUT: true; the input reads as it did. -/
def gensEpochsSpec : ChangeSpec := { name := "gensEpochs", fn := fun _ => fun
  | [d1, d2, d3, d4] => { results := [.lit (.bool true)], args := [d1, d2, d3, d4] }
  | _ => none }
def gensEpochsRow : OpenClaim := { program := "ytfhlgmmfknfamaa", sum := "42cf6a06f1a7ac232632e33a2cd5888a3c4f6c5641c556117542c138d19fbfaa", func := "bailiff/bailifflaw24.GensEpochs", spec := "gensEpochs", apart := false }
def GensEpochsSaid : Prop := gensEpochsRow.holds Try.pinned (OpenSpec.ofChange gensEpochsSpec)

/-- ITS FALSE NEIGHBOUR: 'it returns false'. Refute it at one input. -/
def gensEpochsWrong : ChangeSpec := { name := "gensEpochs", fn := fun _ => fun
  | [d1, d2, d3, d4] => { results := [.lit (.bool false)], args := [d1, d2, d3, d4] }
  | _ => none }
def GensEpochsWrongFalsely : Prop := gensEpochsRow.holds Try.pinned (OpenSpec.ofChange gensEpochsWrong)

/-- 'bailifflaw24.GensWithin': WHATEVER THE INPUT: true; the input reads as it did. -/
def gensWithinSpec : ChangeSpec := { name := "gensWithin", fn := fun _ => fun
  | [d1, d2, d3, d4, d5] => { results := [.lit (.bool true)], args := [d1, d2, d3, d4, d5] }
  | _ => none }
def gensWithinRow : OpenClaim := { program := "ytfhlgmmfknfamaa", sum := "42cf6a06f1a7ac232632e33a2cd5888a3c4f6c5641c556117542c138d19fbfaa", func := "bailiff/bailifflaw24.GensWithin", spec := "gensWithin", apart := false }
def GensWithinSaid : Prop := gensWithinRow.holds Try.pinned (OpenSpec.ofChange gensWithinSpec)

/-- ITS FALSE NEIGHBOUR: 'it returns false'. Refute it at one input. -/
def gensWithinWrong : ChangeSpec := { name := "gensWithin", fn := fun _ => fun
  | [d1, d2, d3, d4, d5] => { results := [.lit (.bool false)], args := [d1, d2, d3, d4, d5] }
  | _ => none }
def GensWithinWrongFalsely : Prop := gensWithinRow.holds Try.pinned (OpenSpec.ofChange gensWithinWrong)

/- THE SECOND FORM. 'bulk': how many values and letters a reading holds, each counted each time it is reached (what is shared counts as often as it is met; a slice's spare places count too). A statement '..UptoSaid' is the law's where the arguments, and the package variables that the reading takes, are together of bulk at most 1048576: NARROWER than '..Said'. Prove '..Said' where nothing that the law and all that it calls make is longer than what came in: it says more and counts as full. Else prove '..UptoSaid'. A law counts once. -/
mutual
def uptoBulk {H : Type} : DataW H → Nat
  | .lit (.string bytes) => bytes.length + 1
  | .lit _ => 1
  | .nil => 1
  | .ptr d => uptoBulk d + 1
  | .slice elems spare => uptoBulkAll elems + uptoBulkAll spare + 1
  | .agg parts => uptoBulkAll parts + 1
  | .iface _ d => uptoBulk d + 1
  | .map entries => uptoBulkEntries entries + 1
  | .held _ => 1
def uptoBulkAll {H : Type} : List (DataW H) → Nat
  | [] => 0
  | d :: r => uptoBulk d + uptoBulkAll r
def uptoBulkEntries {H : Type} : List (Lit × DataW H) → Nat
  | [] => 0
  | x :: r => uptoBulkEntry x + uptoBulkEntries r
def uptoBulkEntry {H : Type} : Lit × DataW H → Nat
  | (.string bytes, d) => bytes.length + uptoBulk d + 1
  | (_, d) => uptoBulk d + 1
 end
def uptoSmall : (H : Type) → List (DataW H) → Bool := fun _ ds => decide (uptoBulkAll ds ≤ 1048576)
def OpenSpec.upto (s : _root_.Go.ChangeSpec) : _root_.Go.OpenSpec := { _root_.Go.OpenSpec.ofChange s with cond := some uptoSmall }

/-- 'bailifflaw24.GensPlay', WHERE WHAT IT READS IS OF BULK AT MOST 1048576: true; the input reads as it did. -/
def gensPlayUptoRow : OpenClaim := { program := "ytfhlgmmfknfamaa", sum := "42cf6a06f1a7ac232632e33a2cd5888a3c4f6c5641c556117542c138d19fbfaa", func := "bailiff/bailifflaw24.GensPlay", spec := "gensPlay", apart := false, narrowed := true }
def GensPlayUptoSaid : Prop := gensPlayUptoRow.holds Try.pinned (OpenSpec.upto gensPlaySpec)

/-- 'bailifflaw24.GensMove', WHERE WHAT IT READS IS OF BULK AT MOST 1048576: true; the input reads as it did. -/
def gensMoveUptoRow : OpenClaim := { program := "ytfhlgmmfknfamaa", sum := "42cf6a06f1a7ac232632e33a2cd5888a3c4f6c5641c556117542c138d19fbfaa", func := "bailiff/bailifflaw24.GensMove", spec := "gensMove", apart := false, narrowed := true }
def GensMoveUptoSaid : Prop := gensMoveUptoRow.holds Try.pinned (OpenSpec.upto gensMoveSpec)

/-- 'bailifflaw24.GensEpochs', WHERE WHAT IT READS IS OF BULK AT MOST 1048576: true; the input reads as it did. -/
def gensEpochsUptoRow : OpenClaim := { program := "ytfhlgmmfknfamaa", sum := "42cf6a06f1a7ac232632e33a2cd5888a3c4f6c5641c556117542c138d19fbfaa", func := "bailiff/bailifflaw24.GensEpochs", spec := "gensEpochs", apart := false, narrowed := true }
def GensEpochsUptoSaid : Prop := gensEpochsUptoRow.holds Try.pinned (OpenSpec.upto gensEpochsSpec)

/-- 'bailifflaw24.GensWithin', WHERE WHAT IT READS IS OF BULK AT MOST 1048576: true; the input reads as it did. -/
def gensWithinUptoRow : OpenClaim := { program := "ytfhlgmmfknfamaa", sum := "42cf6a06f1a7ac232632e33a2cd5888a3c4f6c5641c556117542c138d19fbfaa", func := "bailiff/bailifflaw24.GensWithin", spec := "gensWithin", apart := false, narrowed := true }
def GensWithinUptoSaid : Prop := gensWithinUptoRow.holds Try.pinned (OpenSpec.upto gensWithinSpec)

end Rows
end Go.Proofs.Ytfhlgmmfknfamaa
