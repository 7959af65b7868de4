/-
  No cell of these rows narrows 'for every input' (looked for: loops, veiled, ifaces, maps, wideKeys, modest, calm, conditions, laid).
  DERIVED. THE GIVEN ROWS OF THIS SEAT. 4 by the template 'for every input the law returns true; each argument reads behind the call as it read before'; 0 by the template 'total and deterministic' (their statements: YteeobeeoefokdaaTotals.lean).
  GIVEN WITH THE SEED: the statements are not yours to turn. If you find one false, say at which input.
  Laid BY PROGRAM, IN A SANDBOX (cutbox-rows.mjs): the forced cells as the released guide's own fill.sh prints them over the translation 977dcf2f53c8d6ee… (all of the seat's roots in one cut). By AI agents, Wed Nov 11 2026. No macro, syntax, notation, axiom, sorry.
-/
import Derived.Test.YteeobeeoefokdaaChecked
import GoSem.Claim
import GoSem.ClaimJoined
import GoSem.ClaimMapViews
import Derived.JoinedTies
import Derived.KernelRfl
namespace Go.Proofs.Yteeobeeoefokdaa
/- THE CELL 'sum', in the pinned program and in every row, IS THE sha256 OF THE DUMP (.gsa) THAT YteeobeeoefokdaaProg.lean LOADS. Nothing in Lean hashes anything: it is a label: what it is worth is what the hold of that sum in a sandbox is worth. -/
noncomputable def Try.pinned : Pinned := { name := "yteeobeeoefokdaa", sum := "977dcf2f53c8d6eecb1b01e291711549aa957f279560344138f28637748d51e0", checked := Try.checked }
namespace Rows
def none {H : Type} : Left H := { results := [], args := [] }

/-- 'bailifflaw19.WindowPlays': WHATEVER THE INPUT: true; the input reads as it did. -/
def windowPlaysSpec : ChangeSpec := { name := "windowPlays", fn := fun _ => fun
  | [d1, d2, d3, d4, d5] => { results := [.lit (.bool true)], args := [d1, d2, d3, d4, d5] }
  | _ => none }
def windowPlaysRow : OpenClaim := { program := "yteeobeeoefokdaa", sum := "977dcf2f53c8d6eecb1b01e291711549aa957f279560344138f28637748d51e0", func := "bailiff/bailifflaw19.WindowPlays", spec := "windowPlays", unfollowed := true, recurses := true, apart := false }
def WindowPlaysSaid : Prop := windowPlaysRow.holds Try.pinned (OpenSpec.ofChange windowPlaysSpec)

/-- ITS FALSE NEIGHBOUR: 'it returns false'. Refute it at one input. -/
def windowPlaysWrong : ChangeSpec := { name := "windowPlays", fn := fun _ => fun
  | [d1, d2, d3, d4, d5] => { results := [.lit (.bool false)], args := [d1, d2, d3, d4, d5] }
  | _ => none }
def WindowPlaysWrongFalsely : Prop := windowPlaysRow.holds Try.pinned (OpenSpec.ofChange windowPlaysWrong)

/-- 'bailifflaw19.WindowHeavy': WHATEVER THE INPUT: true; the input reads as it did. -/
def windowHeavySpec : ChangeSpec := { name := "windowHeavy", fn := fun _ => fun
  | [d1, d2, d3] => { results := [.lit (.bool true)], args := [d1, d2, d3] }
  | _ => none }
def windowHeavyRow : OpenClaim := { program := "yteeobeeoefokdaa", sum := "977dcf2f53c8d6eecb1b01e291711549aa957f279560344138f28637748d51e0", func := "bailiff/bailifflaw19.WindowHeavy", spec := "windowHeavy", unfollowed := true, recurses := true, apart := false }
def WindowHeavySaid : Prop := windowHeavyRow.holds Try.pinned (OpenSpec.ofChange windowHeavySpec)

/-- ITS FALSE NEIGHBOUR: 'it returns false'. Refute it at one input. -/
def windowHeavyWrong : ChangeSpec := { name := "windowHeavy", fn := fun _ => fun
  | [d1, d2, d3] => { results := [.lit (.bool false)], args := [d1, d2, d3] }
  | _ => none }
def WindowHeavyWrongFalsely : Prop := windowHeavyRow.holds Try.pinned (OpenSpec.ofChange windowHeavyWrong)

/-- 'bailifflaw19.WindowBegins': WHATEVER THE INPUT: true; the input reads as it did. -/
def windowBeginsSpec : ChangeSpec := { name := "windowBegins", fn := fun _ => fun
  | [d1, d2, d3, d4, d5] => { results := [.lit (.bool true)], args := [d1, d2, d3, d4, d5] }
  | _ => none }
def windowBeginsRow : OpenClaim := { program := "yteeobeeoefokdaa", sum := "977dcf2f53c8d6eecb1b01e291711549aa957f279560344138f28637748d51e0", func := "bailiff/bailifflaw19.WindowBegins", spec := "windowBegins", unfollowed := true, recurses := true, apart := false }
def WindowBeginsSaid : Prop := windowBeginsRow.holds Try.pinned (OpenSpec.ofChange windowBeginsSpec)

/-- ITS FALSE NEIGHBOUR: 'it returns false'. Refute it at one input. -/
def windowBeginsWrong : ChangeSpec := { name := "windowBegins", fn := fun _ => fun
  | [d1, d2, d3, d4, d5] => { results := [.lit (.bool false)], args := [d1, d2, d3, d4, d5] }
  | _ => none }
def WindowBeginsWrongFalsely : Prop := windowBeginsRow.holds Try.pinned (OpenSpec.ofChange windowBeginsWrong)

/-- 'bailifflaw19.WindowBack': WHATEVER THE INPUT: true; the input reads as it did. -/
def windowBackSpec : ChangeSpec := { name := "windowBack", fn := fun _ => fun
  | [d1, d2, d3, d4, d5, d6] => { results := [.lit (.bool true)], args := [d1, d2, d3, d4, d5, d6] }
  | _ => none }
def windowBackRow : OpenClaim := { program := "yteeobeeoefokdaa", sum := "977dcf2f53c8d6eecb1b01e291711549aa957f279560344138f28637748d51e0", func := "bailiff/bailifflaw19.WindowBack", spec := "windowBack", unfollowed := true, recurses := true, apart := false }
def WindowBackSaid : Prop := windowBackRow.holds Try.pinned (OpenSpec.ofChange windowBackSpec)

/-- ITS FALSE NEIGHBOUR: 'it returns false'. Refute it at one input. -/
def windowBackWrong : ChangeSpec := { name := "windowBack", fn := fun _ => fun
  | [d1, d2, d3, d4, d5, d6] => { results := [.lit (.bool false)], args := [d1, d2, d3, d4, d5, d6] }
  | _ => none }
def WindowBackWrongFalsely : Prop := windowBackRow.holds Try.pinned (OpenSpec.ofChange windowBackWrong)

/- THE SECOND FORM. 'bulk': how many values and letters a reading holds, each counted each time it is reached (what is shared counts as often as it is met; a slice's spare places count too). A statement '..UptoSaid' is the law's where the arguments, and the package variables that the reading takes, are together of bulk at most 1048576: NARROWER than '..Said'. Prove '..Said' where nothing that the law and all that it calls make is longer than what came in: it says more and counts as full. Else prove '..UptoSaid'. A law counts once. -/
mutual
def uptoBulk {H : Type} : DataW H → Nat
  | .lit (.string bytes) => bytes.length + 1
  | .lit _ => 1
  | .nil => 1
  | .ptr d => uptoBulk d + 1
  | .slice elems spare => uptoBulkAll elems + uptoBulkAll spare + 1
  | .agg parts => uptoBulkAll parts + 1
  | .iface _ d => uptoBulk d + 1
  | .map entries => uptoBulkEntries entries + 1
  | .held _ => 1
def uptoBulkAll {H : Type} : List (DataW H) → Nat
  | [] => 0
  | d :: r => uptoBulk d + uptoBulkAll r
def uptoBulkEntries {H : Type} : List (Lit × DataW H) → Nat
  | [] => 0
  | x :: r => uptoBulkEntry x + uptoBulkEntries r
def uptoBulkEntry {H : Type} : Lit × DataW H → Nat
  | (.string bytes, d) => bytes.length + uptoBulk d + 1
  | (_, d) => uptoBulk d + 1
 end
def uptoSmall : (H : Type) → List (DataW H) → Bool := fun _ ds => decide (uptoBulkAll ds ≤ 1048576)
def OpenSpec.upto (s : _root_.Go.ChangeSpec) : _root_.Go.OpenSpec := { _root_.Go.OpenSpec.ofChange s with cond := some uptoSmall }

/-- 'bailifflaw19.WindowPlays', WHERE WHAT IT READS IS OF BULK AT MOST 1048576: true; the input reads as it did. -/
def windowPlaysUptoRow : OpenClaim := { program := "yteeobeeoefokdaa", sum := "977dcf2f53c8d6eecb1b01e291711549aa957f279560344138f28637748d51e0", func := "bailiff/bailifflaw19.WindowPlays", spec := "windowPlays", unfollowed := true, recurses := true, apart := false, narrowed := true }
def WindowPlaysUptoSaid : Prop := windowPlaysUptoRow.holds Try.pinned (OpenSpec.upto windowPlaysSpec)

/-- 'bailifflaw19.WindowHeavy', WHERE WHAT IT READS IS OF BULK AT MOST 1048576: true; the input reads as it did. -/
def windowHeavyUptoRow : OpenClaim := { program := "yteeobeeoefokdaa", sum := "977dcf2f53c8d6eecb1b01e291711549aa957f279560344138f28637748d51e0", func := "bailiff/bailifflaw19.WindowHeavy", spec := "windowHeavy", unfollowed := true, recurses := true, apart := false, narrowed := true }
def WindowHeavyUptoSaid : Prop := windowHeavyUptoRow.holds Try.pinned (OpenSpec.upto windowHeavySpec)

/-- 'bailifflaw19.WindowBegins', WHERE WHAT IT READS IS OF BULK AT MOST 1048576: true; the input reads as it did. -/
def windowBeginsUptoRow : OpenClaim := { program := "yteeobeeoefokdaa", sum := "977dcf2f53c8d6eecb1b01e291711549aa957f279560344138f28637748d51e0", func := "bailiff/bailifflaw19.WindowBegins", spec := "windowBegins", unfollowed := true, recurses := true, apart := false, narrowed := true }
def WindowBeginsUptoSaid : Prop := windowBeginsUptoRow.holds Try.pinned (OpenSpec.upto windowBeginsSpec)

/-- 'bailifflaw19.WindowBack', WHERE WHAT IT READS IS OF BULK AT MOST 1048576: true; the input reads as it did. -/
def windowBackUptoRow : OpenClaim := { program := "yteeobeeoefokdaa", sum := "977dcf2f53c8d6eecb1b01e291711549aa957f279560344138f28637748d51e0", func := "bailiff/bailifflaw19.WindowBack", spec := "windowBack", unfollowed := true, recurses := true, apart := false, narrowed := true }
def WindowBackUptoSaid : Prop := windowBackUptoRow.holds Try.pinned (OpenSpec.upto windowBackSpec)

end Rows
end Go.Proofs.Yteeobeeoefokdaa
