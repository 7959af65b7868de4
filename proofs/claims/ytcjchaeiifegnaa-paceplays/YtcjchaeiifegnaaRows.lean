/-
  No cell of these rows narrows 'for every input' (looked for: loops, veiled, ifaces, maps, wideKeys, modest, calm, conditions, laid).
  DERIVED. THE GIVEN ROWS OF THIS SEAT. 4 by the template 'for every input the law returns true; each argument reads behind the call as it read before'; 0 by the template 'total and deterministic' (their statements: YtcjchaeiifegnaaTotals.lean).
  GIVEN WITH THE SEED: the statements are not yours to turn. If you find one false, say at which input.
  Laid BY PROGRAM, IN A SANDBOX (cutbox-rows.mjs): the forced cells as the released guide's own fill.sh prints them over the translation c91c6d7d92be9de9… (all of the seat's roots in one cut). By AI agents, Wed Nov 11 2026. No macro, syntax, notation, axiom, sorry.
-/
import Derived.Test.YtcjchaeiifegnaaChecked
import GoSem.Claim
import GoSem.ClaimJoined
import GoSem.ClaimMapViews
import Derived.JoinedTies
import Derived.KernelRfl
namespace Go.Proofs.Ytcjchaeiifegnaa
/- THE CELL 'sum', in the pinned program and in every row, IS THE sha256 OF THE DUMP (.gsa) THAT YtcjchaeiifegnaaProg.lean LOADS. Nothing in Lean hashes anything: it is a label: what it is worth is what the hold of that sum in a sandbox is worth. -/
noncomputable def Try.pinned : Pinned := { name := "ytcjchaeiifegnaa", sum := "c91c6d7d92be9de920a2634eef8c092c98dd3e589b3f4dddb657ebfa91df2a59", checked := Try.checked }
namespace Rows
def none {H : Type} : Left H := { results := [], args := [] }

/-- 'bailifflaw16.PacePlays': WHATEVER THE INPUT: true; the input reads as it did. -/
def pacePlaysSpec : ChangeSpec := { name := "pacePlays", fn := fun _ => fun
  | [d1, d2] => { results := [.lit (.bool true)], args := [d1, d2] }
  | _ => none }
def pacePlaysRow : OpenClaim := { program := "ytcjchaeiifegnaa", sum := "c91c6d7d92be9de920a2634eef8c092c98dd3e589b3f4dddb657ebfa91df2a59", func := "bailiff/bailifflaw16.PacePlays", spec := "pacePlays", apart := false }
def PacePlaysSaid : Prop := pacePlaysRow.holds Try.pinned (OpenSpec.ofChange pacePlaysSpec)

/-- ITS FALSE NEIGHBOUR: 'it returns false'. Refute it at one input. -/
def pacePlaysWrong : ChangeSpec := { name := "pacePlays", fn := fun _ => fun
  | [d1, d2] => { results := [.lit (.bool false)], args := [d1, d2] }
  | _ => none }
def PacePlaysWrongFalsely : Prop := pacePlaysRow.holds Try.pinned (OpenSpec.ofChange pacePlaysWrong)

/-- 'bailifflaw16.PaceApart': WHATEVER THE INPUT: true; the input reads as it did. -/
def paceApartSpec : ChangeSpec := { name := "paceApart", fn := fun _ => fun
  | [d1, d2, d3] => { results := [.lit (.bool true)], args := [d1, d2, d3] }
  | _ => none }
def paceApartRow : OpenClaim := { program := "ytcjchaeiifegnaa", sum := "c91c6d7d92be9de920a2634eef8c092c98dd3e589b3f4dddb657ebfa91df2a59", func := "bailiff/bailifflaw16.PaceApart", spec := "paceApart", apart := false }
def PaceApartSaid : Prop := paceApartRow.holds Try.pinned (OpenSpec.ofChange paceApartSpec)

/-- ITS FALSE NEIGHBOUR: 'it returns false'. Refute it at one input. -/
def paceApartWrong : ChangeSpec := { name := "paceApart", fn := fun _ => fun
  | [d1, d2, d3] => { results := [.lit (.bool false)], args := [d1, d2, d3] }
  | _ => none }
def PaceApartWrongFalsely : Prop := paceApartRow.holds Try.pinned (OpenSpec.ofChange paceApartWrong)

/-- 'bailifflaw16.PaceRefuses': WHATEVER THE INPUT: true; the input reads as it did. -/
def paceRefusesSpec : ChangeSpec := { name := "paceRefuses", fn := fun _ => fun
  | [d1, d2, d3] => { results := [.lit (.bool true)], args := [d1, d2, d3] }
  | _ => none }
def paceRefusesRow : OpenClaim := { program := "ytcjchaeiifegnaa", sum := "c91c6d7d92be9de920a2634eef8c092c98dd3e589b3f4dddb657ebfa91df2a59", func := "bailiff/bailifflaw16.PaceRefuses", spec := "paceRefuses", apart := false }
def PaceRefusesSaid : Prop := paceRefusesRow.holds Try.pinned (OpenSpec.ofChange paceRefusesSpec)

/-- ITS FALSE NEIGHBOUR: 'it returns false'. Refute it at one input. -/
def paceRefusesWrong : ChangeSpec := { name := "paceRefuses", fn := fun _ => fun
  | [d1, d2, d3] => { results := [.lit (.bool false)], args := [d1, d2, d3] }
  | _ => none }
def PaceRefusesWrongFalsely : Prop := paceRefusesRow.holds Try.pinned (OpenSpec.ofChange paceRefusesWrong)

/-- 'bailifflaw16.PaceNil': WHATEVER THE INPUT: true; the input reads as it did. -/
def paceNilSpec : ChangeSpec := { name := "paceNil", fn := fun _ => fun
  | [d1, d2] => { results := [.lit (.bool true)], args := [d1, d2] }
  | _ => none }
def paceNilRow : OpenClaim := { program := "ytcjchaeiifegnaa", sum := "c91c6d7d92be9de920a2634eef8c092c98dd3e589b3f4dddb657ebfa91df2a59", func := "bailiff/bailifflaw16.PaceNil", spec := "paceNil", apart := false }
def PaceNilSaid : Prop := paceNilRow.holds Try.pinned (OpenSpec.ofChange paceNilSpec)

/-- ITS FALSE NEIGHBOUR: 'it returns false'. Refute it at one input. -/
def paceNilWrong : ChangeSpec := { name := "paceNil", fn := fun _ => fun
  | [d1, d2] => { results := [.lit (.bool false)], args := [d1, d2] }
  | _ => none }
def PaceNilWrongFalsely : Prop := paceNilRow.holds Try.pinned (OpenSpec.ofChange paceNilWrong)

/- THE SECOND FORM. 'bulk': how many values and letters a reading holds, each counted each time it is reached (what is shared counts as often as it is met; a slice's spare places count too). A statement '..UptoSaid' is the law's where the arguments, and the package variables that the reading takes, are together of bulk at most 1048576: NARROWER than '..Said'. Prove '..Said' where nothing that the law and all that it calls make is longer than what came in: it says more and counts as full. Else prove '..UptoSaid'. A law counts once. -/
mutual
def uptoBulk {H : Type} : DataW H → Nat
  | .lit (.string bytes) => bytes.length + 1
  | .lit _ => 1
  | .nil => 1
  | .ptr d => uptoBulk d + 1
  | .slice elems spare => uptoBulkAll elems + uptoBulkAll spare + 1
  | .agg parts => uptoBulkAll parts + 1
  | .iface _ d => uptoBulk d + 1
  | .map entries => uptoBulkEntries entries + 1
  | .held _ => 1
def uptoBulkAll {H : Type} : List (DataW H) → Nat
  | [] => 0
  | d :: r => uptoBulk d + uptoBulkAll r
def uptoBulkEntries {H : Type} : List (Lit × DataW H) → Nat
  | [] => 0
  | x :: r => uptoBulkEntry x + uptoBulkEntries r
def uptoBulkEntry {H : Type} : Lit × DataW H → Nat
  | (.string bytes, d) => bytes.length + uptoBulk d + 1
  | (_, d) => uptoBulk d + 1
 end
def uptoSmall : (H : Type) → List (DataW H) → Bool := fun _ ds => decide (uptoBulkAll ds ≤ 1048576)
def OpenSpec.upto (s : _root_.Go.ChangeSpec) : _root_.Go.OpenSpec := { _root_.Go.OpenSpec.ofChange s with cond := some uptoSmall }

/-- 'bailifflaw16.PacePlays', WHERE WHAT IT READS IS OF BULK AT MOST 1048576: true; the input reads as it did. -/
def pacePlaysUptoRow : OpenClaim := { program := "ytcjchaeiifegnaa", sum := "c91c6d7d92be9de920a2634eef8c092c98dd3e589b3f4dddb657ebfa91df2a59", func := "bailiff/bailifflaw16.PacePlays", spec := "pacePlays", apart := false, narrowed := true }
def PacePlaysUptoSaid : Prop := pacePlaysUptoRow.holds Try.pinned (OpenSpec.upto pacePlaysSpec)

/-- 'bailifflaw16.PaceApart', WHERE WHAT IT READS IS OF BULK AT MOST 1048576: true; the input reads as it did. -/
def paceApartUptoRow : OpenClaim := { program := "ytcjchaeiifegnaa", sum := "c91c6d7d92be9de920a2634eef8c092c98dd3e589b3f4dddb657ebfa91df2a59", func := "bailiff/bailifflaw16.PaceApart", spec := "paceApart", apart := false, narrowed := true }
def PaceApartUptoSaid : Prop := paceApartUptoRow.holds Try.pinned (OpenSpec.upto paceApartSpec)

/-- 'bailifflaw16.PaceRefuses', WHERE WHAT IT READS IS OF BULK AT MOST 1048576: true; the input reads as it did. -/
def paceRefusesUptoRow : OpenClaim := { program := "ytcjchaeiifegnaa", sum := "c91c6d7d92be9de920a2634eef8c092c98dd3e589b3f4dddb657ebfa91df2a59", func := "bailiff/bailifflaw16.PaceRefuses", spec := "paceRefuses", apart := false, narrowed := true }
def PaceRefusesUptoSaid : Prop := paceRefusesUptoRow.holds Try.pinned (OpenSpec.upto paceRefusesSpec)

/-- 'bailifflaw16.PaceNil', WHERE WHAT IT READS IS OF BULK AT MOST 1048576: true; the input reads as it did. -/
def paceNilUptoRow : OpenClaim := { program := "ytcjchaeiifegnaa", sum := "c91c6d7d92be9de920a2634eef8c092c98dd3e589b3f4dddb657ebfa91df2a59", func := "bailiff/bailifflaw16.PaceNil", spec := "paceNil", apart := false, narrowed := true }
def PaceNilUptoSaid : Prop := paceNilUptoRow.holds Try.pinned (OpenSpec.upto paceNilSpec)

end Rows
end Go.Proofs.Ytcjchaeiifegnaa
