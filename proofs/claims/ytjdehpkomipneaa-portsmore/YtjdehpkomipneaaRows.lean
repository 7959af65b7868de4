/-
  No cell of these rows narrows 'for every input' (looked for: loops, veiled, ifaces, maps, wideKeys, modest, calm, conditions, laid).
  DERIVED. THE GIVEN ROWS OF THIS SEAT. 3 by the template 'for every input the law returns true; each argument reads behind the call as it read before'; 0 by the template 'total and deterministic' (their statements: YtjdehpkomipneaaTotals.lean).
  GIVEN WITH THE SEED: the statements are not yours to turn. If you find one false, say at which input.
  Laid BY PROGRAM, IN A SANDBOX (cutbox-rows.mjs): the forced cells as the released guide's own fill.sh prints them over the translation 844adecbf410194a… (all of the seat's roots in one cut). By AI agents, Wed Nov 11 2026. No macro, syntax, notation, axiom, sorry.
-/
import Derived.Test.YtjdehpkomipneaaChecked
import GoSem.Claim
import GoSem.ClaimJoined
import GoSem.ClaimMapViews
import Derived.JoinedTies
import Derived.KernelRfl
namespace Go.Proofs.Ytjdehpkomipneaa
/- THE CELL 'sum', in the pinned program and in every row, IS THE sha256 OF THE DUMP (.gsa) THAT YtjdehpkomipneaaProg.lean LOADS. Nothing in Lean hashes anything: it is a label: what it is worth is what the hold of that sum in a sandbox is worth. -/
noncomputable def Try.pinned : Pinned := { name := "ytjdehpkomipneaa", sum := "844adecbf410194a5c9d84ce3562c3c5a283022914e1dbc9f73b1855b6f3e706", checked := Try.checked }
namespace Rows
def none {H : Type} : Left H := { results := [], args := [] }

/-- 'bailifflaw11.PortsRead': WHATEVER THE INPUT: true; the input reads as it did. -/
def portsReadSpec : ChangeSpec := { name := "portsRead", fn := fun _ => fun
  | [d1, d2] => { results := [.lit (.bool true)], args := [d1, d2] }
  | _ => none }
def portsReadRow : OpenClaim := { program := "ytjdehpkomipneaa", sum := "844adecbf410194a5c9d84ce3562c3c5a283022914e1dbc9f73b1855b6f3e706", func := "bailiff/bailifflaw11.PortsRead", spec := "portsRead", apart := false }
def PortsReadSaid : Prop := portsReadRow.holds Try.pinned (OpenSpec.ofChange portsReadSpec)

/-- ITS FALSE NEIGHBOUR: 'it returns false'. Refute it at one input. -/
def portsReadWrong : ChangeSpec := { name := "portsRead", fn := fun _ => fun
  | [d1, d2] => { results := [.lit (.bool false)], args := [d1, d2] }
  | _ => none }
def PortsReadWrongFalsely : Prop := portsReadRow.holds Try.pinned (OpenSpec.ofChange portsReadWrong)

/-- 'bailifflaw11.PortsLater': WHATEVER THE INPUT: true; the input reads as it did. -/
def portsLaterSpec : ChangeSpec := { name := "portsLater", fn := fun _ => fun
  | [d1, d2, d3] => { results := [.lit (.bool true)], args := [d1, d2, d3] }
  | _ => none }
def portsLaterRow : OpenClaim := { program := "ytjdehpkomipneaa", sum := "844adecbf410194a5c9d84ce3562c3c5a283022914e1dbc9f73b1855b6f3e706", func := "bailiff/bailifflaw11.PortsLater", spec := "portsLater", apart := false }
def PortsLaterSaid : Prop := portsLaterRow.holds Try.pinned (OpenSpec.ofChange portsLaterSpec)

/-- ITS FALSE NEIGHBOUR: 'it returns false'. Refute it at one input. -/
def portsLaterWrong : ChangeSpec := { name := "portsLater", fn := fun _ => fun
  | [d1, d2, d3] => { results := [.lit (.bool false)], args := [d1, d2, d3] }
  | _ => none }
def PortsLaterWrongFalsely : Prop := portsLaterRow.holds Try.pinned (OpenSpec.ofChange portsLaterWrong)

/-- 'bailifflaw11.PortsMore': WHATEVER THE INPUT: true; the input reads as it did. -/
def portsMoreSpec : ChangeSpec := { name := "portsMore", fn := fun _ => fun
  | [d1, d2, d3] => { results := [.lit (.bool true)], args := [d1, d2, d3] }
  | _ => none }
def portsMoreRow : OpenClaim := { program := "ytjdehpkomipneaa", sum := "844adecbf410194a5c9d84ce3562c3c5a283022914e1dbc9f73b1855b6f3e706", func := "bailiff/bailifflaw11.PortsMore", spec := "portsMore", apart := false }
def PortsMoreSaid : Prop := portsMoreRow.holds Try.pinned (OpenSpec.ofChange portsMoreSpec)

/-- ITS FALSE NEIGHBOUR: 'it returns false'. Refute it at one input. -/
def portsMoreWrong : ChangeSpec := { name := "portsMore", fn := fun _ => fun
  | [d1, d2, d3] => { results := [.lit (.bool false)], args := [d1, d2, d3] }
  | _ => none }
def PortsMoreWrongFalsely : Prop := portsMoreRow.holds Try.pinned (OpenSpec.ofChange portsMoreWrong)

/- THE SECOND FORM. 'bulk': how many values and letters a reading holds, each counted each time it is reached (what is shared counts as often as it is met; a slice's spare places count too). A statement '..UptoSaid' is the law's where the arguments, and the package variables that the reading takes, are together of bulk at most 1048576: NARROWER than '..Said'. Prove '..Said' where nothing that the law and all that it calls make is longer than what came in: it says more and counts as full. Else prove '..UptoSaid'. A law counts once. -/
mutual
def uptoBulk {H : Type} : DataW H → Nat
  | .lit (.string bytes) => bytes.length + 1
  | .lit _ => 1
  | .nil => 1
  | .ptr d => uptoBulk d + 1
  | .slice elems spare => uptoBulkAll elems + uptoBulkAll spare + 1
  | .agg parts => uptoBulkAll parts + 1
  | .iface _ d => uptoBulk d + 1
  | .map entries => uptoBulkEntries entries + 1
  | .held _ => 1
def uptoBulkAll {H : Type} : List (DataW H) → Nat
  | [] => 0
  | d :: r => uptoBulk d + uptoBulkAll r
def uptoBulkEntries {H : Type} : List (Lit × DataW H) → Nat
  | [] => 0
  | x :: r => uptoBulkEntry x + uptoBulkEntries r
def uptoBulkEntry {H : Type} : Lit × DataW H → Nat
  | (.string bytes, d) => bytes.length + uptoBulk d + 1
  | (_, d) => uptoBulk d + 1
 end
def uptoSmall : (H : Type) → List (DataW H) → Bool := fun _ ds => decide (uptoBulkAll ds ≤ 1048576)
def OpenSpec.upto (s : _root_.Go.ChangeSpec) : _root_.Go.OpenSpec := { _root_.Go.OpenSpec.ofChange s with cond := some uptoSmall }

/-- 'bailifflaw11.PortsRead', WHERE WHAT IT READS IS OF BULK AT MOST 1048576: true; the input reads as it did. -/
def portsReadUptoRow : OpenClaim := { program := "ytjdehpkomipneaa", sum := "844adecbf410194a5c9d84ce3562c3c5a283022914e1dbc9f73b1855b6f3e706", func := "bailiff/bailifflaw11.PortsRead", spec := "portsRead", apart := false, narrowed := true }
def PortsReadUptoSaid : Prop := portsReadUptoRow.holds Try.pinned (OpenSpec.upto portsReadSpec)

/-- 'bailifflaw11.PortsLater', WHERE WHAT IT READS IS OF BULK AT MOST 1048576: true; the input reads as it did. -/
def portsLaterUptoRow : OpenClaim := { program := "ytjdehpkomipneaa", sum := "844adecbf410194a5c9d84ce3562c3c5a283022914e1dbc9f73b1855b6f3e706", func := "bailiff/bailifflaw11.PortsLater", spec := "portsLater", apart := false, narrowed := true }
def PortsLaterUptoSaid : Prop := portsLaterUptoRow.holds Try.pinned (OpenSpec.upto portsLaterSpec)

/-- 'bailifflaw11.PortsMore', WHERE WHAT IT READS IS OF BULK AT MOST 1048576: true; the input reads as it did. -/
def portsMoreUptoRow : OpenClaim := { program := "ytjdehpkomipneaa", sum := "844adecbf410194a5c9d84ce3562c3c5a283022914e1dbc9f73b1855b6f3e706", func := "bailiff/bailifflaw11.PortsMore", spec := "portsMore", apart := false, narrowed := true }
def PortsMoreUptoSaid : Prop := portsMoreUptoRow.holds Try.pinned (OpenSpec.upto portsMoreSpec)

end Rows
end Go.Proofs.Ytjdehpkomipneaa
