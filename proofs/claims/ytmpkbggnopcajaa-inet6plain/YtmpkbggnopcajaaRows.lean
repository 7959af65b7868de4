/-
  No cell of these rows narrows 'for every input' (looked for: loops, veiled, ifaces, maps, wideKeys, modest, calm, conditions, laid).
  DERIVED. THE GIVEN ROWS OF THIS SEAT. 4 by the template 'for every input the law returns true; each argument reads behind the call as it read before'; 0 by the template 'total and deterministic' (their statements: YtmpkbggnopcajaaTotals.lean).
  GIVEN WITH THE SEED: the statements are not yours to turn. If you find one false, say at which input.
  Laid BY PROGRAM, IN A SANDBOX (cutbox-rows.mjs): the forced cells as the released guide's own fill.sh prints them over the translation 556b3f2312dd2d2b… (all of the seat's roots in one cut). By AI agents, Wed Nov 11 2026. No macro, syntax, notation, axiom, sorry.
-/
import Derived.Test.YtmpkbggnopcajaaChecked
import GoSem.Claim
import GoSem.ClaimJoined
import GoSem.ClaimMapViews
import Derived.JoinedTies
import Derived.KernelRfl
namespace Go.Proofs.Ytmpkbggnopcajaa
/- THE CELL 'sum', in the pinned program and in every row, IS THE sha256 OF THE DUMP (.gsa) THAT YtmpkbggnopcajaaProg.lean LOADS. Nothing in Lean hashes anything: it is a label: what it is worth is what the hold of that sum in a sandbox is worth. -/
noncomputable def Try.pinned : Pinned := { name := "ytmpkbggnopcajaa", sum := "556b3f2312dd2d2ba9253611b47af0f83f9b9b58ef2d6d94e392874dbe6e66cc", checked := Try.checked }
namespace Rows
def none {H : Type} : Left H := { results := [], args := [] }

/-- 'bailifflaw10.Inet6Reads': WHATEVER THE INPUT: true; the input reads as it did. -/
def inet6ReadsSpec : ChangeSpec := { name := "inet6Reads", fn := fun _ => fun
  | [d] => { results := [.lit (.bool true)], args := [d] }
  | _ => none }
def inet6ReadsRow : OpenClaim := { program := "ytmpkbggnopcajaa", sum := "556b3f2312dd2d2ba9253611b47af0f83f9b9b58ef2d6d94e392874dbe6e66cc", func := "bailiff/bailifflaw10.Inet6Reads", spec := "inet6Reads", apart := false }
def Inet6ReadsSaid : Prop := inet6ReadsRow.holds Try.pinned (OpenSpec.ofChange inet6ReadsSpec)

/-- ITS FALSE NEIGHBOUR: 'it returns false'. Refute it at one input. -/
def inet6ReadsWrong : ChangeSpec := { name := "inet6Reads", fn := fun _ => fun
  | [d] => { results := [.lit (.bool false)], args := [d] }
  | _ => none }
def Inet6ReadsWrongFalsely : Prop := inet6ReadsRow.holds Try.pinned (OpenSpec.ofChange inet6ReadsWrong)

/-- 'bailifflaw10.Inet6Heads': WHATEVER THE INPUT: true; the input reads as it did. -/
def inet6HeadsSpec : ChangeSpec := { name := "inet6Heads", fn := fun _ => fun
  | [d1, d2] => { results := [.lit (.bool true)], args := [d1, d2] }
  | _ => none }
def inet6HeadsRow : OpenClaim := { program := "ytmpkbggnopcajaa", sum := "556b3f2312dd2d2ba9253611b47af0f83f9b9b58ef2d6d94e392874dbe6e66cc", func := "bailiff/bailifflaw10.Inet6Heads", spec := "inet6Heads", apart := false }
def Inet6HeadsSaid : Prop := inet6HeadsRow.holds Try.pinned (OpenSpec.ofChange inet6HeadsSpec)

/-- ITS FALSE NEIGHBOUR: 'it returns false'. Refute it at one input. -/
def inet6HeadsWrong : ChangeSpec := { name := "inet6Heads", fn := fun _ => fun
  | [d1, d2] => { results := [.lit (.bool false)], args := [d1, d2] }
  | _ => none }
def Inet6HeadsWrongFalsely : Prop := inet6HeadsRow.holds Try.pinned (OpenSpec.ofChange inet6HeadsWrong)

/-- 'bailifflaw10.Inet6Cut': WHATEVER THE INPUT: true; the input reads as it did. -/
def inet6CutSpec : ChangeSpec := { name := "inet6Cut", fn := fun _ => fun
  | [d1, d2, d3] => { results := [.lit (.bool true)], args := [d1, d2, d3] }
  | _ => none }
def inet6CutRow : OpenClaim := { program := "ytmpkbggnopcajaa", sum := "556b3f2312dd2d2ba9253611b47af0f83f9b9b58ef2d6d94e392874dbe6e66cc", func := "bailiff/bailifflaw10.Inet6Cut", spec := "inet6Cut", apart := false }
def Inet6CutSaid : Prop := inet6CutRow.holds Try.pinned (OpenSpec.ofChange inet6CutSpec)

/-- ITS FALSE NEIGHBOUR: 'it returns false'. Refute it at one input. -/
def inet6CutWrong : ChangeSpec := { name := "inet6Cut", fn := fun _ => fun
  | [d1, d2, d3] => { results := [.lit (.bool false)], args := [d1, d2, d3] }
  | _ => none }
def Inet6CutWrongFalsely : Prop := inet6CutRow.holds Try.pinned (OpenSpec.ofChange inet6CutWrong)

/-- 'bailifflaw10.Inet6Plain': WHATEVER THE INPUT: true; the input reads as it did. -/
def inet6PlainSpec : ChangeSpec := { name := "inet6Plain", fn := fun _ => fun
  | [d1, d2, d3] => { results := [.lit (.bool true)], args := [d1, d2, d3] }
  | _ => none }
def inet6PlainRow : OpenClaim := { program := "ytmpkbggnopcajaa", sum := "556b3f2312dd2d2ba9253611b47af0f83f9b9b58ef2d6d94e392874dbe6e66cc", func := "bailiff/bailifflaw10.Inet6Plain", spec := "inet6Plain", apart := false }
def Inet6PlainSaid : Prop := inet6PlainRow.holds Try.pinned (OpenSpec.ofChange inet6PlainSpec)

/-- ITS FALSE NEIGHBOUR: 'it returns false'. Refute it at one input. -/
def inet6PlainWrong : ChangeSpec := { name := "inet6Plain", fn := fun _ => fun
  | [d1, d2, d3] => { results := [.lit (.bool false)], args := [d1, d2, d3] }
  | _ => none }
def Inet6PlainWrongFalsely : Prop := inet6PlainRow.holds Try.pinned (OpenSpec.ofChange inet6PlainWrong)

/- THE SECOND FORM. 'bulk': how many values and letters a reading holds, each counted each time it is reached (what is shared counts as often as it is met; a slice's spare places count too). A statement '..UptoSaid' is the law's where the arguments, and the package variables that the reading takes, are together of bulk at most 1048576: NARROWER than '..Said'. Prove '..Said' where nothing that the law and all that it calls make is longer than what came in: it says more and counts as full. Else prove '..UptoSaid'. A law counts once. -/
mutual
def uptoBulk {H : Type} : DataW H → Nat
  | .lit (.string bytes) => bytes.length + 1
  | .lit _ => 1
  | .nil => 1
  | .ptr d => uptoBulk d + 1
  | .slice elems spare => uptoBulkAll elems + uptoBulkAll spare + 1
  | .agg parts => uptoBulkAll parts + 1
  | .iface _ d => uptoBulk d + 1
  | .map entries => uptoBulkEntries entries + 1
  | .held _ => 1
def uptoBulkAll {H : Type} : List (DataW H) → Nat
  | [] => 0
  | d :: r => uptoBulk d + uptoBulkAll r
def uptoBulkEntries {H : Type} : List (Lit × DataW H) → Nat
  | [] => 0
  | x :: r => uptoBulkEntry x + uptoBulkEntries r
def uptoBulkEntry {H : Type} : Lit × DataW H → Nat
  | (.string bytes, d) => bytes.length + uptoBulk d + 1
  | (_, d) => uptoBulk d + 1
 end
def uptoSmall : (H : Type) → List (DataW H) → Bool := fun _ ds => decide (uptoBulkAll ds ≤ 1048576)
def OpenSpec.upto (s : _root_.Go.ChangeSpec) : _root_.Go.OpenSpec := { _root_.Go.OpenSpec.ofChange s with cond := some uptoSmall }

/-- 'bailifflaw10.Inet6Reads', WHERE WHAT IT READS IS OF BULK AT MOST 1048576: true; the input reads as it did. -/
def inet6ReadsUptoRow : OpenClaim := { program := "ytmpkbggnopcajaa", sum := "556b3f2312dd2d2ba9253611b47af0f83f9b9b58ef2d6d94e392874dbe6e66cc", func := "bailiff/bailifflaw10.Inet6Reads", spec := "inet6Reads", apart := false, narrowed := true }
def Inet6ReadsUptoSaid : Prop := inet6ReadsUptoRow.holds Try.pinned (OpenSpec.upto inet6ReadsSpec)

/-- 'bailifflaw10.Inet6Heads', WHERE WHAT IT READS IS OF BULK AT MOST 1048576: true; the input reads as it did. -/
def inet6HeadsUptoRow : OpenClaim := { program := "ytmpkbggnopcajaa", sum := "556b3f2312dd2d2ba9253611b47af0f83f9b9b58ef2d6d94e392874dbe6e66cc", func := "bailiff/bailifflaw10.Inet6Heads", spec := "inet6Heads", apart := false, narrowed := true }
def Inet6HeadsUptoSaid : Prop := inet6HeadsUptoRow.holds Try.pinned (OpenSpec.upto inet6HeadsSpec)

/-- 'bailifflaw10.Inet6Cut', WHERE WHAT IT READS IS OF BULK AT MOST 1048576: true; the input reads as it did. -/
def inet6CutUptoRow : OpenClaim := { program := "ytmpkbggnopcajaa", sum := "556b3f2312dd2d2ba9253611b47af0f83f9b9b58ef2d6d94e392874dbe6e66cc", func := "bailiff/bailifflaw10.Inet6Cut", spec := "inet6Cut", apart := false, narrowed := true }
def Inet6CutUptoSaid : Prop := inet6CutUptoRow.holds Try.pinned (OpenSpec.upto inet6CutSpec)

/-- 'bailifflaw10.Inet6Plain', WHERE WHAT IT READS IS OF BULK AT MOST 1048576: true; the input reads as it did. -/
def inet6PlainUptoRow : OpenClaim := { program := "ytmpkbggnopcajaa", sum := "556b3f2312dd2d2ba9253611b47af0f83f9b9b58ef2d6d94e392874dbe6e66cc", func := "bailiff/bailifflaw10.Inet6Plain", spec := "inet6Plain", apart := false, narrowed := true }
def Inet6PlainUptoSaid : Prop := inet6PlainUptoRow.holds Try.pinned (OpenSpec.upto inet6PlainSpec)

end Rows
end Go.Proofs.Ytmpkbggnopcajaa
