/-
  No cell of these rows narrows 'for every input' (looked for: loops, veiled, ifaces, maps, wideKeys, modest, calm, conditions, laid).
  DERIVED. THE GIVEN ROWS OF THIS SEAT. 3 by the template 'for every input the law returns true; each argument reads behind the call as it read before'; 0 by the template 'total and deterministic' (their statements: YtpjeeccgpnpokaaTotals.lean).
  GIVEN WITH THE SEED: the statements are not yours to turn. If you find one false, say at which input.
  Laid BY PROGRAM, IN A SANDBOX (cutbox-rows.mjs): the forced cells as the released guide's own fill.sh prints them over the translation 77ab4340ae89441c… (all of the seat's roots in one cut). By AI agents, Wed Nov 11 2026. No macro, syntax, notation, axiom, sorry.
-/
import Derived.Test.YtpjeeccgpnpokaaChecked
import GoSem.Claim
import GoSem.ClaimJoined
import GoSem.ClaimMapViews
import Derived.JoinedTies
import Derived.KernelRfl
namespace Go.Proofs.Ytpjeeccgpnpokaa
/- THE CELL 'sum', in the pinned program and in every row, IS THE sha256 OF THE DUMP (.gsa) THAT YtpjeeccgpnpokaaProg.lean LOADS. Nothing in Lean hashes anything: it is a label: what it is worth is what the hold of that sum in a sandbox is worth. -/
noncomputable def Try.pinned : Pinned := { name := "ytpjeeccgpnpokaa", sum := "77ab4340ae89441cbc92edaef5bd5610fb44fdfb04f269e21693618988500f12", checked := Try.checked }
namespace Rows
def none {H : Type} : Left H := { results := [], args := [] }

/-- 'bailifflaw22.BoxPlays': WHATEVER THE INPUT: true; the input reads as it did. -/
def boxPlaysSpec : ChangeSpec := { name := "boxPlays", fn := fun _ => fun
  | [d1, d2, d3, d4, d5] => { results := [.lit (.bool true)], args := [d1, d2, d3, d4, d5] }
  | _ => none }
def boxPlaysRow : OpenClaim := { program := "ytpjeeccgpnpokaa", sum := "77ab4340ae89441cbc92edaef5bd5610fb44fdfb04f269e21693618988500f12", func := "bailiff/bailifflaw22.BoxPlays", spec := "boxPlays", inPlace := ["internal/bytealg.Compare", "slices.overlaps[bailiff/table.entry[bailiff/box.stay]]"], unfollowed := true, recurses := true, apart := false }
def BoxPlaysSaid : Prop := boxPlaysRow.holds Try.pinned (OpenSpec.ofChange boxPlaysSpec)

/-- ITS FALSE NEIGHBOUR: 'it returns false'. Refute it at one input. -/
def boxPlaysWrong : ChangeSpec := { name := "boxPlays", fn := fun _ => fun
  | [d1, d2, d3, d4, d5] => { results := [.lit (.bool false)], args := [d1, d2, d3, d4, d5] }
  | _ => none }
def BoxPlaysWrongFalsely : Prop := boxPlaysRow.holds Try.pinned (OpenSpec.ofChange boxPlaysWrong)

/-- 'bailifflaw22.BoxTerms': WHATEVER THE INPUT: true; the input reads as it did. -/
def boxTermsSpec : ChangeSpec := { name := "boxTerms", fn := fun _ => fun
  | [d1, d2, d3, d4] => { results := [.lit (.bool true)], args := [d1, d2, d3, d4] }
  | _ => none }
def boxTermsRow : OpenClaim := { program := "ytpjeeccgpnpokaa", sum := "77ab4340ae89441cbc92edaef5bd5610fb44fdfb04f269e21693618988500f12", func := "bailiff/bailifflaw22.BoxTerms", spec := "boxTerms", inPlace := ["internal/bytealg.Compare", "slices.overlaps[bailiff/table.entry[bailiff/box.stay]]"], unfollowed := true, recurses := true, apart := false }
def BoxTermsSaid : Prop := boxTermsRow.holds Try.pinned (OpenSpec.ofChange boxTermsSpec)

/-- ITS FALSE NEIGHBOUR: 'it returns false'. Refute it at one input. -/
def boxTermsWrong : ChangeSpec := { name := "boxTerms", fn := fun _ => fun
  | [d1, d2, d3, d4] => { results := [.lit (.bool false)], args := [d1, d2, d3, d4] }
  | _ => none }
def BoxTermsWrongFalsely : Prop := boxTermsRow.holds Try.pinned (OpenSpec.ofChange boxTermsWrong)

/-- 'bailifflaw22.BoxRoom': WHATEVER THE INPUT: true; the input reads as it did. -/
def boxRoomSpec : ChangeSpec := { name := "boxRoom", fn := fun _ => fun
  | [d1, d2, d3] => { results := [.lit (.bool true)], args := [d1, d2, d3] }
  | _ => none }
def boxRoomRow : OpenClaim := { program := "ytpjeeccgpnpokaa", sum := "77ab4340ae89441cbc92edaef5bd5610fb44fdfb04f269e21693618988500f12", func := "bailiff/bailifflaw22.BoxRoom", spec := "boxRoom", inPlace := ["internal/bytealg.Compare", "slices.overlaps[bailiff/table.entry[bailiff/box.stay]]"], unfollowed := true, recurses := true, apart := false }
def BoxRoomSaid : Prop := boxRoomRow.holds Try.pinned (OpenSpec.ofChange boxRoomSpec)

/-- ITS FALSE NEIGHBOUR: 'it returns false'. Refute it at one input. -/
def boxRoomWrong : ChangeSpec := { name := "boxRoom", fn := fun _ => fun
  | [d1, d2, d3] => { results := [.lit (.bool false)], args := [d1, d2, d3] }
  | _ => none }
def BoxRoomWrongFalsely : Prop := boxRoomRow.holds Try.pinned (OpenSpec.ofChange boxRoomWrong)

/- THE SECOND FORM. 'bulk': how many values and letters a reading holds, each counted each time it is reached (what is shared counts as often as it is met; a slice's spare places count too). A statement '..UptoSaid' is the law's where the arguments, and the package variables that the reading takes, are together of bulk at most 1048576: NARROWER than '..Said'. Prove '..Said' where nothing that the law and all that it calls make is longer than what came in: it says more and counts as full. Else prove '..UptoSaid'. A law counts once. -/
mutual
def uptoBulk {H : Type} : DataW H → Nat
  | .lit (.string bytes) => bytes.length + 1
  | .lit _ => 1
  | .nil => 1
  | .ptr d => uptoBulk d + 1
  | .slice elems spare => uptoBulkAll elems + uptoBulkAll spare + 1
  | .agg parts => uptoBulkAll parts + 1
  | .iface _ d => uptoBulk d + 1
  | .map entries => uptoBulkEntries entries + 1
  | .held _ => 1
def uptoBulkAll {H : Type} : List (DataW H) → Nat
  | [] => 0
  | d :: r => uptoBulk d + uptoBulkAll r
def uptoBulkEntries {H : Type} : List (Lit × DataW H) → Nat
  | [] => 0
  | x :: r => uptoBulkEntry x + uptoBulkEntries r
def uptoBulkEntry {H : Type} : Lit × DataW H → Nat
  | (.string bytes, d) => bytes.length + uptoBulk d + 1
  | (_, d) => uptoBulk d + 1
 end
def uptoSmall : (H : Type) → List (DataW H) → Bool := fun _ ds => decide (uptoBulkAll ds ≤ 1048576)
def OpenSpec.upto (s : _root_.Go.ChangeSpec) : _root_.Go.OpenSpec := { _root_.Go.OpenSpec.ofChange s with cond := some uptoSmall }

/-- 'bailifflaw22.BoxPlays', WHERE WHAT IT READS IS OF BULK AT MOST 1048576: true; the input reads as it did. -/
def boxPlaysUptoRow : OpenClaim := { program := "ytpjeeccgpnpokaa", sum := "77ab4340ae89441cbc92edaef5bd5610fb44fdfb04f269e21693618988500f12", func := "bailiff/bailifflaw22.BoxPlays", spec := "boxPlays", inPlace := ["internal/bytealg.Compare", "slices.overlaps[bailiff/table.entry[bailiff/box.stay]]"], unfollowed := true, recurses := true, apart := false, narrowed := true }
def BoxPlaysUptoSaid : Prop := boxPlaysUptoRow.holds Try.pinned (OpenSpec.upto boxPlaysSpec)

/-- 'bailifflaw22.BoxTerms', WHERE WHAT IT READS IS OF BULK AT MOST 1048576: true; the input reads as it did. -/
def boxTermsUptoRow : OpenClaim := { program := "ytpjeeccgpnpokaa", sum := "77ab4340ae89441cbc92edaef5bd5610fb44fdfb04f269e21693618988500f12", func := "bailiff/bailifflaw22.BoxTerms", spec := "boxTerms", inPlace := ["internal/bytealg.Compare", "slices.overlaps[bailiff/table.entry[bailiff/box.stay]]"], unfollowed := true, recurses := true, apart := false, narrowed := true }
def BoxTermsUptoSaid : Prop := boxTermsUptoRow.holds Try.pinned (OpenSpec.upto boxTermsSpec)

/-- 'bailifflaw22.BoxRoom', WHERE WHAT IT READS IS OF BULK AT MOST 1048576: true; the input reads as it did. -/
def boxRoomUptoRow : OpenClaim := { program := "ytpjeeccgpnpokaa", sum := "77ab4340ae89441cbc92edaef5bd5610fb44fdfb04f269e21693618988500f12", func := "bailiff/bailifflaw22.BoxRoom", spec := "boxRoom", inPlace := ["internal/bytealg.Compare", "slices.overlaps[bailiff/table.entry[bailiff/box.stay]]"], unfollowed := true, recurses := true, apart := false, narrowed := true }
def BoxRoomUptoSaid : Prop := boxRoomUptoRow.holds Try.pinned (OpenSpec.upto boxRoomSpec)

end Rows
end Go.Proofs.Ytpjeeccgpnpokaa
