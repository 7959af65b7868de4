/- Tokens as plain numbers; the contracts of package token's calls. Conditions: those of each theorem. -/
import Derived.Test.YtpjeeccgpnpokaaRows
import Derived.Test.YtpjeeccgpnpokaaEqs
import Derived.Test.YtpjeeccgpnpokaaRefs
import Derived.WalkKit
import Derived.WalkSpells
import Derived.WalkLawsBesides
import Derived.ProofKit
import Derived.OpenShut
import Derived.Deep.QuietTactic
import Derived.BigQuiet
import Derived.Deep.RegionWith
import Derived.Deep.RegionHeld
import Derived.RegionTactic
import Derived.Deep.DeepCutAuto
import Derived.Lib.MinMax
namespace Go.Proofs.Ytpjeeccgpnpokaa
open Go.RowKit
/-- The cells of a block of four. -/
theorem four {w : World} {g : Nat} {t : TypeId} {a b c d : Value} (h : Blk w g t [a, b, c, d]) :
    w.cell? ⟨g, 0, none⟩ = some a ∧ w.cell? ⟨g, 1, none⟩ = some b ∧ w.cell? ⟨g, 2, none⟩ = some c ∧ w.cell? ⟨g, 3, none⟩ = some d ∧ w.frozen? ⟨g, 0, none⟩ = false ∧ w.frozen? ⟨g, 1, none⟩ = false ∧ w.frozen? ⟨g, 2, none⟩ = false ∧ w.frozen? ⟨g, 3, none⟩ = false :=
  ⟨h.cell 0, h.cell 1, h.cell 2, h.cell 3, h.frozen 0, h.frozen 1, h.frozen 2, h.frozen 3⟩

/-- How many parts are there at x: rate r, burst B, L at m. -/
def lev (r B L m x : Int) : Int := if x ≤ m then L else min (addC L (mulC r (x - m))) B
theorem lev_old {r B L m x : Int} (h : x ≤ m) : lev r B L m x = L := by unfold lev; rw [if_pos h]
theorem lev_new {r B L m x : Int} (h : m < x) : lev r B L m x = min (addC L (mulC r (x - m))) B := by unfold lev; rw [if_neg (by omega)]
/-- What tokens' numbers keep. -/
structure Ok (r B L m : Int) : Prop where
  r0 : 0 ≤ r
  r1 : r ≤ 1073741824
  b1 : B ≤ 1125899906842624
  l0 : 0 ≤ L
  l1 : L ≤ B
  m0 : 0 ≤ m
  m1 : m ≤ 9223372036854775807
theorem lev_bd {r B L m x : Int} (h : Ok r B L m) : 0 ≤ lev r B L m x ∧ lev r B L m x ≤ B := by
  have h0 := h.l0
  have h1 := h.l1
  have h2 := addC_bd (a := L) (b := mulC r (x - m)) h0 (mulC_bd _ _).1
  unfold lev
  split <;> omega
/-- Whether n can be taken at x; what is left then. -/
def okT (r B L m x n : Int) : Bool := decide (0 ≤ n) && decide (n ≤ 1073741824) && decide (n * 1048576 ≤ lev r B L m x)
def lef (r B L m x n : Int) : Int := if okT r B L m x n = true then lev r B L m x - n * 1048576 else lev r B L m x
theorem ok_yes {r B L m x n : Int} (h : okT r B L m x n = true) : 0 ≤ n ∧ n ≤ 1073741824 ∧ n * 1048576 ≤ lev r B L m x := by
  simpa [okT, and_assoc] using h
theorem lef_yes {r B L m x n : Int} (h : okT r B L m x n = true) : lef r B L m x n = lev r B L m x - n * 1048576 := by unfold lef; rw [if_pos h]
theorem lef_no {r B L m x n : Int} (h : okT r B L m x n = false) : lef r B L m x n = lev r B L m x := by unfold lef; rw [if_neg (by simp [h])]
theorem ok_neg {r B L m x n : Int} (h : n < 0) : okT r B L m x n = false := by simp [okT]; omega
theorem ok_big {r B L m x n : Int} (h : 1073741824 < n) : okT r B L m x n = false := by simp [okT]; omega
theorem ok_few {r B L m x n : Int} (h : lev r B L m x < n * 1048576) : okT r B L m x n = false := by simp [okT]; omega
theorem ok_some {r B L m x n : Int} (h0 : 0 ≤ n) (h1 : n ≤ 1073741824) (h : n * 1048576 ≤ lev r B L m x) : okT r B L m x n = true := by simp [okT, h0, h1, h]
theorem ok_left {r B L m x n : Int} (h : Ok r B L m) (hx : x ≤ 9223372036854775807) : Ok r B (lef r B L m x n) (max m x) := by
  have hl := lev_bd (x := x) h
  obtain ⟨h1, h2, h3, h4, h5, h6, h7⟩ := h
  rcases e : okT r B L m x n with _ | _
  · rw [lef_no e]
    exact ⟨h1, h2, h3, hl.1, hl.2, by omega, by omega⟩
  · rw [lef_yes e]
    have := ok_yes e
    exact ⟨h1, h2, h3, by omega, by omega, by omega, by omega⟩

section
variable {w w' : World} {g : Nat} {r B L m : Int}
end
end Go.Proofs.Ytpjeeccgpnpokaa
