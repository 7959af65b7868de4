/- What a packet tells, said of plain lists. Conditions: those of each theorem. -/
import Derived.Test.YtebpemknmcgamaaMem
namespace Go.Proofs.Ytebpemknmcgamaa.inet

/-- The number of two bytes at a place. -/
def wd (bs : List Int) (p : Nat) : Nat := (bs.getD p 0).toNat * 256 + (bs.getD (p + 1) 0).toNat
/-- How many bytes the head has. -/
def hd (bs : List Int) : Nat := (bs.getD 0 0).toNat % 16 * 4
/-- A carry, added below. -/
def carry (x : Nat) : Nat := if x ≤ 65535 then x else x - 65535
/-- What the first k words come to. -/
def sm (bs : List Int) : Nat → Nat
  | 0 => 0
  | k + 1 => carry (sm bs k + wd bs (2 * k))
/-- Why b begins with no packet, or 0. -/
def why (bs : List Int) : Nat :=
  if bs.length < 20 then 1 else if (bs.getD 0 0).toNat / 16 ≠ 4 ∨ hd bs < 20 then 3 else if bs.length < hd bs then 1
  else if wd bs 2 < hd bs ∨ bs.length < wd bs 2 then 5 else if sm bs (hd bs / 2) ≠ 65535 then 4 else 0

theorem wd_int {bs : List Int} (ho : Octs bs) (p : Nat) : bs.getD p 0 * 256 + bs.getD (p + 1) 0 = ((wd bs p : Nat) : Int) := by
  have h1 := ho.at_ p
  have h2 := ho.at_ (p + 1)
  unfold wd
  omega
theorem wd_bd {bs : List Int} (ho : Octs bs) (p : Nat) : wd bs p ≤ 65535 := by
  have h1 := ho.at_ p
  have h2 := ho.at_ (p + 1)
  unfold wd
  omega
theorem carry_bd {x : Nat} (h : x ≤ 131070) : carry x ≤ 65535 := by unfold carry; split <;> omega
theorem sm_bd {bs : List Int} (ho : Octs bs) : ∀ k, sm bs k ≤ 65535
  | 0 => by simp [sm]
  | k + 1 => carry_bd (by have := sm_bd ho k; have := wd_bd ho (2 * k); omega)
end Go.Proofs.Ytebpemknmcgamaa.inet
