/- Plain facts on numbers of several lengths, put one behind the other as bytes; where the first loop of the law CursorPuts stands. Conditions: those of each theorem. -/
import Derived.Test.YtgbnpfaplaolcaaOwnWalk
namespace Go.Proofs.Ytgbnpfaplaolcaa
open Go.RowKit

/-- The first k numbers X, each of M bytes. -/
def putW (X M : Nat → Nat) (k : Nat) : List Int := (List.range k).flatMap fun j => numB (X j) (M j)
/-- The others, up to n. -/
def putT (X M : Nat → Nat) (n k : Nat) : List Int := (putW X M n).drop (putW X M k).length

section
variable {X M : Nat → Nat}
theorem putW_zero : putW X M 0 = [] := rfl
theorem putW_succ (k : Nat) : putW X M (k + 1) = putW X M k ++ numB (X k) (M k) := by
  unfold putW
  rw [List.range_succ, List.flatMap_append]
  simp
theorem putW_len (hM : ∀ j, M j ≤ 8) : ∀ k, (putW X M k).length ≤ 8 * k
  | 0 => by simp [putW_zero]
  | k + 1 => by
    have := putW_len hM k
    have := hM k
    rw [putW_succ, List.length_append, numB_length]
    omega
theorem putW_octs : ∀ k, Octs (putW X M k)
  | 0 => Octs.nil
  | k + 1 => by rw [putW_succ]; exact (putW_octs k).app (numB_octs _ _)
theorem putW_split (k : Nat) : ∀ d, putW X M (k + d) = putW X M k ++ putT X M (k + d) k
  | 0 => by simp [putT]
  | d + 1 => by
    have h := putW_split k d
    unfold putT
    rw [show k + (d + 1) = (k + d) + 1 by omega, putW_succ, h, List.append_assoc, List.drop_left]
theorem putT_step {n k : Nat} (h : k < n) : putT X M n k = numB (X k) (M k) ++ putT X M n (k + 1) := by
  obtain ⟨d, rfl⟩ : ∃ d, n = (k + 1) + d := ⟨n - (k + 1), by omega⟩
  have h1 := putW_split (X := X) (M := M) (k + 1) d
  rw [show putT X M (k + 1 + d) k = (putW X M (k + 1 + d)).drop (putW X M k).length from rfl, h1, putW_succ, List.append_assoc, List.drop_left]
theorem putT_all (n : Nat) : putT X M n 0 = putW X M n := rfl
theorem putT_none (n : Nat) : putT X M n n = [] := by simp [putT]
end

theorem numB_low1 (x : Nat) : [(x : Int) % 256] = numB x 1 := by simp [numB]
theorem numB_low2 (x : Nat) : numB ((x : Int) % 65536).toNat 2 = numB x 2 := by
  rw [show ((x : Int) % 65536).toNat = x % 65536 by omega]
  simp [numB]; omega
theorem numB_low4 (x : Nat) : numB ((x : Int) % 4294967296).toNat 4 = numB x 4 := by
  rw [show ((x : Int) % 4294967296).toNat = x % 4294967296 by omega]
  simp [numB]; omega

/-- Where the first loop stands: the Out and the document's bytes are W both, each in a row of its own. -/
def PutsRel (w : World) (g : Nat) (W : List Int) (v : Value) (w' : World) : Prop :=
  ∃ (r : Option Nat) (A : Option Addr) (n c : Nat), v = .slice A n c ∧ OutAt w' w.heap.size g r W ∧ w'.ownsRow w.heap.size 5 1 (.slice A n c) n (cel W) ∧ (∀ q, (Value.slice A n c).ownBlock = some q → r ≠ some q) ∧ Below w.heap.size w w'

/-- Both have put the same: where the loop stands then. -/
theorem puts_step {w w3 w4 w5 : World} {g : Nat} {W W' : List Int} {r r' : Option Nat} {A A' : Option Addr} {n n' c c' : Nat} (hg : w.heap.size ≤ g) (ho3 : OutAt w3 w.heap.size g r W) (hown3 : w3.ownsRow w.heap.size 5 1 (.slice A n c) n (cel W))
    (h1 : w4.ownsRow w.heap.size 5 1 (.slice A' n' c') n' (cel W')) (h2 : w3.grownBy w4 (Value.slice A n c).ownBlock) (h3 : (Value.slice A' n' c').ownBlock = (Value.slice A n c).ownBlock ∨ (Value.slice A' n' c').ownBlock = some w3.heap.size)
    (hne : ∀ q, (Value.slice A n c).ownBlock = some q → r ≠ some q) (hw3 : Below w.heap.size w w3) (ho : OutAt w5 w.heap.size g r' W') (hf : Far (outS g r) w4 w5) (hr : r' = r ∨ ∃ k, r' = some k ∧ w4.heap.size ≤ k) :
    PutsRel w g W' (.slice A' n' c') w5 := by
  have hr3 := ho3.where_
  have hb3 : ∃ v, Blk w3 g 26 [v] := by obtain ⟨_, _, hb, _⟩ := ho3; exact ⟨_, hb⟩
  obtain ⟨v3, hb3⟩ := hb3
  have hgo : (Value.slice A n c).ownBlock ≠ some g := hb3.row_apart hown3 (by decide)
  have hv' : ∀ q, (Value.slice A' n' c').ownBlock = some q → r ≠ some q ∧ q ≠ g := fun q hq => by
    rcases h3 with e | e
    · rw [e] at hq
      exact ⟨hne q hq, fun e2 => hgo (by rw [hq, e2])⟩
    · rw [e] at hq
      injection hq with hq
      exact ⟨fun e2 => by have := (hr3.2 q e2).2.1; omega, by have := hr3.1; omega⟩
  have hw4 : Below w.heap.size w w4 := hw3.grown h2 hw3.size (fun k e => (hown3.lt k e).1)
  refine ⟨r', A', n', c', rfl, ho, hf.row h1 (fun k hk e => ?_), fun q hq e => ?_, below_out hw4 hf hg (fun k e => (hr3.2 k e).1) hw4.size⟩
  · have := hv' k hk
    rcases e with e | e
    · exact this.2 e
    · exact this.1 e
  · rcases hr with rfl | ⟨k, rfl, hk⟩
    · exact (hv' q hq).1 e
    · injection e with e
      have := (h1.lt q hq).2
      omega
/-- The Out is as it was behind the append to the other row. -/
theorem puts_out {w3 w4 : World} {base g : Nat} {W : List Int} {r row : Option Nat} (ho3 : OutAt w3 base g r W) (h2 : w3.grownBy w4 row) (hg : row ≠ some g) (hne : ∀ q, row = some q → r ≠ some q) : OutAt w4 base g r W :=
  ho3.far (S := fun k => row = some k) ⟨h2.os, h2.tape, h2.output, h2.size, fun k hk hn => h2.block k hk (fun e => hn e.symm)⟩ hg (fun k e e2 => hne k e2 e)
end Go.Proofs.Ytgbnpfaplaolcaa
