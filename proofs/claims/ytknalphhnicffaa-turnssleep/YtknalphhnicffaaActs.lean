/- Acts that came in (a kind, a class, a slice of heads each); the contract of the laws' few. Conditions: those of each theorem. -/
import Derived.Test.YtknalphhnicffaaRowed
namespace Go.Proofs.Ytknalphhnicffaa
open Go.RowKit

theorem addr_one (a : Addr) (i : Nat) : a.add (i + 1) = ⟨(a.add i).block, (a.add i).off + 1, none⟩ := by rw [← Addr.add_twice]; rfl
theorem addr_two (a : Addr) (i : Nat) : a.add (i + 2) = ⟨(a.add i).block, (a.add i).off + 2, none⟩ := by rw [← Addr.add_twice]; rfl
/-- One act that came in. -/
structure ActIn where
  x : Int
  y : Int
  b : Option Addr
  c : Nat
  hs : List Int
/-- What came in. -/
def ActsIn (w : World) (A : Option Addr) (n : Nat) (T : Nat → ActIn) : Prop :=
  ∀ k, k < n → ∃ a : Addr, A = some a ∧ w.cell? (a.add (k * 3)) = some (.int .u8 (T k).x) ∧ w.cell? (a.add (k * 3 + 1)) = some (.int .i8 (T k).y) ∧ w.cell? (a.add (k * 3 + 2)) = some (.slice (T k).b (T k).hs.length (T k).c) ∧
    Vals w (T k).b (T k).hs.length (ints (T k).hs) ∧ (∀ ad, (T k).b = some ad → 0 < (T k).hs.length → ad.block < w.heap.size) ∧ 0 ≤ (T k).x ∧ (T k).x ≤ 255 ∧ -128 ≤ (T k).y ∧ (T k).y ≤ 127 ∧ (T k).hs.length ≤ maxLen
/-- Are there few? -/
def fewOf (n : Nat) (T : Nat → ActIn) : Bool := (List.range n).all (fun k => decide ((T k).hs.length ≤ 20)) && decide (n ≤ 60)
theorem few_at {n k : Nat} {T : Nat → ActIn} (h : fewOf n T = true) (hk : k < n) : (T k).hs.length ≤ 20 := by
  simp [fewOf] at h
  exact h.1 k hk
theorem few_n {n : Nat} {T : Nat → ActIn} (h : fewOf n T = true) : n ≤ 60 := by
  simp [fewOf] at h
  exact h.2
set_option maxHeartbeats 1000000 in
theorem few_ (A : Option Addr) (n c : Nat) (T : Nat → ActIn) (w : World) (hn : n ≤ maxLen) (ha : ActsIn w A n T) :
    Calls Try.prog 9 #[.slice A n c] w fun e w' => e = .returned (.bool (fewOf n T)) ∧ w = w' := by
  have HA := Lib.hid ha
  clear ha
  have hn2 : n ≤ 9223372036854775807 := by have : maxLen = 9223372036854775807 := rfl; omega
  clear hn
  go_enter Try.func9, Try.ntmps9
  go_wp2_with fail
  go_loop [3, 6] (fun _ i => ∃ k : Nat, k ≤ n ∧ i = .int .i64 k ∧ ∀ j, j < k → (T j).hs.length ≤ 20) (fun _ i => n - (intOf i).toNat)
  case atStart => exact ⟨0, by omega, rfl, fun j hj => absurd hj (by omega)⟩
  case round =>
    obtain ⟨k, hk, rfl, hno⟩ := hrel
    have HNO := Lib.hid hno
    clear hno
    by_cases hlt : k < n
    · have hd5 : decide ((k : Int) < (n : Int)) = true := by simp; omega
      have hd5' : decide (k < n) = true := by simpa using hlt
      obtain ⟨a, rfl, hca, hcb, hcc, _, _, _, _, _, _, hml⟩ := HA.out k hlt
      rw [addr_two] at hcc
      clear hca hcb
      by_cases h20 : (T k).hs.length ≤ 20
      · have hd6 : decide ((20 : Int) < ((T k).hs.length : Int)) = false := by simp; omega
        have hd6' : decide (20 < (T k).hs.length) = false := by simp; omega
        have HX : Hid (∀ j, j < k + 1 → (T j).hs.length ≤ 20) := fun j hj => by
          by_cases e : j = k
          · subst e; exact h20
          · exact HNO.out j (by omega)
        clear h20 hml
        go_wp2_with fail
        go_round
        case rel => exact ⟨k + 1, by omega, by go_num, HX.out⟩
        case measure => simp [intOf]; omega
      · have hd6 : decide ((20 : Int) < ((T k).hs.length : Int)) = true := by simp; omega
        have hd6' : decide (20 < (T k).hs.length) = true := by simp; omega
        have HE : Hid (false = fewOf n T) := by
          show _ = _
          rcases e : fewOf n T with _ | _
          · rfl
          · have := few_at e hlt; omega
        clear h20 hml
        go_wp2_with fail
        go_ret
        exact ⟨ret_bool HE.out, rfl⟩
    · obtain rfl : k = n := by omega
      have hd5 : decide ((k : Int) < (k : Int)) = false := by simp
      have HE : Hid (decide ((k : Int) ≤ 60) = fewOf k T) := by
        show _ = _
        have h1 : (List.range k).all (fun j => decide ((T j).hs.length ≤ 20)) = true := by
          simp
          exact HNO.out
        rw [fewOf, h1]
        simp
        omega
      go_wp2_with fail
      go_ret
      exact ⟨ret_bool (by rw [← HE.out]), rfl⟩
end Go.Proofs.Ytknalphhnicffaa
