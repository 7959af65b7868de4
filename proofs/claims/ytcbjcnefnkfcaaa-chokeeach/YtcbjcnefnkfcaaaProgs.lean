/- What the laws want of the program's Pick and Match: a structure of premises; draws on plain numbers. No conditions. -/
import Derived.Test.YtcbjcnefnkfcaaaFlos
namespace Go.Proofs.Ytcbjcnefnkfcaaa
open Go.RowKit

def i64 (z : Int) : Prop := -9223372036854775808 ≤ z ∧ z ≤ 9223372036854775807
def u64 (z : Int) : Prop := 0 ≤ z ∧ z ≤ 18446744073709551615
def at_ (L : List Flo) (k : Nat) : Flo := L.getD k flo0
theorem at_some {L : List Flo} {k : Nat} (h : k < L.length) : L[k]? = some (at_ L k) := by simp [at_, List.getD_eq_getElem?_getD, h]
theorem at_mem {L : List Flo} {k : Nat} (h : k < L.length) : at_ L k ∈ L := List.mem_of_getElem? (at_some h)
/-- Which of L the draw picks. -/
def pk (d : Int) (L : List Flo) : Nat := (d % (L.length : Int)).toNat
def met (d : Int) (L : List Flo) (f : Flo) : Bool := decide (L ≠ []) && decide (at_ L (pk d L) = f)
def mat (d : Int) (L : List Flo) (f : Flo) : Int := if met d L f then (pk d L : Nat) else 0
theorem pk_lt {d : Int} {L : List Flo} (h : L ≠ []) : pk d L < L.length := by
  have h1 : 0 < L.length := List.length_pos_iff.2 h
  have h2 := Int.emod_lt_of_pos d (show (0 : Int) < L.length by omega)
  have h3 := Int.emod_nonneg d (show (L.length : Int) ≠ 0 by omega)
  unfold pk
  omega
theorem pk_eq {d : Int} {L : List Flo} (h : L ≠ []) : ((pk d L : Nat) : Int) = d % (L.length : Int) := by
  have h1 : 0 < L.length := List.length_pos_iff.2 h
  have h3 := Int.emod_nonneg d (show (L.length : Int) ≠ 0 by omega)
  unfold pk
  omega
structure ProgC : Prop where
  none_ : ∀ d n w, u64 d → i64 n → n < 1 → Calls Try.prog 7 #[.int .u64 d, .int .i64 n] w (Ans (.tuple #[.int .i64 0, .bool false]) w)
  pick : ∀ d n w, u64 d → 1 ≤ n → n ≤ 9223372036854775807 → Calls Try.prog 7 #[.int .u64 d, .int .i64 n] w (Ans (.tuple #[.int .i64 (d % n), .bool true]) w)
  match_ : ∀ d A c L f w, u64 d → Els kFlo w A L → (∀ x ∈ L, x.Ok) → f.Ok → L.length ≤ 100000 → Calls Try.prog 8 #[.int .u64 d, .slice A L.length c, .agg f.cs.toArray] w (Ans (.tuple #[.int .i64 (mat d L f), .bool (met d L f)]) w)
set_option maxHeartbeats 400000 in
theorem awake_ (P : ProgC) (w : World) : Calls Try.prog 6 #[] w (Ans (.bool true) w) := by
  have H := Lib.hid (P.pick 7 3 w ⟨by omega, by omega⟩ (by omega) (by omega))
  clear P
  go_enter Try.func6, Try.ntmps6
  go_wp2_with (go_at_call 7; (refine H.out.mono ?_); rintro e w1 ⟨rfl, hb⟩; have B1 := Lib.hid hb; clear hb)
  go_ret
  exact ⟨rfl, B1.out⟩
end Go.Proofs.Ytcbjcnefnkfcaaa
