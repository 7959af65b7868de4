/- The contracts of a turn to the left, the program's and the document's. Conditions: those of each theorem. -/
import Derived.Test.YtfhlgmmfknfamaaRows
import Derived.Test.YtfhlgmmfknfamaaKdSummMem
import Derived.Test.YtfhlgmmfknfamaaKdSummNums
import Derived.WalkKit
import Derived.WalkSpells
import Derived.WalkLawsBesides
import Derived.ProofKit
import Derived.OpenShut
import Derived.Deep.OwnRows
import Derived.Deep.QuietTactic
import Derived.BigQuiet
import Derived.Deep.RegionWith
import Derived.RegionTactic
import Derived.ChangeAlike
import Derived.Deep.DeepCutAuto
namespace Go.Proofs.Ytfhlgmmfknfamaa.kd.summ
open Go.RowKit

theorem rot_out {x : Nat} (n : Nat) {p q : Int} (hx : U x) (hp : p = ((2 ^ n : Nat) : Int)) (hq : q = ((2 ^ (64 - n) : Nat) : Int)) : bits .or .u64 (IntKind.u64.wrap ((x : Int) * p)) ((x : Int) / q) = ((rotN x n : Nat) : Int) := by
  subst hp hq
  rw [IntKind.wrap_u64]
  have e1 : ((x : Int) * ((2 ^ n : Nat) : Int)) % 18446744073709551616 = ((x * 2 ^ n % 18446744073709551616 : Nat) : Int) := by
    rw [Int.natCast_emod, Int.natCast_mul]
    rfl
  have e2 : (x : Int) / ((2 ^ (64 - n) : Nat) : Int) = ((x / 2 ^ (64 - n) : Nat) : Int) := (Int.natCast_ediv _ _).symm
  rw [e1, e2, u64_or_nat _ _ (by omega) (by have := Nat.div_le_self x (2 ^ (64 - n)); have := hx.lt; omega)]
  rfl
theorem xor_out {x y : Nat} (hx : U x) (hy : U y) : bits .xor .u64 (x : Int) (y : Int) = ((x ^^^ y : Nat) : Int) := bits_xor_u64_nat x y hx hy
theorem or_out {x y : Nat} (hx : U x) (hy : U y) : bits .or .u64 (x : Int) (y : Int) = ((x ||| y : Nat) : Int) := u64_or_nat x y hx hy
theorem add_out (x y : Nat) : IntKind.u64.wrap ((x : Int) + (y : Int)) = ((addN x y : Nat) : Int) := by
  rw [IntKind.wrap_u64]
  unfold addN
  omega

set_option maxHeartbeats 1000000 in
theorem rot_13 (x : Nat) (w : World) (hx : U x) : Calls Try.prog 53 #[.int .u64 (x : Nat), .int .i64 13] w fun e w' => e = .returned (.int .u64 (rotN x 13 : Nat)) ∧ w = w' := by
  have hm : bits .and .u64 13 63 = 13 := by decide +kernel
  have he := rot_out (p := 8192) (q := 2251799813685248) 13 hx (by decide +kernel) (by decide +kernel)
  go_enter Try.func53, Try.ntmps53
  go_wp2
  go_ret
  exact ⟨rfl, rfl⟩
set_option maxHeartbeats 1000000 in
theorem turn_13 (x : Nat) (w : World) (hx : U x) : Calls Try.prog 52 #[.int .u64 (x : Nat), .int .u64 13] w fun e w' => e = .returned (.int .u64 (rotN x 13 : Nat)) ∧ w = w' := by
  have he := rot_out (p := 8192) (q := 2251799813685248) 13 hx (by decide +kernel) (by decide +kernel)
  go_enter Try.func52, Try.ntmps52
  go_wp2
  go_ret
  exact ⟨rfl, rfl⟩

set_option maxHeartbeats 1000000 in
theorem rot_16 (x : Nat) (w : World) (hx : U x) : Calls Try.prog 53 #[.int .u64 (x : Nat), .int .i64 16] w fun e w' => e = .returned (.int .u64 (rotN x 16 : Nat)) ∧ w = w' := by
  have hm : bits .and .u64 16 63 = 16 := by decide +kernel
  have he := rot_out (p := 65536) (q := 281474976710656) 16 hx (by decide +kernel) (by decide +kernel)
  go_enter Try.func53, Try.ntmps53
  go_wp2
  go_ret
  exact ⟨rfl, rfl⟩
set_option maxHeartbeats 1000000 in
theorem turn_16 (x : Nat) (w : World) (hx : U x) : Calls Try.prog 52 #[.int .u64 (x : Nat), .int .u64 16] w fun e w' => e = .returned (.int .u64 (rotN x 16 : Nat)) ∧ w = w' := by
  have he := rot_out (p := 65536) (q := 281474976710656) 16 hx (by decide +kernel) (by decide +kernel)
  go_enter Try.func52, Try.ntmps52
  go_wp2
  go_ret
  exact ⟨rfl, rfl⟩

set_option maxHeartbeats 1000000 in
theorem rot_17 (x : Nat) (w : World) (hx : U x) : Calls Try.prog 53 #[.int .u64 (x : Nat), .int .i64 17] w fun e w' => e = .returned (.int .u64 (rotN x 17 : Nat)) ∧ w = w' := by
  have hm : bits .and .u64 17 63 = 17 := by decide +kernel
  have he := rot_out (p := 131072) (q := 140737488355328) 17 hx (by decide +kernel) (by decide +kernel)
  go_enter Try.func53, Try.ntmps53
  go_wp2
  go_ret
  exact ⟨rfl, rfl⟩
set_option maxHeartbeats 1000000 in
theorem turn_17 (x : Nat) (w : World) (hx : U x) : Calls Try.prog 52 #[.int .u64 (x : Nat), .int .u64 17] w fun e w' => e = .returned (.int .u64 (rotN x 17 : Nat)) ∧ w = w' := by
  have he := rot_out (p := 131072) (q := 140737488355328) 17 hx (by decide +kernel) (by decide +kernel)
  go_enter Try.func52, Try.ntmps52
  go_wp2
  go_ret
  exact ⟨rfl, rfl⟩

set_option maxHeartbeats 1000000 in
theorem rot_21 (x : Nat) (w : World) (hx : U x) : Calls Try.prog 53 #[.int .u64 (x : Nat), .int .i64 21] w fun e w' => e = .returned (.int .u64 (rotN x 21 : Nat)) ∧ w = w' := by
  have hm : bits .and .u64 21 63 = 21 := by decide +kernel
  have he := rot_out (p := 2097152) (q := 8796093022208) 21 hx (by decide +kernel) (by decide +kernel)
  go_enter Try.func53, Try.ntmps53
  go_wp2
  go_ret
  exact ⟨rfl, rfl⟩
set_option maxHeartbeats 1000000 in
theorem turn_21 (x : Nat) (w : World) (hx : U x) : Calls Try.prog 52 #[.int .u64 (x : Nat), .int .u64 21] w fun e w' => e = .returned (.int .u64 (rotN x 21 : Nat)) ∧ w = w' := by
  have he := rot_out (p := 2097152) (q := 8796093022208) 21 hx (by decide +kernel) (by decide +kernel)
  go_enter Try.func52, Try.ntmps52
  go_wp2
  go_ret
  exact ⟨rfl, rfl⟩

set_option maxHeartbeats 1000000 in
theorem rot_32 (x : Nat) (w : World) (hx : U x) : Calls Try.prog 53 #[.int .u64 (x : Nat), .int .i64 32] w fun e w' => e = .returned (.int .u64 (rotN x 32 : Nat)) ∧ w = w' := by
  have hm : bits .and .u64 32 63 = 32 := by decide +kernel
  have he := rot_out (p := 4294967296) (q := 4294967296) 32 hx (by decide +kernel) (by decide +kernel)
  go_enter Try.func53, Try.ntmps53
  go_wp2
  go_ret
  exact ⟨rfl, rfl⟩
set_option maxHeartbeats 1000000 in
theorem turn_32 (x : Nat) (w : World) (hx : U x) : Calls Try.prog 52 #[.int .u64 (x : Nat), .int .u64 32] w fun e w' => e = .returned (.int .u64 (rotN x 32 : Nat)) ∧ w = w' := by
  have he := rot_out (p := 4294967296) (q := 4294967296) 32 hx (by decide +kernel) (by decide +kernel)
  go_enter Try.func52, Try.ntmps52
  go_wp2
  go_ret
  exact ⟨rfl, rfl⟩
end Go.Proofs.Ytfhlgmmfknfamaa.kd.summ
