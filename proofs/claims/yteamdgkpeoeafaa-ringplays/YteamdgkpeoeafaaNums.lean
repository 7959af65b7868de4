/- Plain facts on places that go round: no Go in sight. Conditions: those of each theorem. -/
namespace Go.Proofs.Yteamdgkpeoeafaa

/-- Where the k-th one stands, from place f on. -/
def pl (f k room : Nat) : Nat := if f + k < room then f + k else f + k - room
theorem pl_lt {f k room : Nat} (hf : f < room) (hk : k ≤ room) : pl f k room < room := by unfold pl; split <;> omega
theorem pl_mod {f k room : Nat} (hf : f < room) (hk : k ≤ room) : (f + k) % room = pl f k room := by
  unfold pl
  split
  · exact Nat.mod_eq_of_lt (by assumption)
  · rw [Nat.mod_eq_sub_mod (by omega)]
    exact Nat.mod_eq_of_lt (by omega)
theorem pl_zero {f room : Nat} (hf : f < room) : pl f 0 room = f := by unfold pl; rw [if_pos (by omega)]; rfl
theorem pl_inj {f i j room : Nat} (hi : i < room) (hj : j < room) (h : pl f i room = pl f j room) : i = j := by
  unfold pl at h
  split at h <;> split at h <;> omega
theorem pl_succ {f k room : Nat} (hf : f < room) (hk : k + 1 < room) : pl (pl f 1 room) k room = pl f (k + 1) room := by
  unfold pl
  repeat' split
  all_goals omega
end Go.Proofs.Yteamdgkpeoeafaa
