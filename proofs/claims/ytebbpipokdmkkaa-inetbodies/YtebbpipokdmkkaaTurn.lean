/- A right head with one bit turned, but one of how many words it has, is no head. Conditions: those of each theorem. -/
import Derived.Test.YtebbpipokdmkkaaAwake
namespace Go.Proofs.Ytebbpipokdmkkaa

theorem getD_set_self {bs : List Int} {j : Nat} {y : Int} (h : j < bs.length) : (bs.set j y).getD j 0 = y := by
  rw [List.getD_eq_getElem?_getD, List.getElem?_set_self h]
  rfl
theorem getD_set_ne {bs : List Int} {j i : Nat} {y : Int} (h : i ≠ j) : (bs.set j y).getD i 0 = bs.getD i 0 := by
  rw [List.getD_eq_getElem?_getD, List.getD_eq_getElem?_getD, List.getElem?_set_ne (fun e => h e.symm)]
/-- What a byte counts for. -/
def coef (j : Nat) : Nat := if j % 2 = 0 then 256 else 1
theorem total_set {bs : List Int} {j : Nat} {y : Int} (hl : j < bs.length) : ∀ k, j < 2 * k → total (bs.set j y) k + coef j * (bs.getD j 0).toNat = total bs k + coef j * y.toNat
  | 0, h => by omega
  | k + 1, h => by
    by_cases hj : j < 2 * k
    · have e : wd (bs.set j y) (2 * k) = wd bs (2 * k) := by
        unfold wd
        rw [getD_set_ne (by omega), getD_set_ne (by omega)]
      have ih := total_set (y := y) hl k hj
      rw [total, total, e]
      omega
    · have e : total (bs.set j y) k = total bs k := total_ext fun i hi => getD_set_ne (by omega)
      rw [total, total, e]
      unfold wd coef
      by_cases h2 : j = 2 * k
      · subst h2
        rw [getD_set_self hl, getD_set_ne (by omega), if_pos (by omega)]
        omega
      · obtain rfl : j = 2 * k + 1 := by omega
        rw [getD_set_self hl, getD_set_ne (by omega), if_neg (by omega)]
        omega
theorem first_byte : ∀ b < 8, 4 ≤ b → (69 ^^^ 2 ^ b) / 16 ≠ 4 := by decide
theorem pow_bd : ∀ b < 8, 1 ≤ 2 ^ b ∧ 2 ^ b ≤ 128 := by decide

/-- The bytes with bit t turned. -/
def turn (bs : List Int) (t : Nat) : List Int := bs.set (t / 8) ((((bs.getD (t / 8) 0).toNat ^^^ 2 ^ (t % 8) : Nat)) : Int)
theorem turn_length (bs : List Int) (t : Nat) : (turn bs t).length = bs.length := by simp [turn]
theorem turn_byte {bs : List Int} (ho : Octs bs) (t : Nat) : (bs.getD (t / 8) 0).toNat ^^^ 2 ^ (t % 8) < 256 :=
  Nat.xor_lt_two_pow (n := 8) (by have := ho.at_ (t / 8); omega) (by have := pow_bd (t % 8) (by omega); omega)
theorem turn_octs {bs : List Int} (ho : Octs bs) (t : Nat) : Octs (turn bs t) := fun z hz => by
  rcases List.mem_or_eq_of_mem_set hz with h | rfl
  · exact ho z h
  · have := turn_byte ho t
    omega

theorem turn_wrong {p : Int} {ds ms : List Int} {m t : Nat} (h0 : 0 ≤ p) (h1 : p ≤ 255) (hm : m ≤ 60000) (h4 : 4 ≤ t) (ht : t < 160) : why (turn (rhead p m ++ ds ++ ms) t) ≠ 0 := by
  intro h
  obtain ⟨f1, f2, f3, f4, f5, f6, f7⟩ := why_fine h
  have hg : ∀ j, j < 20 → (rhead p m ++ ds ++ ms).getD j 0 = (rhead p m).getD j 0 := fun j hj => by
    rw [List.append_assoc]
    exact getD_left (by rw [rhead_length]; exact hj)
  have hlen : 20 ≤ (rhead p m ++ ds ++ ms).length := by simp [rhead_length]
  have g0 : (rhead p m ++ ds ++ ms).getD 0 0 = 69 := hg 0 (by omega)
  have et : total (rhead p m ++ ds ++ ms) 10 = total (rhead p m) 10 := total_ext fun j hj => hg j (by omega)
  have hr := rhead_total h0 h1 hm
  have hb := (rhead_octs m h0 h1).at_ (t / 8)
  rw [← hg _ (by omega)] at hb
  rw [← et] at hr
  generalize rhead p m ++ ds ++ ms = bs at *
  have hj : t / 8 < bs.length := by omega
  have hx := xor_bit (bs.getD (t / 8) 0).toNat (by omega) (t % 8) (by omega)
  have hp := pow_bd (t % 8) (by omega)
  by_cases hz : t / 8 = 0
  · have e : (turn bs t).getD 0 0 = ((69 ^^^ 2 ^ (t % 8) : Nat) : Int) := by
      unfold turn
      rw [hz, getD_set_self (by omega), g0]
      rfl
    rw [e] at f7
    exact first_byte (t % 8) (by omega) (by omega) (by simpa using f7)
  · have e0 : (turn bs t).getD 0 0 = 69 := by
      unfold turn
      rw [getD_set_ne (fun e => hz e.symm), g0]
    have e1 : hd (turn bs t) = 20 := by unfold hd; rw [e0]; rfl
    rw [e1] at f6
    have hw := sm_wrong f6
    have hs := total_set (y := (((bs.getD (t / 8) 0).toNat ^^^ 2 ^ (t % 8) : Nat) : Int)) hj (20 / 2) (by omega)
    change total (turn bs t) (20 / 2) + _ = _ at hs
    rw [Int.toNat_natCast] at hs
    generalize (bs.getD (t / 8) 0).toNat ^^^ 2 ^ (t % 8) = y at *
    generalize (bs.getD (t / 8) 0).toNat = x at *
    generalize 2 ^ (t % 8) = d at *
    have hr2 : total bs (20 / 2) % 65535 = 0 := hr.2
    clear hr f6
    generalize total (turn bs t) (20 / 2) = T at *
    generalize total bs (20 / 2) = U at *
    unfold coef at hs
    split at hs <;> rcases hx with hx | hx <;> omega
theorem why_vals {bs : List Int} (h : why bs ≠ 0) : why bs = 4 ∨ why bs = 3 ∨ why bs = 1 ∨ why bs = 5 := by
  have : why bs = 0 ∨ why bs = 4 ∨ why bs = 3 ∨ why bs = 1 ∨ why bs = 5 := by
    unfold why
    split
    · simp
    · split
      · simp
      · split
        · simp
        · split
          · simp
          · split
            · simp
            · simp
  omega
end Go.Proofs.Ytebbpipokdmkkaa
