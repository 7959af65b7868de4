/- Plain facts on numbers as bytes, the highest byte first: no Go in sight. Conditions: those of each theorem. -/
namespace Go.Proofs.Ytfhlgmmfknfamaa.kd

/-- The k lowest bytes of m, the highest first. -/
def numB (m : Nat) : Nat → List Int
  | 0 => []
  | k + 1 => ((m / 256 ^ k % 256 : Nat) : Int) :: numB m k

/-- The number that bytes are, the highest first, behind s. -/
def numF (s : Int) : List Int → Int
  | [] => s
  | b :: r => numF (s * 256 + b) r

/-- Each is a byte. -/
def Octs (bs : List Int) : Prop := ∀ z ∈ bs, 0 ≤ z ∧ z ≤ 255

theorem Octs.nil : Octs [] := fun _ h => by cases h
theorem Octs.app {a b : List Int} (ha : Octs a) (hb : Octs b) : Octs (a ++ b) := fun z h => by
  rcases List.mem_append.1 h with h | h
  · exact ha z h
  · exact hb z h
theorem Octs.take {a : List Int} (ha : Octs a) (k : Nat) : Octs (a.take k) := fun z h => ha z (List.mem_of_mem_take h)
theorem Octs.drop {a : List Int} (ha : Octs a) (k : Nat) : Octs (a.drop k) := fun z h => ha z (List.mem_of_mem_drop h)
theorem Octs.at_ {a : List Int} (ha : Octs a) (k : Nat) : 0 ≤ a.getD k 0 ∧ a.getD k 0 ≤ 255 := by
  by_cases h : k < a.length
  · rw [List.getD_eq_getElem?_getD, List.getElem?_eq_getElem h]
    exact ha _ (List.getElem_mem h)
  · rw [List.getD_eq_getElem?_getD, List.getElem?_eq_none (by omega)]
    exact ⟨by decide, by decide⟩

theorem numB_length (m : Nat) : ∀ k, (numB m k).length = k
  | 0 => rfl
  | k + 1 => by simp [numB, numB_length m k]
theorem numB_octs (m : Nat) : ∀ k, Octs (numB m k)
  | 0 => Octs.nil
  | k + 1 => fun z h => by
    rcases List.mem_cons.1 h with rfl | h
    · have := Nat.mod_lt (m / 256 ^ k) (show 256 > 0 by decide)
      omega
    · exact numB_octs m k z h

theorem numF_snoc (b : Int) : ∀ (bs : List Int) (s : Int), numF s (bs ++ [b]) = numF s bs * 256 + b
  | [], _ => rfl
  | x :: r, s => numF_snoc b r (s * 256 + x)

theorem numF_take (bs : List Int) (k : Nat) (h : k < bs.length) : numF 0 (bs.take (k + 1)) = numF 0 (bs.take k) * 256 + bs.getD k 0 := by
  rw [List.take_succ_eq_append_getElem h, numF_snoc, List.getD_eq_getElem?_getD, List.getElem?_eq_getElem h]
  rfl

theorem numF_bd : ∀ (bs : List Int) (s : Int), Octs bs → 0 ≤ s → 0 ≤ numF s bs ∧ numF s bs < (s + 1) * 256 ^ bs.length
  | [], s, _, hs => ⟨hs, by simp [numF]; omega⟩
  | x :: r, s, ho, hs => by
    have hx := ho x (by simp)
    have h := numF_bd r (s * 256 + x) (fun z hz => ho z (by simp [hz])) (by omega)
    refine ⟨h.1, Int.lt_of_lt_of_le h.2 ?_⟩
    rw [List.length_cons, Int.pow_succ, Int.mul_comm (256 ^ r.length) 256, ← Int.mul_assoc]
    exact Int.mul_le_mul_of_nonneg_right (by omega) (Int.pow_nonneg (by decide))

theorem numF_numB (m : Nat) : ∀ (k : Nat) (s : Int), numF s (numB m k) = s * 256 ^ k + ((m % 256 ^ k : Nat) : Int)
  | 0, s => by simp [numB, numF, Nat.mod_one]
  | k + 1, s => by
    have e : m % 256 ^ (k + 1) = m % 256 ^ k + 256 ^ k * (m / 256 ^ k % 256) := Nat.mod_pow_succ
    rw [numB, numF, numF_numB m k, e, Int.natCast_add, Int.natCast_mul, Int.add_mul, Int.pow_succ]
    have e2 : ((256 ^ k : Nat) : Int) = 256 ^ k := by simp
    rw [e2, Int.mul_comm (256 ^ k) 256, ← Int.mul_assoc, Int.mul_comm (256 ^ k) ((m / 256 ^ k % 256 : Nat) : Int)]
    omega

end Go.Proofs.Ytfhlgmmfknfamaa.kd
