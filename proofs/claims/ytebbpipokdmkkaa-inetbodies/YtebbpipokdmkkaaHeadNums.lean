/- The head that the laws lay ahead of a body, as plain numbers: its sum is right; with one bit turned it is not. Conditions: those of each theorem. -/
import Derived.Test.YtebbpipokdmkkaaTold
namespace Go.Proofs.Ytebbpipokdmkkaa

/-- The words' plain total. -/
def total (bs : List Int) : Nat → Nat
  | 0 => 0
  | k + 1 => total bs k + wd bs (2 * k)
theorem carry_mod {x : Nat} : carry x % 65535 = x % 65535 := by
  unfold carry
  split <;> omega
theorem carry_pos {x : Nat} (h : 0 < x) : 0 < carry x := by
  unfold carry
  split <;> omega
theorem sm_mod (bs : List Int) : ∀ k, sm bs k % 65535 = total bs k % 65535
  | 0 => rfl
  | k + 1 => by
    have h := sm_mod bs k
    rw [sm, total, carry_mod]
    omega
theorem sm_pos (bs : List Int) : ∀ k, 0 < total bs k → 0 < sm bs k
  | 0, h => h
  | k + 1, h => by
    rw [sm]
    apply carry_pos
    by_cases h0 : 0 < total bs k
    · have := sm_pos bs k h0
      omega
    · rw [total] at h
      omega
/-- A sum is right just if the total is a multiple, and not nothing. -/
theorem sm_right {bs : List Int} (ho : Octs bs) {k : Nat} (h0 : 0 < total bs k) (hm : total bs k % 65535 = 0) : sm bs k = 65535 := by
  have h1 := sm_mod bs k
  have h2 := sm_pos bs k h0
  have h3 := sm_bd ho k
  omega
theorem sm_wrong {bs : List Int} {k : Nat} (h : sm bs k = 65535) : total bs k % 65535 = 0 := by
  have h1 := sm_mod bs k
  omega

/-- The head, its sum's word s. -/
def hdr (p : Int) (m s : Nat) : List Int := [69, 0, (((20 + m) / 256 % 256 : Nat) : Int), (((20 + m) % 256 : Nat) : Int), 0, 0, 0, 0, 64, p, ((s / 256 % 256 : Nat) : Int), ((s % 256 : Nat) : Int), 10, 0, 0, 1, 10, 0, 0, 2]
/-- Its right sum. -/
def right (p : Int) (m : Nat) : Nat := 65535 - sm (hdr p m 0) 10
/-- The head with its right sum. -/
def rhead (p : Int) (m : Nat) : List Int := hdr p m (right p m)
theorem hdr_octs {p : Int} (m s : Nat) (h0 : 0 ≤ p) (h1 : p ≤ 255) : Octs (hdr p m s) := by
  unfold Octs hdr
  intro z hz
  simp only [List.mem_cons, List.not_mem_nil, or_false] at hz
  omega
theorem hdr_total {p : Int} {m s : Nat} (hm : m ≤ 60000) (hs : s ≤ 65535) : total (hdr p m s) 10 = 17664 + (20 + m) + 16384 + p.toNat + s + 2560 + 1 + 2560 + 2 := by
  simp only [total, wd, hdr, List.getD_eq_getElem?_getD]
  simp
  omega
theorem rhead_length (p : Int) (m : Nat) : (rhead p m).length = 20 := rfl
theorem right_le (p : Int) (m : Nat) : right p m ≤ 65535 := by unfold right; omega
theorem rhead_octs {p : Int} (m : Nat) (h0 : 0 ≤ p) (h1 : p ≤ 255) : Octs (rhead p m) := hdr_octs m _ h0 h1
theorem rhead_total {p : Int} {m : Nat} (h0 : 0 ≤ p) (h1 : p ≤ 255) (hm : m ≤ 60000) : 0 < total (rhead p m) 10 ∧ total (rhead p m) 10 % 65535 = 0 := by
  have e1 := hdr_total (p := p) (s := 0) hm (by omega)
  have e2 := hdr_total (p := p) (s := right p m) hm (right_le p m)
  have e3 := sm_mod (hdr p m 0) 10
  have e4 := sm_bd (hdr_octs m 0 h0 h1) 10
  have e5 : right p m = 65535 - sm (hdr p m 0) 10 := rfl
  unfold rhead
  omega
theorem total_ext {bs cs : List Int} : ∀ {k}, (∀ j, j < 2 * k → cs.getD j 0 = bs.getD j 0) → total cs k = total bs k
  | 0, _ => rfl
  | k + 1, h => by
    have e : wd cs (2 * k) = wd bs (2 * k) := by
      unfold wd
      rw [h _ (by omega), h _ (by omega)]
    rw [total, total, e, total_ext (k := k) fun j hj => h j (by omega)]
/-- A right head, a body, and whatever behind. -/
theorem right_why {p : Int} {ds ms : List Int} {m : Nat} (h0 : 0 ≤ p) (h1 : p ≤ 255) (hm : m ≤ 60000) (hl : ds.length = m) :
    why (rhead p m ++ ds ++ ms) = 0 ∧ body (rhead p m ++ ds ++ ms) = ds ∧ (rhead p m ++ ds ++ ms).getD 9 0 = p ∧ first (rhead p m ++ ds ++ ms) = true ∧ much (rhead p m ++ ds ++ ms) = m := by
  have hg : ∀ j, j < 20 → (rhead p m ++ ds ++ ms).getD j 0 = (rhead p m).getD j 0 := fun j hj => by
    rw [List.append_assoc]
    exact getD_left (by rw [rhead_length]; exact hj)
  have hlen : (rhead p m ++ ds ++ ms).length = 20 + m + ms.length := by simp [rhead_length, hl, Nat.add_assoc]
  have g0 : (rhead p m ++ ds ++ ms).getD 0 0 = 69 := hg 0 (by omega)
  have g9 : (rhead p m ++ ds ++ ms).getD 9 0 = p := hg 9 (by omega)
  have ehd : hd (rhead p m ++ ds ++ ms) = 20 := by unfold hd; rw [g0]; rfl
  have e2 : wd (rhead p m ++ ds ++ ms) 2 = 20 + m := by
    unfold wd
    rw [hg 2 (by omega), hg 3 (by omega)]
    show ((((20 + m) / 256 % 256 : Nat) : Int)).toNat * 256 + ((((20 + m) % 256 : Nat) : Int)).toNat = _
    omega
  have e6 : wd (rhead p m ++ ds ++ ms) 6 = 0 := by
    unfold wd
    have g6 : (rhead p m).getD 6 0 = 0 := rfl
    have g7 : (rhead p m).getD (6 + 1) 0 = 0 := rfl
    rw [hg 6 (by omega), hg (6 + 1) (by omega), g6, g7]
    rfl
  have es : sm (rhead p m ++ ds ++ ms) 10 = 65535 := by
    rw [sm_ext (k := 10) (bs := rhead p m) fun j hj => hg j (by omega)]
    have := rhead_total h0 h1 hm
    exact sm_right (rhead_octs m h0 h1) this.1 this.2
  refine ⟨?_, ?_, g9, ?_, ?_⟩
  · unfold why
    rw [if_neg (by omega), if_neg (by rw [g0, ehd]; decide), if_neg (by omega), if_neg (by omega), if_neg (by rw [ehd, es]; decide)]
  · unfold body
    rw [ehd, e2, show 20 + m = (rhead p m ++ ds).length by simp [rhead_length, hl], List.take_left, List.drop_append, rhead_length]
    simp [rhead_length]
  · unfold first
    rw [e6]
    rfl
  · unfold much
    rw [ehd, e2]
    omega
theorem xor_bit : ∀ x < 256, ∀ b < 8, x ^^^ 2 ^ b = x + 2 ^ b ∨ (x ^^^ 2 ^ b) + 2 ^ b = x := by decide +kernel
end Go.Proofs.Ytebbpipokdmkkaa
