/- What EtherTags' walk wants: tags behind the addresses, said of plain lists. Conditions: those of each theorem. -/
import Derived.Test.YtmnakdmmkkombaaShortWalk
namespace Go.Proofs.Ytmnakdmmkkombaa
open Go.RowKit

/-- A tag's four bytes. -/
def tagB (o : Bool) (x : Nat) : List Int := [if o then 136 else 129, if o then 168 else 0, ((x / 256 : Nat) : Int), ((x % 256 : Nat) : Int)]
/-- The first k tags. -/
def tagsB (O : Nat → Bool) (X : Nat → Nat) : Nat → List Int
  | 0 => []
  | k + 1 => tagsB O X k ++ tagB (O k) (X k)
theorem tagB_len (o : Bool) (x : Nat) : (tagB o x).length = 4 := rfl
theorem tagsB_len (O : Nat → Bool) (X : Nat → Nat) : ∀ k, (tagsB O X k).length = 4 * k
  | 0 => rfl
  | k + 1 => by rw [tagsB, List.length_append, tagsB_len O X k, tagB_len]; omega
theorem tagB_octs (o : Bool) {x : Nat} (h : x ≤ 65535) : Octs (tagB o x) := fun z hz => by
  have h1 : x / 256 ≤ 255 := by omega
  have h2 : x % 256 ≤ 255 := by omega
  simp only [tagB, List.mem_cons, List.not_mem_nil, or_false] at hz
  rcases hz with rfl | rfl | rfl | rfl
  · cases o <;> decide
  · cases o <;> decide
  · omega
  · omega
theorem tagsB_octs (O : Nat → Bool) (X : Nat → Nat) (h : ∀ k, X k ≤ 65535) : ∀ k, Octs (tagsB O X k)
  | 0 => Octs.nil
  | k + 1 => (tagsB_octs O X h k).app (tagB_octs _ (h k))
theorem tagsB_at (O : Nat → Bool) (X : Nat → Nat) (j : Nat) (hj : j < 4) : ∀ n k, k < n → (tagsB O X n).getD (4 * k + j) 0 = (tagB (O k) (X k)).getD j 0
  | 0, _, h => absurd h (by omega)
  | n + 1, k, h => by
    rw [tagsB]
    by_cases hk : k < n
    · rw [getD_left (by rw [tagsB_len]; omega)]
      exact tagsB_at O X j hj n k hk
    · obtain rfl : k = n := by omega
      rw [List.getD_eq_getElem?_getD, List.getElem?_append_right (by rw [tagsB_len]; omega), tagsB_len, show 4 * k + j - 4 * k = j by omega, ← List.getD_eq_getElem?_getD]

/-- A frame whose type stands right behind the addresses. -/
theorem look_plain {bs : List Int} {b : Bool} (h : look bs 3 12 = (b, 14, 0)) : (ty bs 12 = 2048 ∨ ty bs 12 = 34525) ∧ decide (ty bs 12 = 34525) = b ∧ 14 ≤ bs.length := by
  by_cases hs : bs.length < 12 + 2
  · rw [look_short hs] at h
    simp at h
  · by_cases ht : ty bs 12 = 33024 ∨ ty bs 12 = 34984
    · rw [look_tag hs ht] at h
      have := (look_cut 2 (12 + 4) h).1
      omega
    · by_cases hi : ty bs 12 = 2048 ∨ ty bs 12 = 34525
      · rw [look_ip hs hi] at h
        simp only [Prod.mk.injEq] at h
        exact ⟨hi, h.1, by omega⟩
      · rw [look_no hs ht hi] at h
        simp at h
/-- The same frame with n tags. -/
def tagged (O : Nat → Bool) (X : Nat → Nat) (bs : List Int) (n : Nat) : List Int := bs.take 12 ++ tagsB O X n ++ bs.drop 12
section
variable (O : Nat → Bool) (X : Nat → Nat) {bs : List Int} (hb : 14 ≤ bs.length)
include hb
theorem tagged_len (n : Nat) : (tagged O X bs n).length = bs.length + 4 * n := by
  unfold tagged
  rw [List.length_append, List.length_append, tagsB_len, List.length_take, List.length_drop]
  omega
theorem tagged_tag (n k j : Nat) (hk : k < n) (hj : j < 4) : (tagged O X bs n).getD (12 + 4 * k + j) 0 = (tagB (O k) (X k)).getD j 0 := by
  unfold tagged
  have hl : (bs.take 12).length = 12 := by rw [List.length_take]; omega
  rw [getD_left (by rw [List.length_append, tagsB_len, hl]; omega), ← tagsB_at O X j hj n k hk, List.getD_eq_getElem?_getD, List.getElem?_append_right (by omega), hl, show 12 + 4 * k + j - 12 = 4 * k + j by omega, ← List.getD_eq_getElem?_getD]
theorem tagged_rest (n j : Nat) : (tagged O X bs n).getD (12 + 4 * n + j) 0 = bs.getD (12 + j) 0 := by
  unfold tagged
  have hl : (bs.take 12 ++ tagsB O X n).length = 12 + 4 * n := by rw [List.length_append, tagsB_len, List.length_take]; omega
  rw [List.getD_eq_getElem?_getD, List.getElem?_append_right (by omega), hl, List.getElem?_drop, show 12 + (12 + 4 * n + j - (12 + 4 * n)) = 12 + j by omega, ← List.getD_eq_getElem?_getD]
theorem look_step (n k q : Nat) (hk : k < n) : look (tagged O X bs n) (q + 1) (12 + 4 * k) = look (tagged O X bs n) q (12 + 4 * (k + 1)) := by
  have h0 := tagged_tag O X hb n k 0 hk (by omega)
  have h1 := tagged_tag O X hb n k 1 hk (by omega)
  rw [look_tag (by rw [tagged_len O X hb]; omega) (by
    unfold ty
    rw [Nat.add_zero] at h0
    rw [h0, h1]
    simp only [tagB]
    cases O k
    · exact .inl (by simp)
    · exact .inr (by simp))]
  congr 1
theorem look_tagged {b : Bool} (h : look bs 3 12 = (b, 14, 0)) (n : Nat) (hn : n < 3) : look (tagged O X bs n) 3 12 = (b, 14 + 4 * n, 0) := by
  obtain ⟨hi, hv, _⟩ := look_plain h
  have e : ∀ m, m = n → look (tagged O X bs n) 3 12 = look (tagged O X bs n) (3 - m) (12 + 4 * m) := by
    intro m hm
    rcases (by omega : m = 0 ∨ m = 1 ∨ m = 2) with rfl | rfl | rfl
    · rfl
    · exact look_step O X hb n 0 2 (by omega)
    · exact (look_step O X hb n 0 2 (by omega)).trans (look_step O X hb n 1 1 (by omega))
  have et : ty (tagged O X bs n) (12 + 4 * n) = ty bs 12 := by
    have h0 := tagged_rest O X hb n 0
    have h1 := tagged_rest O X hb n 1
    rw [Nat.add_zero, Nat.add_zero] at h0
    unfold ty
    rw [h0, h1]
  rw [e n rfl, show 3 - n = (2 - n) + 1 by omega, look_ip (by rw [tagged_len O X hb]; omega) (by rw [et]; exact hi), et, hv, show 12 + 4 * n + 2 = 14 + 4 * n by omega]
theorem look_many : look (tagged O X bs 3) 3 12 = (false, 0, 6) :=
  (look_step O X hb 3 0 2 (by omega)).trans ((look_step O X hb 3 1 1 (by omega)).trans (look_step O X hb 3 2 0 (by omega)))
end
theorem tagged_octs (O : Nat → Bool) (X : Nat → Nat) {bs : List Int} (h : ∀ k, X k ≤ 65535) (ho : Octs bs) (n : Nat) : Octs (tagged O X bs n) := ((ho.take 12).app (tagsB_octs O X h n)).app (ho.drop 12)
end Go.Proofs.Ytmnakdmmkkombaa
