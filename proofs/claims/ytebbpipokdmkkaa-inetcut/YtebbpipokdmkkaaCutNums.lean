/- What a packet tells when it is cut, or has other bytes behind its end. Conditions: those of each theorem. -/
import Derived.Test.YtebbpipokdmkkaaAwake
namespace Go.Proofs.Ytebbpipokdmkkaa
open Go.RowKit

theorem wd_ext {bs cs : List Int} {p : Nat} (h0 : cs.getD p 0 = bs.getD p 0) (h1 : cs.getD (p + 1) 0 = bs.getD (p + 1) 0) : wd cs p = wd bs p := by
  unfold wd
  rw [h0, h1]
theorem hd_ext {bs cs : List Int} (h : cs.getD 0 0 = bs.getD 0 0) : hd cs = hd bs := by
  unfold hd
  rw [h]
/-- Cut ahead of its end it is refused. -/
theorem cut_short {bs : List Int} {x : Nat} (h : why bs = 0) (hx : x < wd bs 2) : why (bs.take x) = 1 ∨ why (bs.take x) = 5 := by
  obtain ⟨f1, f2, f3, f4, f5, f6, f7⟩ := why_fine h
  have hl : (bs.take x).length = x := by simp; omega
  unfold why
  rw [hl]
  by_cases h20 : x < 20
  · exact .inl (if_pos h20)
  · have e0 : (bs.take x).getD 0 0 = bs.getD 0 0 := getD_take (by omega)
    have e1 : hd (bs.take x) = hd bs := hd_ext e0
    have e2 : wd (bs.take x) 2 = wd bs 2 := wd_ext (getD_take (by omega)) (getD_take (by omega))
    rw [if_neg h20, e0, e1, e2, if_neg (by omega)]
    by_cases hh : x < hd bs
    · exact .inl (if_pos hh)
    · rw [if_neg hh]
      exact .inr (if_pos (by omega))
/-- Other bytes behind its end. -/
theorem cut_more {bs ms : List Int} (h : why bs = 0) :
    why (bs.take (wd bs 2) ++ ms) = 0 ∧ (∀ B, toldV (bs.take (wd bs 2) ++ ms) B = toldV bs B) ∧ body (bs.take (wd bs 2) ++ ms) = body bs ∧ much (bs.take (wd bs 2) ++ ms) = much bs := by
  obtain ⟨f1, f2, f3, f4, f5, f6, f7⟩ := why_fine h
  have hl : (bs.take (wd bs 2)).length = wd bs 2 := by simp; omega
  have hg : ∀ j, j < wd bs 2 → (bs.take (wd bs 2) ++ ms).getD j 0 = bs.getD j 0 := fun j hj => by rw [getD_left (by omega), getD_take hj]
  have e1 : hd (bs.take (wd bs 2) ++ ms) = hd bs := hd_ext (hg 0 (by omega))
  have e2 : wd (bs.take (wd bs 2) ++ ms) 2 = wd bs 2 := wd_ext (hg _ (by omega)) (hg _ (by omega))
  have e6 : wd (bs.take (wd bs 2) ++ ms) 6 = wd bs 6 := wd_ext (hg _ (by omega)) (hg _ (by omega))
  have es : sm (bs.take (wd bs 2) ++ ms) (hd bs / 2) = sm bs (hd bs / 2) := sm_ext fun j hj => hg j (by omega)
  have et : ∀ k, k ≤ wd bs 2 → (bs.take (wd bs 2) ++ ms).take k = bs.take k := fun k hk => by
    rw [List.take_append_of_le_length (by omega), List.take_take, Nat.min_eq_left hk]
  have ea : ∀ p, p + 4 ≤ wd bs 2 → adr (bs.take (wd bs 2) ++ ms) p 4 = adr bs p 4 := fun p hp => by
    unfold adr
    have : ∀ l : List Int, (l.drop p).take 4 = (l.take (p + 4)).drop p := fun l => by rw [List.drop_take, Nat.add_sub_cancel_left]
    rw [this, this, et _ hp]
  refine ⟨?_, fun B => ?_, ?_, ?_⟩
  · unfold why
    rw [e1, e2, es, f6, hg 0 (by omega), if_neg (by simp; omega), if_neg (by omega), if_neg (by simp; omega), if_neg (by simp; omega), if_neg (by omega)]
  · unfold toldV first
    rw [hg 9 (by omega), ea 12 (by omega), ea 16 (by omega), e6]
  · unfold body
    rw [e1, e2, et _ (Nat.le_refl _)]
  · unfold much
    rw [e1, e2]
/-- Parse of one that tells the same as another. -/
theorem parse_as (A : Option Addr) (n c : Nat) (bs cs : List Int) (w : World) (h : Byts w A n cs) (ho : Octs cs) (hm : n ≤ 9223372036854775807) (hc : n ≤ c) (hr : why cs = 0) (ht : ∀ B, toldV cs B = toldV bs B) (hb : body cs = body bs) (hu : much cs = much bs) :
    Calls Try.prog 8 #[.slice A n c] w fun e w' => ∃ g, e = .returned (.tuple #[.agg (toldV bs (.slice (some ⟨g, 0, none⟩) (much bs) (much bs))).toArray, .int .i64 0]) ∧ Below w.heap.size w w' ∧ w.heap.size ≤ g ∧ Blk w' g 5 (cel (body bs)) := by
  have := parse_ok A n c cs w h ho hm hc hr
  simp only [ht, hb, hu] at this
  exact this
theorem body_length {bs : List Int} (h : why bs = 0) : (body bs).length = much bs := by
  obtain ⟨f1, f2, f3, f4, f5, f6, f7⟩ := why_fine h
  unfold body much
  simp
  omega
end Go.Proofs.Ytebbpipokdmkkaa
