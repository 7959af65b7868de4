/- What stands behind a frame's packet, said of plain lists. Conditions: those of each theorem. -/
import Derived.Test.YtebpemknmcgamaaAwake
namespace Go.Proofs.Ytebpemknmcgamaa

theorem look_more {bs ms : List Int} {v : Bool} {a : Nat} : ∀ (k p : Nat), ether.look bs k p = (v, a, 0) → ether.look (bs ++ ms) k p = (v, a, 0)
  | 0, _, h => by simp [ether.look] at h
  | k + 1, p, h => by
    unfold ether.look at h ⊢
    by_cases hl : bs.length < p + 2
    · rw [if_pos hl] at h
      simp at h
    · rw [if_neg hl] at h
      have ht : ether.ty (bs ++ ms) p = ether.ty bs p := by
        unfold ether.ty
        rw [getD_left (by omega), getD_left (by omega)]
      rw [if_neg (by rw [List.length_append]; omega), ht]
      split
      · next h1 =>
        rw [if_pos h1] at h
        exact look_more k _ h
      · next h1 =>
        rw [if_neg h1] at h
        exact h
theorem four_more {bs ms : List Int} (h : inet.why bs = 0) : nt false (bs ++ ms) = nt false bs := by
  obtain ⟨f1, f2, f3, f4, f5, f6, f7⟩ := inet.why_fine h
  have hg : ∀ j, j < bs.length → (bs ++ ms).getD j 0 = bs.getD j 0 := fun j hj => getD_left hj
  have wx : ∀ p, p + 1 < bs.length → inet.wd (bs ++ ms) p = inet.wd bs p := fun p hp => by
    unfold inet.wd
    rw [hg _ (by omega), hg _ hp]
  have e1 : inet.hd (bs ++ ms) = inet.hd bs := by unfold inet.hd; rw [hg 0 (by omega)]
  have e2 := wx 2 (by omega)
  have e6 := wx 6 (by omega)
  have es : inet.sm (bs ++ ms) (inet.hd bs / 2) = inet.sm bs (inet.hd bs / 2) := inet.sm_ext fun j hj => hg j (by omega)
  have et : ∀ k, k ≤ bs.length → (bs ++ ms).take k = bs.take k := fun k hk => List.take_append_of_le_length hk
  have ea : ∀ p, p + 4 ≤ bs.length → inet.adr (bs ++ ms) p 4 = inet.adr bs p 4 := fun p hp => by
    unfold inet.adr
    have : ∀ l : List Int, (l.drop p).take 4 = (l.take (p + 4)).drop p := fun l => by rw [List.drop_take, Nat.add_sub_cancel_left]
    rw [this, this, et _ hp]
  have hw : inet.why (bs ++ ms) = 0 := by
    unfold inet.why
    rw [e1, e2, es, f6, hg 0 (by omega), if_neg (by simp; omega), if_neg (by omega), if_neg (by simp; omega), if_neg (by simp; omega), if_neg (by omega)]
  rw [nt_ok h, nt_ok hw]
  unfold inet.body inet.first
  rw [hg 9 (by omega), ea 12 (by omega), ea 16 (by omega), e1, e2, e6, et _ (by omega)]
theorem six_more {bs ms : List Int} (h : (six.tel bs).1 = 0) : nt true (bs ++ ms) = nt true bs := by
  have hw := six.tel_why h
  obtain ⟨f1, f2, f3⟩ := six.why_fine hw
  have hg : ∀ j, j < bs.length → (bs ++ ms).getD j 0 = bs.getD j 0 := fun j hj => getD_left hj
  have e4 : six.wd (bs ++ ms) 4 = six.wd bs 4 := by
    unfold six.wd
    rw [hg _ (by omega), hg _ (by omega)]
  have et : ∀ k, k ≤ bs.length → (bs ++ ms).take k = bs.take k := fun k hk => List.take_append_of_le_length hk
  have hw2 : six.why (bs ++ ms) = 0 := by
    unfold six.why
    rw [if_neg (by rw [List.length_append]; omega), hg 0 (by omega), if_neg (by omega), e4, if_neg (by rw [List.length_append]; omega)]
  have ea : ∀ p, p + 16 ≤ bs.length → six.adr (bs ++ ms) p 16 = six.adr bs p 16 := fun p hp => by
    unfold six.adr
    have : ∀ l : List Int, (l.drop p).take 16 = (l.take (p + 16)).drop p := fun l => by rw [List.drop_take, Nat.add_sub_cancel_left]
    rw [this, this, et _ hp]
  have ht : six.tel (bs ++ ms) = six.tel bs := by
    unfold six.tel
    rw [if_pos hw, if_pos hw2, hg 6 (by omega)]
    unfold six.behind
    rw [e4, et _ f3]
  rw [nt_six, nt_six, ht]
  unfold six.sr six.ds
  rw [ea 8 (by omega), ea 24 (by omega)]
theorem nt_behind {v : Bool} {bs ms : List Int} (h : (nt v bs).r = 0) : nt v (bs ++ ms) = nt v bs := by
  cases v
  · by_cases hw : inet.why bs = 0
    · exact four_more hw
    · rw [nt_no hw] at h
      exact absurd h hw
  · exact six_more h
/-- A frame that is fine, with more behind: the same but for its length. -/
theorem pk_more {bs ms : List Int} {P : List Value} (ho : Octs bs) (h : pk bs = (P, 0)) (hl : bs.length + ms.length ≤ 9216) :
    ∃ (v : Bool) (q : Int) (s d : List Int) (x y : Nat), P = pak bs.length v q s d x y ∧ pk (bs ++ ms) = (pak (bs.length + ms.length) v q s d x y, 0) ∧ Sixteen s ∧ Sixteen d ∧ Octs s ∧ Octs d ∧ (0 ≤ q ∧ q ≤ 255) ∧ x ≤ 65535 ∧ y ≤ 65535 := by
  obtain ⟨⟨v, a, r8⟩, hL⟩ : ∃ R, ether.look bs 3 12 = R := ⟨_, rfl⟩
  by_cases h8 : r8 = 0
  · subst h8
    obtain ⟨R, hR⟩ : ∃ R, nt v (bs.drop a) = R := ⟨_, rfl⟩
    by_cases h9 : R.r = 0
    · obtain ⟨⟨x, y, z⟩, hQ⟩ : ∃ Q, ports.look v R.q R.f R.ks = Q := ⟨_, rfl⟩
      by_cases h11 : z = 0
      · subst h11
        rw [pk_fine (by omega) hL hR h9 hQ] at h
        simp only [Prod.mk.injEq, and_true] at h
        subst h
        have ha := look_in _ _ hL
        have hR2 : nt v ((bs ++ ms).drop a) = R := by
          rw [List.drop_append_of_le_length ha, nt_behind (by rw [hR]; exact h9), hR]
        have hm := nt_more v (ho.drop a)
        have hk := nt_octs v (ho.drop a)
        have s1 := nt_src v (bs.drop a)
        have s2 := nt_dst v (bs.drop a)
        rw [hR] at hm hk s1 s2
        obtain ⟨bx, by_, _⟩ := ports.look_cases hk hQ
        refine ⟨v, R.q, R.s, R.d, x, y, rfl, ?_, s1, s2, hm.1, hm.2.1, hm.2.2, bx, by_⟩
        rw [pk_fine (by rw [List.length_append]; omega) (look_more _ _ hL) hR2 h9 hQ, List.length_append]
      · rw [pk_port (by omega) hL hR h9 hQ h11] at h
        simp only [Prod.mk.injEq] at h
        exact absurd h.2 h11
    · rw [pk_net (by omega) hL hR h9] at h
      simp only [Prod.mk.injEq] at h
      exact absurd h.2 h9
  · rw [pk_link (by omega) hL h8] at h
    simp only [Prod.mk.injEq] at h
    exact absurd h.2 h8
end Go.Proofs.Ytebpemknmcgamaa
