/- The contract of the document's Parse. Conditions: those of each theorem. -/
import Derived.Test.YtebpemknmcgamaaEtherLook
namespace Go.Proofs.Ytebpemknmcgamaa.ether
open Go.RowKit

theorem look_short {bs : List Int} {k p : Nat} (h : bs.length < p + 2) : look bs (k + 1) p = (false, 0, 1) := by
  unfold look
  rw [if_pos h]
theorem look_tag {bs : List Int} {k p : Nat} (h : ¬ bs.length < p + 2) (ht : ty bs p = 33024 ∨ ty bs p = 34984) : look bs (k + 1) p = look bs k (p + 4) := by
  rw [look, if_neg h, if_pos ht]
theorem look_ip {bs : List Int} {k p : Nat} (h : ¬ bs.length < p + 2) (hi : ty bs p = 2048 ∨ ty bs p = 34525) : look bs (k + 1) p = (decide (ty bs p = 34525), p + 2, 0) := by
  rw [look, if_neg h, if_neg (by omega), if_pos hi]
theorem look_no {bs : List Int} {k p : Nat} (h : ¬ bs.length < p + 2) (ht : ¬ (ty bs p = 33024 ∨ ty bs p = 34984)) (hi : ¬ (ty bs p = 2048 ∨ ty bs p = 34525)) : look bs (k + 1) p = (false, 0, 2) := by
  rw [look, if_neg h, if_neg ht, if_neg hi]

theorem below_drewN {B : Nat} {w w' : World} (h : Below B w w') (k : Nat) : Below B w (w'.drewN k) := ⟨h.os, h.tape, h.output, h.size, h.block⟩
set_option maxHeartbeats 2000000 in
theorem ref_any (A : Option Addr) (n c : Nat) (bs : List Int) (b : Bool) (a r : Nat) (w : World) (h : Byts w A n bs) (ho : Octs bs) (hn : n ≤ 9223372036854775807) (hl : look bs 3 12 = (b, a, r)) :
    Calls Try.prog 18 #[.slice A n c] w fun e w' => e = .returned (.tuple #[.bool b, .int .i64 (a : Nat), .int .i64 (r : Nat)]) ∧ Below w.heap.size w w' := by
  have H := Lib.hid h
  have HO := Lib.hid ho
  have HL := Lib.hid hl
  have hbn := h.1
  clear h ho hl
  go_enter Try.func18, Try.ntmps18
  go_wp2_with fail
  go_loopw [5, 6] (fun x y w' => ∃ i p : Nat, x = .int .i64 (p : Nat) ∧ y = .int .i64 i ∧ i ≤ 2 ∧ p = 12 + 4 * i ∧ look bs (3 - i) p = (b, a, r) ∧ ∃ m, w' = w.drewN m) (fun _ y _ => 3 - (intOf y).toNat)
  case atStart => exact ⟨0, 12, rfl, rfl, by omega, rfl, HL.out, 0, rfl⟩
  case round =>
    obtain ⟨i, p, rfl, rfl, hi, hp, hk, m, rfl⟩ := hrel
    have HK : Hid (look bs (2 - i + 1) p = (b, a, r)) := by
      rw [show 2 - i + 1 = 3 - i by omega]
      exact hk
    have hbel : Hid (∀ m, Below w.heap.size w (w.drewN m)) := fun m => below_drewN (Below.refl _ _) m
    have HP := Lib.hid hp
    have hp20 : p ≤ 20 := by omega
    clear hk hp
    by_cases hs : n < p + 2
    · have hd : decide ((n : Int) < (p : Int) + 2) = true := by simp; omega
      have e := (look_short (by omega)).symm.trans HK.out
      obtain ⟨rfl, rfl, rfl⟩ : false = b ∧ 0 = a ∧ 1 = r := by simpa using e
      go_wp2
      exact bodyPost_ret (v := .tuple #[.bool false, .int .i64 0, .int .i64 1]) (by simp [results, Try.results18, go_sem]) rfl ⟨rfl, hbel.out _⟩
    · have hd : decide ((n : Int) < (p : Int) + 2) = false := by simp; omega
      have HT := Lib.hid (two_any A n c bs p p (w.drewN m) rfl (H.out.below (below_drewN (Below.refl _ _) m)) HO.out (by omega) hn)
      obtain ⟨t, ht⟩ : ∃ t, ty bs p = t := ⟨_, rfl⟩
      rw [ht] at HT
      by_cases hg : t = 33024 ∨ t = 34984
      · have e := (look_tag (by omega) (by rw [ht]; exact hg)).symm.trans HK.out
        have HE := Lib.hid e
        clear e HK ht
        by_cases h2 : i = 2
        · have hd2 : ((i : Int) == 2) = true := by simp; omega
          have e : look bs 0 (p + 4) = (b, a, r) := by rw [← HE.out, h2]
          obtain ⟨rfl, rfl, rfl⟩ : false = b ∧ 0 = a ∧ 6 = r := by simpa [look] using e
          clear e
          rcases hg with rfl | rfl
          all_goals
            go_wp2_with (go_at_call 35; (with_reducible refine HT.out.mono ?_); rintro e w1 ⟨rfl, rfl⟩)
            exact bodyPost_ret (v := .tuple #[.bool false, .int .i64 0, .int .i64 6]) (by simp [results, Try.results18, go_sem]) rfl ⟨rfl, (hbel.out _).drew⟩
        · have hd2 : ((i : Int) == 2) = false := by simp; omega
          rcases hg with rfl | rfl
          all_goals
            go_wp2_with (go_at_call 35; (with_reducible refine HT.out.mono ?_); rintro e w1 ⟨rfl, rfl⟩)
            go_roundw
            case rel =>
              refine ⟨i + 1, p + 4, by go_num, by go_num, by omega, by have := HP.out; omega, ?_, m + 1, rfl⟩
              rw [← HE.out]
              congr 1
              omega
            case measure => simp [intOf]; omega
      · by_cases hj : t = 2048 ∨ t = 34525
        · have e := (look_ip (by omega) (by rw [ht]; exact hj)).symm.trans HK.out
          rw [ht] at e
          simp only [Prod.mk.injEq] at e
          obtain ⟨rfl, rfl, rfl⟩ := e
          clear ht hg HK
          rcases hj with rfl | rfl
          all_goals
            go_wp2_with (go_at_call 35; (with_reducible refine HT.out.mono ?_); rintro e w1 ⟨rfl, rfl⟩)
            exact bodyPost_ret (v := .tuple #[.bool _, .int .i64 ((p + 2 : Nat) : Int), .int .i64 0]) (by simp [results, Try.results18, go_sem]) rfl ⟨rfl, (hbel.out _).drew⟩
        · have e := (look_no (by omega) (by rw [ht]; exact hg) (by rw [ht]; exact hj)).symm.trans HK.out
          obtain ⟨rfl, rfl, rfl⟩ : false = b ∧ 0 = a ∧ 2 = r := by simpa using e
          have h1 : (t != 33024) = true := by simp; omega
          have h2 : (t != 34984) = true := by simp; omega
          have h3 : (t != 2048) = true := by simp; omega
          have h4 : (t != 34525) = true := by simp; omega
          clear ht hg hj HK e
          go_wp2_with (go_at_call 35; (with_reducible refine HT.out.mono ?_); rintro e w1 ⟨rfl, rfl⟩)
          exact bodyPost_ret (v := .tuple #[.bool false, .int .i64 0, .int .i64 2]) (by simp [results, Try.results18, go_sem]) rfl ⟨rfl, (hbel.out _).drew⟩
end Go.Proofs.Ytebpemknmcgamaa.ether
