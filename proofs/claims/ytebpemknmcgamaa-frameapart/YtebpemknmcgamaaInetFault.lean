/- The contracts of inet's sum and fault. Conditions: those of each theorem. -/
import Derived.Test.YtebpemknmcgamaaInetCalls
namespace Go.Proofs.Ytebpemknmcgamaa.inet
open Go.RowKit

theorem wd_drop (bs : List Int) (p q : Nat) : wd (bs.drop p) q = wd bs (p + q) := by
  unfold wd
  simp [List.getD_eq_getElem?_getD, List.getElem?_drop, Nat.add_assoc]
theorem carry_split (x : Nat) (h : x ≤ 131070) : x / 65536 + x % 65536 = carry x := by
  unfold carry
  split <;> omega
theorem sm_ext {bs cs : List Int} : ∀ {k}, (∀ j, j < 2 * k → cs.getD j 0 = bs.getD j 0) → sm cs k = sm bs k
  | 0, _ => rfl
  | k + 1, h => by
    have e : wd cs (2 * k) = wd bs (2 * k) := by
      unfold wd
      rw [h _ (by omega), h _ (by omega)]
    rw [sm, sm, e, sm_ext (k := k) fun j hj => h j (by omega)]
theorem getD_take {bs : List Int} {x j : Nat} (h : j < x) : (bs.take x).getD j 0 = bs.getD j 0 := by
  rw [List.getD_eq_getElem?_getD, List.getD_eq_getElem?_getD, List.getElem?_take_of_lt h]
theorem getD_left {bs cs : List Int} {j : Nat} (h : j < bs.length) : (bs ++ cs).getD j 0 = bs.getD j 0 := by
  rw [List.getD_eq_getElem?_getD, List.getD_eq_getElem?_getD, List.getElem?_append_left h]
theorem sm_take {bs : List Int} {x k : Nat} (h : 2 * k ≤ x) : sm (bs.take x) k = sm bs k := sm_ext fun j hj => getD_take (by omega)
/-- What stands from p on, as a slice of its own. -/
theorem from_z {A : Option Addr} {n c p : Nat} {bs : List Int} (hp : p ≤ n) (hc : n ≤ c) : ∃ Z, (∀ W, (Instr.slice 22 (.slice A n c) (some (.int .i64 p)) none none).run Try.prog W = .ok (.slice Z (n - p) (c - p)) W) ∧
    ∀ w, Byts w A n bs → Byts w Z (n - p) (bs.drop p) :=
  ⟨_, fun W => run_from W hp, fun _ h => h.from_ hp hc⟩

set_option maxHeartbeats 1000000 in
theorem sum_any (A : Option Addr) (n c k : Nat) (bs : List Int) (w : World) (h : Byts w A n bs) (ho : Octs bs) (hn : n = 2 * k) (hm : n ≤ 1000000) (hc : n ≤ c) :
    Calls Try.prog 57 #[.slice A n c] w fun e w' => e = .returned (.int .i64 ((sm bs k : Nat) : Int)) ∧ ∃ m, w' = w.drewN m := by
  have H := Lib.hid h
  have HO := Lib.hid ho
  have HN := Lib.hid hn
  clear h ho hn
  go_enter Try.func57, Try.ntmps57
  go_wp2_with fail
  go_loopw [3, 4] (fun x y w' => ∃ i p s : Nat, x = .int .i64 (s : Nat) ∧ y = .int .i64 (p : Nat) ∧ p = 2 * i ∧ i ≤ k ∧ s = sm bs i ∧ ∃ m, w' = w.drewN m) (fun _ y _ => n - (intOf y).toNat)
  case atStart => exact ⟨0, 0, 0, rfl, rfl, rfl, Nat.zero_le _, rfl, 0, rfl⟩
  case round =>
    obtain ⟨i, p, s, rfl, rfl, hp, hi, hs, m, rfl⟩ := hrel
    have HP := Lib.hid hp
    have HS := Lib.hid hs
    have hsb : s ≤ 65535 := by rw [hs]; exact sm_bd HO.out i
    have hpn : p ≤ n := by have := HN.out; omega
    clear hp hs
    by_cases hlt : i < k
    · have hlt2 : p + 2 ≤ n := by have := HN.out; have := HP.out; omega
      obtain ⟨Z, hcut, hz⟩ := from_z (A := A) (bs := bs) hpn hc
      have HT := Lib.hid (number_any Z (n - p) (c - p) (bs.drop p) (w.drewN m) (hz _ (H.out.below (below_drewN (Below.refl _ _) m))) (HO.out.drop p) (by omega) (by omega))
      rw [wd_drop] at HT
      have hwb := wd_bd HO.out p
      have HE : Hid (carry (s + wd bs p) = sm bs (i + 1)) := by rw [HS.out, HP.out]; exact (rfl : _ = _)
      clear hz
      rw [Nat.add_zero] at HT
      generalize wd bs p = t at *
      have HC := Lib.hid ((carry_split (s + t) (by omega)).trans HE.out)
      have hal := and_low (s + t) (by omega)
      have hal2 : bits .and .i64 ((s : Int) + (t : Int)) 65535 = (((s + t) % 65536 : Nat) : Int) := hal
      go_wp2_with (go_at_call 51; (with_reducible refine HT.out.mono ?_); rintro e w1 ⟨rfl, rfl⟩)
      go_roundw
      case rel => exact ⟨i + 1, p + 2, (s + t) / 65536 + (s + t) % 65536, by go_num, by go_num, by have := HP.out; omega, by omega, HC.out, m + 1, rfl⟩
      case measure => simp [intOf]; omega
    · have hge : n ≤ p := by have := HN.out; have := HP.out; omega
      obtain rfl : i = k := by omega
      go_wp2
      go_ret
      exact ⟨ret_int (by rw [HS.out]), m, rfl⟩

set_option maxHeartbeats 1000000 in
theorem fault_any (A : Option Addr) (n c r : Nat) (bs : List Int) (w : World) (h : Byts w A n bs) (ho : Octs bs) (hm : n ≤ 9223372036854775807) (hc : n ≤ c) (hr : why bs = r) :
    Calls Try.prog 48 #[.slice A n c] w fun e w' => e = .returned (.int .i64 ((r : Nat) : Int)) ∧ ∃ m, w' = w.drewN m := by
  have hbn := h.1
  have H := Lib.hid h
  have HO := Lib.hid ho
  have b0 := ho.at_ 0
  unfold why at hr
  rw [hbn] at hr
  clear h ho
  by_cases h20 : n < 20
  · rw [if_pos h20] at hr
    subst hr
    go_enter Try.func48, Try.ntmps48
    go_wp2
    go_ret
    exact ⟨rfl, 0, rfl⟩
  · rw [if_neg h20] at hr
    obtain ⟨ad, rfl, hcell⟩ := H.out.2 (by omega)
    have hc0 : w.cell? ad = some (.int .u8 (bs.getD 0 0)) := by simpa [Addr.add] using hcell 0 (by omega)
    have HD := Lib.hid (headBytes_any (some ad) n c bs w H.out HO.out (by omega) hm)
    have hdb : hd bs ≤ 60 := by unfold hd; omega
    have HDE : Hid (hd bs = (bs.getD 0 0).toNat % 16 * 4) := (rfl : _ = _)
    clear hcell
    by_cases h4 : (bs.getD 0 0).toNat / 16 ≠ 4 ∨ hd bs < 20
    · rw [if_pos h4] at hr
      subst hr
      generalize hd bs = k at *
      have hh : bs.getD 0 0 / 16 = ((bs.getD 0 0).toNat / 16 : Nat) := by omega
      generalize (bs.getD 0 0).toNat / 16 = v at *
      clear HDE
      generalize bs.getD 0 0 = u at *
      by_cases hv : v = 4
      · have hk : k < 20 := by omega
        have hh4 : u / 16 = 4 := by omega
        go_enter Try.func48, Try.ntmps48
        go_wp2_with (go_at_call 50; (with_reducible refine HD.out.mono ?_); rintro e w1 ⟨rfl, rfl⟩)
        go_ret
        exact ⟨rfl, 0, rfl⟩
      · have hne : ((v : Int) != 4) = true := by simp; omega
        go_enter Try.func48, Try.ntmps48
        go_wp2_with (go_at_call 50; (with_reducible refine HD.out.mono ?_); rintro e w1 ⟨rfl, rfl⟩)
        go_ret
        exact ⟨rfl, 0, rfl⟩
    · rw [if_neg h4] at hr
      have hh : bs.getD 0 0 / 16 = 4 := by omega
      have hk20 : 20 ≤ hd bs := by omega
      obtain ⟨Z, hcut, hz⟩ := from_z (A := some ad) (bs := bs) (show 2 ≤ n by omega) hc
      have hcut2 : ∀ W, (Instr.slice 22 (.slice (some ad) n c) (some (.int .i64 2)) none none).run Try.prog W = .ok (.slice Z (n - 2) (c - 2)) W := hcut
      have HT := Lib.hid (number_any Z (n - 2) (c - 2) (bs.drop 2) w (hz _ H.out) (HO.out.drop 2) (by omega) (by omega))
      rw [wd_drop, Nat.add_zero] at HT
      have hwb := wd_bd HO.out 2
      clear hcut hz h4
      by_cases hl : n < hd bs
      · rw [if_pos hl] at hr
        subst hr
        clear HDE
        generalize hd bs = k at *
        generalize bs.getD 0 0 = u at *
        go_enter Try.func48, Try.ntmps48
        go_wp2_with (go_at_call 50; (with_reducible refine HD.out.mono ?_); rintro e w1 ⟨rfl, rfl⟩)
        go_ret
        exact ⟨rfl, 0, rfl⟩
      · rw [if_neg hl] at hr
        by_cases h5 : wd bs 2 < hd bs ∨ n < wd bs 2
        · rw [if_pos h5] at hr
          subst hr
          clear HDE
          generalize hd bs = k at *
          generalize bs.getD 0 0 = u at *
          generalize wd bs 2 = a at *
          by_cases h6 : a < k
          · go_enter Try.func48, Try.ntmps48
            go_wp2_with (first | (go_at_call 50; (with_reducible refine HD.out.mono ?_); rintro e w1 ⟨rfl, rfl⟩) | (go_at_call 51; (with_reducible refine HT.out.mono ?_); rintro e w1 ⟨rfl, rfl⟩))
            go_ret
            exact ⟨rfl, 1, rfl⟩
          · have h7 : n < a := by omega
            go_enter Try.func48, Try.ntmps48
            go_wp2_with (first | (go_at_call 50; (with_reducible refine HD.out.mono ?_); rintro e w1 ⟨rfl, rfl⟩) | (go_at_call 51; (with_reducible refine HT.out.mono ?_); rintro e w1 ⟨rfl, rfl⟩))
            go_ret
            exact ⟨rfl, 1, rfl⟩
        · rw [if_neg h5] at hr
          have hcut3 := fun W => run_upto (A := some ad) (n := n) (c := c) (k := hd bs) W (by omega)
          have HS := Lib.hid (sum_any (some ad) (hd bs) c (hd bs / 2) (bs.take (hd bs)) w.drew ((H.out.below (below_drewN (Below.refl _ _) 1)).upto (by omega)) (HO.out.take _) (by rw [HDE.out]; omega) (by omega) (by omega))
          have e : sm (bs.take (hd bs)) (hd bs / 2) = sm bs (hd bs / 2) := sm_take (by rw [HDE.out]; omega)
          rw [e] at HS
          have hsb := sm_bd HO.out (hd bs / 2)
          clear HDE e
          generalize sm bs (hd bs / 2) = s at *
          generalize hd bs = k at *
          generalize bs.getD 0 0 = u at *
          generalize wd bs 2 = a at *
          by_cases h6 : s ≠ 65535
          · rw [if_pos h6] at hr
            subst hr
            have hne : ((s : Int) != 65535) = true := by simp; omega
            go_enter Try.func48, Try.ntmps48
            go_wp2_with (first | (go_at_call 50; (with_reducible refine HD.out.mono ?_); rintro e w1 ⟨rfl, rfl⟩) | (go_at_call 51; (with_reducible refine HT.out.mono ?_); rintro e w1 ⟨rfl, rfl⟩) | (go_at_call 57; (with_reducible refine HS.out.mono ?_); rintro e w1 ⟨rfl, m, rfl⟩))
            go_ret
            exact ⟨rfl, 1 + m, by simp [World.drewN]⟩
          · rw [if_neg h6] at hr
            subst hr
            have hne : ((s : Int) != 65535) = false := by simp; omega
            go_enter Try.func48, Try.ntmps48
            go_wp2_with (first | (go_at_call 50; (with_reducible refine HD.out.mono ?_); rintro e w1 ⟨rfl, rfl⟩) | (go_at_call 51; (with_reducible refine HT.out.mono ?_); rintro e w1 ⟨rfl, rfl⟩) | (go_at_call 57; (with_reducible refine HS.out.mono ?_); rintro e w1 ⟨rfl, m, rfl⟩))
            go_ret
            exact ⟨rfl, 1 + m, by simp [World.drewN]⟩
end Go.Proofs.Ytebpemknmcgamaa.inet
