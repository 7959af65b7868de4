/- The walk of the law TokenFull: for any rate, burst and askings it returns true and turns nothing that was there. -/
import Derived.Test.YtbmapegfodomaaaNoneWalk
namespace Go.Proofs.Ytbmapegfodomaaa
open Go.RowKit

/-- So late all is there again, if any come. -/
theorem lev_full {r B L m : Int} (h : Ok r B L m) (hm : m ≤ 1125899906842624) (hr : 1 ≤ r) : lev r B L m 2305843009213693952 = B := by
  obtain ⟨_, h0, h1, h2, h3, h4, _⟩ := h
  have e : 1 * (2305843009213693952 - m) ≤ r * (2305843009213693952 - m) := Int.mul_le_mul_of_nonneg_right hr (by omega)
  have c1 : cnt r = r := cnt_id (by omega) (by omega)
  have c2 : cnt (2305843009213693952 - m) = 2305843009213693952 - m := cnt_id (by omega) (by omega)
  rw [lev_new (by omega)]
  unfold mulC
  rw [c1, c2]
  generalize r * (2305843009213693952 - m) = p at *
  unfold addC
  (repeat' split) <;> omega

set_option maxRecDepth 100000 in
set_option maxHeartbeats 4000000 in
theorem full_near (x0 y0 : Int) (A : Option Addr) (n c : Nat) (X Y : Nat → Int) (w : World) (hn : n ≤ 60) (hx0 : 0 ≤ x0) (hx1 : x0 ≤ 4294967295) (hy0 : 0 ≤ y0) (hy1 : y0 ≤ 4294967295) (ha : ActsIn w A n X Y) :
    Calls Try.prog 5 #[.int .u32 x0, .int .u32 y0, .slice A n c] w fun e w' => e = .returned (.bool true) ∧ Below w.heap.size w w' := by
  have HA := Lib.hid ha
  clear ha
  have hd : decide ((60 : Int) < (n : Int)) = false := by simp; omega
  obtain ⟨r, hr⟩ : ∃ r, x0 % 1073741824 = r := ⟨_, rfl⟩
  obtain ⟨b, hb⟩ : ∃ b, 1 + y0 % 1073741824 = b := ⟨_, rfl⟩
  have hr0 : 0 ≤ r := by omega
  have hr1 : r ≤ 1073741824 := by omega
  have hb0 : 1 ≤ b := by omega
  have hb1 : b ≤ 1073741824 := by omega
  go_enter Try.func5, Try.ntmps5
  go_upto_region 4 with (go_at_call 7; (with_reducible refine (awake_any _).mono ?_); rintro e w1 ⟨rfl, hb1⟩; have W1 := Lib.hid hb1; clear hb1)
  try simp only [hb]
  try simp only [hr]
  clear hb hr hx0 hx1 hy0 hy1
  go_wp2_with (go_at_call 8; (with_reducible refine (new_ r b _ hr0 hr1 hb0 hb1).mono ?_); rintro e w2 ⟨g, rfl, hr, a1, hb2⟩; have R2 : Hid (TokRel w g r (b * 1048576) (b * 1048576) 0 w2) := ⟨hr, W1.out.trans (hb2.mono W1.out.size)⟩; have hsz1 := W1.out.size; have a1' : w.heap.size ≤ g := (by omega); clear hr hb2 W1 hsz1 a1)
  go_loopw [11, 36] (fun _ i w' => ∃ (k : Nat) (L m : Int), k ≤ n ∧ i = .int .i64 k ∧ m ≤ 1125899906842624 ∧ TokRel w g r (b * 1048576) L m w') (fun _ i _ => n - (intOf i).toNat)
  case atStart => exact ⟨0, _, 0, by omega, rfl, by omega, R2.out⟩
  case round =>
    clear R2
    obtain ⟨k, L, m, hk, rfl, hm, hr⟩ := hrel
    have R4 := Lib.hid hr
    clear hr
    by_cases hlt : k < n
    · obtain ⟨a, rfl, hca0, hcb0, hx0, hx1, hy0, hy1⟩ := HA.out k hlt
      have AA : Hid (AskAt a k (X k) (Y k) w) := ⟨hca0, by rw [addr_one] at hcb0; exact hcb0⟩
      clear hca0 hcb0 HA
      generalize X k = x at *
      generalize Y k = y at *
      have hcx := (AA.out.below R4.out.be).now
      by_cases hq : x < 1125899906842624
      · go_wp2_with fail
        clear hcx
        refine wp_region_held_drew (S := fun W => AskAt a k x y W) (by kernel_rfl) ?_ (fun _ => ?_)
        · exact AA.out.below R4.out.drew.be
        have HS0 : Hid (AskAt a k x y wr.drew) := AA.out.below R4.out.drew.be
        have RD := Lib.hid R4.out.drew
        clear R4
        generalize wr.drew = z at *
        refine wpAnyH_take (i := 0) (oi := ⟨some 45, _, _, _, _, _⟩) (v := ?_) rfl (by kernel_rfl) (by kernel_rfl) (by kernel_rfl) (fun _ _ _ h => h) (Or.inl ⟨by rfl, ?_⟩) HS0.out ?_
        rotate_left
        · (intro W hSW; clear hSW; go_simp)
          first | done | (with_reducible rfl)
        try simp only [Act.put, List.setIfInBounds_toArray, List.set_cons_zero, List.set_cons_succ]
        refine wpAnyH_take (i := 1) (oi := ⟨some 46, _, _, _, _, _⟩) (v := ?_) rfl (by kernel_rfl) (by kernel_rfl) (by kernel_rfl) (fun _ _ _ h => h) (Or.inl ⟨by rfl, ?_⟩) HS0.out ?_
        rotate_left
        · (intro W hSW; clear hSW; go_simp)
          first | done | (with_reducible rfl)
        try simp only [Act.put, List.setIfInBounds_toArray, List.set_cons_zero, List.set_cons_succ]
        refine wpAnyH_take (i := 2) (oi := ⟨some 47, _, _, _, _, _⟩) (v := ?_) rfl (by kernel_rfl) (by kernel_rfl) (by kernel_rfl) (fun _ _ _ h => h) (Or.inl ⟨by rfl, ?_⟩) HS0.out ?_
        rotate_left
        · (intro W hSW; clear hSW; go_simp)
          first | done | (with_reducible rfl)
        try simp only [Act.put, List.setIfInBounds_toArray, List.set_cons_zero, List.set_cons_succ]
        refine wpAnyH_take (i := 3) (oi := ⟨some 48, _, _, _, _, _⟩) (v := ?_) rfl (by kernel_rfl) (by kernel_rfl) (by kernel_rfl) (fun _ _ _ h => h) (Or.inl ⟨by rfl, ?_⟩) HS0.out ?_
        rotate_left
        · (intro W hSW; clear hSW; go_simp)
          first | done | (with_reducible rfl)
        try simp only [Act.put, List.setIfInBounds_toArray, List.set_cons_zero, List.set_cons_succ]
        refine wpAnyH_take (i := 4) (oi := ⟨some 49, _, _, _, _, _⟩) (v := ?_) rfl (by kernel_rfl) (by kernel_rfl) (by kernel_rfl) (fun _ _ _ h => h) (Or.inl ⟨by rfl, ?_⟩) HS0.out ?_
        rotate_left
        · (intro W hSW; clear hSW; go_simp)
          first | done | (with_reducible rfl)
        try simp only [Act.put, List.setIfInBounds_toArray, List.set_cons_zero, List.set_cons_succ]
        refine wpAnyH_take (i := 5) (oi := ⟨some 50, _, _, _, _, _⟩) (v := .int .i64 x) rfl (by kernel_rfl) (by kernel_rfl) (by kernel_rfl) (fun _ _ _ h => h) (Or.inl ⟨by rfl, ?_⟩) HS0.out ?_
        · (intro W hSW; have hc := hSW.now; clear hSW; go_simp)
        try simp only [Act.put, List.setIfInBounds_toArray, List.set_cons_zero, List.set_cons_succ]
        refine wpAnyH_take (i := 6) (oi := ⟨some 51, _, _, _, _, _⟩) (v := ?_) rfl (by kernel_rfl) (by kernel_rfl) (by kernel_rfl) (fun _ _ _ h => h) (Or.inl ⟨by rfl, ?_⟩) HS0.out ?_
        rotate_left
        · (intro W hSW; clear hSW; go_simp)
          first | done | (with_reducible rfl)
        try simp only [Act.put, List.setIfInBounds_toArray, List.set_cons_zero, List.set_cons_succ]
        refine wpAnyH_take (i := 7) (oi := ⟨some 52, _, _, _, _, _⟩) (v := ?_) rfl (by kernel_rfl) (by kernel_rfl) (by kernel_rfl) (fun _ _ _ h => h) (Or.inl ⟨by rfl, ?_⟩) HS0.out ?_
        rotate_left
        · (intro W hSW; clear hSW; go_simp)
          first | done | (with_reducible rfl)
        try simp only [Act.put, List.setIfInBounds_toArray, List.set_cons_zero, List.set_cons_succ]
        refine wpAnyH_take (i := 8) (oi := ⟨some 53, _, _, _, _, _⟩) (v := ?_) rfl (by kernel_rfl) (by kernel_rfl) (by kernel_rfl) (fun _ _ _ h => h) (Or.inl ⟨by rfl, ?_⟩) HS0.out ?_
        rotate_left
        · (intro W hSW; clear hSW; go_simp)
          first | done | (with_reducible rfl)
        try simp only [Act.put, List.setIfInBounds_toArray, List.set_cons_zero, List.set_cons_succ]
        refine wpAnyH_take (i := 9) (oi := ⟨some 54, _, _, _, _, _⟩) (v := ?_) rfl (by kernel_rfl) (by kernel_rfl) (by kernel_rfl) (fun _ _ _ h => h) (Or.inl ⟨by rfl, ?_⟩) HS0.out ?_
        rotate_left
        · (intro W hSW; clear hSW; go_simp)
          first | done | (with_reducible rfl)
        try simp only [Act.put, List.setIfInBounds_toArray, List.set_cons_zero, List.set_cons_succ]
        refine wpAnyH_take (i := 10) (oi := ⟨some 55, _, _, _, _, _⟩) (v := .int .i64 y) rfl (by kernel_rfl) (by kernel_rfl) (by kernel_rfl) (fun _ _ _ h => h) (Or.inl ⟨by rfl, ?_⟩) HS0.out ?_
        · (intro W hSW; have hc := hSW.num; clear hSW; go_simp)
        try simp only [Act.put, List.setIfInBounds_toArray, List.set_cons_zero, List.set_cons_succ]
        refine wpAnyH_ready (rs := [11]) (by kernel_rfl) (by simp) ?_
        refine AllReadyH.cons (o := ⟨some 56, _, _, _, _, _⟩) rfl (fun K hK => ?_) AllReadyH.nil
        go_simp
        refine (take_ g r (b * 1048576) L m x y z RD.out.at_ hx1).mono ?_
        rintro e x1 ⟨rfl, hp, hf⟩
        have R3 := Lib.hid (RD.out.take hp hf a1')
        have HS1 : Hid (AskAt a k x y x1) := AA.out.below R3.out.be
        have hmx : max m x ≤ 1125899906842624 := by omega
        generalize okT r (b * 1048576) L m x y = ok at *
        clear hp hf
        go_simp
        refine hK.out _ _ ?_ (fun _ => ?_)
        · exact HS1.out
        clear hK K
        try simp only [Act.put, List.setIfInBounds_toArray, List.set_cons_zero, List.set_cons_succ]
        refine wpAnyH_done (by kernel_rfl) ?_ _
        go_wp2_with fail
        go_roundw
        case rel => exact ⟨k + 1, _, _, by omega, by go_num, hmx, R3.out⟩
        case measure => simp [intOf]; omega
      · go_wp2_with fail
        go_roundw
        case rel => exact ⟨k + 1, L, m, by omega, by go_num, hm, R4.out⟩
        case measure => simp [intOf]; omega
    · obtain rfl : k = n := by omega
      have HO := Lib.hid R4.out.at_.ok
      have hl := lev_bd (x := 2305843009213693952) HO.out
      by_cases hz : r = 0
      · have hz' : (r == 0) = true := by simpa using hz
        clear hz
        obtain ⟨V, hv⟩ : ∃ V, lev r (b * 1048576) L m 2305843009213693952 = V := ⟨_, rfl⟩
        have HE := Lib.hid hv
        rw [hv] at hl
        have hq : V / 1048576 ≤ b := by omega
        clear hv
        go_wp2_with (go_at_call 10; (with_reducible refine (level_ g r (b * 1048576) L m 2305843009213693952 _ R4.out.at_ (by omega)).mono ?_); rintro e w5 ⟨rfl, hb⟩; rw [HE.out]; have R5 := Lib.hid (R4.out.below hb); clear hb R4)
        go_ret
        exact ⟨ret_bool (by simp), R5.out.be⟩
      · have hz' : (r == 0) = false := by simpa using hz
        have HE : Hid (lev r (b * 1048576) L m 2305843009213693952 / 1048576 = b) := by
          show _ = _
          rw [lev_full HO.out hm (by omega)]
          omega
        clear hz
        go_wp2_with (go_at_call 10; (with_reducible refine (level_ g r (b * 1048576) L m 2305843009213693952 _ R4.out.at_ (by omega)).mono ?_); rintro e w5 ⟨rfl, hb⟩; rw [HE.out]; have R5 := Lib.hid (R4.out.below hb); clear hb R4)
        go_ret
        exact ⟨ret_bool (by simp), R5.out.be⟩

set_option maxRecDepth 100000 in
set_option maxHeartbeats 2000000 in
theorem full_far (x0 y0 : Int) (A : Option Addr) (n c : Nat) (w : World) (hn : 60 < n) :
    Calls Try.prog 5 #[.int .u32 x0, .int .u32 y0, .slice A n c] w fun e w' => e = .returned (.bool true) ∧ Below w.heap.size w w' := by
  have hd : decide ((60 : Int) < (n : Int)) = true := by simp; omega
  go_enter Try.func5, Try.ntmps5
  go_wp2_with fail
  refine (awake_any _).mono ?_
  rintro e w1 ⟨rfl, hb1⟩
  have W1 := Lib.hid hb1
  clear hb1
  go_wp2_with fail
  refine (awake_any _).mono ?_
  rintro e w2 ⟨rfl, hb2⟩
  have W2 : Hid (Below w.heap.size w w2) := W1.out.trans (hb2.mono W1.out.size)
  clear hb2
  go_wp2_with fail
  go_ret
  exact ⟨rfl, W2.out⟩
end Go.Proofs.Ytbmapegfodomaaa
