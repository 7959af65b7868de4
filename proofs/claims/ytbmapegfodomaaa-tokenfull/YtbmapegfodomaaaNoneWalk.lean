/- The walk of the law TokenNone: for any burst and any askings it returns true and turns nothing that was there. -/
import Derived.Test.YtbmapegfodomaaaAwake
import Derived.Test.YtbmapegfodomaaaIns
namespace Go.Proofs.Ytbmapegfodomaaa
open Go.RowKit

/-- An asking's two cells. -/
structure AskAt (a : Addr) (k : Nat) (x y : Int) (W : World) : Prop where
  now : W.cell? (a.add (k * 2)) = some (.int .i64 x)
  num : W.cell? ⟨(a.add (k * 2)).block, (a.add (k * 2)).off + 1, none⟩ = some (.int .i64 y)
theorem AskAt.below {a : Addr} {k : Nat} {x y : Int} {w W : World} (h : AskAt a k x y w) (hb : Below w.heap.size w W) : AskAt a k x y W :=
  ⟨(hb.cell (World.block_lt_of_cell? w _ h.now)).trans h.now, (hb.cell (World.block_lt_of_cell? w _ h.num)).trans h.num⟩
/-- What stands at the loop: tokens, what was there. -/
structure TokRel (w : World) (g : Nat) (r B L m : Int) (w' : World) : Prop where
  at_ : TAt w' g r B L m
  be : Below w.heap.size w w'
theorem TokRel.drew {w w' : World} {g : Nat} {r B L m : Int} (h : TokRel w g r B L m w') : TokRel w g r B L m w'.drew := ⟨h.at_.drew, h.be.drew⟩
theorem TokRel.below {w w' w'' : World} {g : Nat} {r B L m : Int} (h : TokRel w g r B L m w') (hb : Below w'.heap.size w' w'') : TokRel w g r B L m w'' := ⟨h.at_.below hb, h.be.trans (hb.mono h.be.size)⟩
theorem TokRel.take {w w' w'' : World} {g : Nat} {r B L m L' m' : Int} (h : TokRel w g r B L m w') (hp : TAt w'' g r B L' m') (hf : Far (only g) w' w'') (hg : w.heap.size ≤ g) : TokRel w g r B L' m' w'' := ⟨hp, below_only h.be hf hg h.be.size⟩
/-- Without a rate what is there stays. -/
theorem lev_none {B L m x : Int} (h : Ok 0 B L m) : lev 0 B L m x = L := by
  obtain ⟨_, _, h1, h2, h3, _, _⟩ := h
  have e : mulC 0 (x - m) = 0 := by rw [mulC_comm, mulC_zero]
  unfold lev
  rw [e]
  unfold addC
  (repeat' split) <;> omega

set_option maxRecDepth 100000 in
set_option maxHeartbeats 4000000 in
theorem none_near (x0 : Int) (A : Option Addr) (n c : Nat) (X Y : Nat → Int) (w : World) (hn : n ≤ 80) (hx0 : 0 ≤ x0) (hx1 : x0 ≤ 4294967295) (ha : ActsIn w A n X Y) :
    Calls Try.prog 6 #[.int .u32 x0, .slice A n c] w fun e w' => e = .returned (.bool true) ∧ Below w.heap.size w w' := by
  have HA := Lib.hid ha
  clear ha
  have hd : decide ((80 : Int) < (n : Int)) = false := by simp; omega
  obtain ⟨b, hb⟩ : ∃ b, 1 + x0 % 1073741824 = b := ⟨_, rfl⟩
  have hb0 : 1 ≤ b := by omega
  have hb1 : b ≤ 1073741824 := by omega
  go_enter Try.func6, Try.ntmps6
  go_upto_region 4 with (go_at_call 7; (with_reducible refine (awake_any _).mono ?_); rintro e w1 ⟨rfl, hb1⟩; have W1 := Lib.hid hb1; clear hb1)
  try simp only [hb]
  clear hb hx0 hx1
  go_wp2_with (go_at_call 8; (with_reducible refine (new_ 0 b _ (by omega) (by omega) hb0 hb1).mono ?_); rintro e w2 ⟨g, rfl, hr, a1, hb2⟩; have R2 : Hid (TokRel w g 0 (b * 1048576) ((b - 0) * 1048576) 0 w2) := ⟨by rw [Int.sub_zero]; exact hr, W1.out.trans (hb2.mono W1.out.size)⟩; have hsz1 := W1.out.size; have a1' : w.heap.size ≤ g := (by omega); clear hr hb2 W1 hsz1 a1)
  go_loopw [8, 9, 29] (fun t _ i w' => ∃ (k : Nat) (T m : Int), k ≤ n ∧ i = .int .i64 k ∧ t = .int .i64 T ∧ 0 ≤ T ∧ T ≤ b ∧ TokRel w g 0 (b * 1048576) ((b - T) * 1048576) m w') (fun _ _ i _ => n - (intOf i).toNat)
  case atStart => exact ⟨0, 0, 0, by omega, rfl, rfl, by omega, by omega, R2.out⟩
  case round =>
    clear R2
    obtain ⟨k, T, m, hk, rfl, rfl, ht0, ht1, hr⟩ := hrel
    have R4 := Lib.hid hr
    clear hr
    by_cases hlt : k < n
    · obtain ⟨a, rfl, hca0, hcb0, hx0, hx1, hy0, hy1⟩ := HA.out k hlt
      have AA : Hid (AskAt a k (X k) (Y k) w) := ⟨hca0, by rw [addr_one] at hcb0; exact hcb0⟩
      clear hca0 hcb0 HA
      generalize X k = x at *
      generalize Y k = y at *
      have HO := Lib.hid R4.out.at_.ok
      have HV : Hid (lev 0 (b * 1048576) ((b - T) * 1048576) m x = (b - T) * 1048576) := lev_none HO.out
      rcases hq : okT 0 (b * 1048576) ((b - T) * 1048576) m x y with _ | _
      · have HQ := Lib.hid hq
        have HL : Hid (lef 0 (b * 1048576) ((b - T) * 1048576) m x y = (b - T) * 1048576) := (by show _ = _; rw [lef_no hq, HV.out])
        have d1 : decide (b < T) = false := by simp; omega
        clear hq
        go_wp2_with fail
        refine wp_region_held_drew (S := fun W => AskAt a k x y W) (by kernel_rfl) ?_ (fun _ => ?_)
        · exact AA.out.below R4.out.drew.be
        have HS0 : Hid (AskAt a k x y wr.drew) := AA.out.below R4.out.drew.be
        have RD := Lib.hid R4.out.drew
        clear R4
        generalize wr.drew = z at *
        refine wpAnyH_take (i := 0) (oi := ⟨some 32, _, _, _, _, _⟩) (v := ?_) rfl (by kernel_rfl) (by kernel_rfl) (by kernel_rfl) (fun _ _ _ h => h) (Or.inl ⟨by rfl, ?_⟩) HS0.out ?_
        rotate_left
        · (intro W hSW; clear hSW; go_simp)
          first | done | (with_reducible rfl)
        try simp only [Act.put, List.setIfInBounds_toArray, List.set_cons_zero, List.set_cons_succ]
        refine wpAnyH_take (i := 1) (oi := ⟨some 33, _, _, _, _, _⟩) (v := ?_) rfl (by kernel_rfl) (by kernel_rfl) (by kernel_rfl) (fun _ _ _ h => h) (Or.inl ⟨by rfl, ?_⟩) HS0.out ?_
        rotate_left
        · (intro W hSW; clear hSW; go_simp)
          first | done | (with_reducible rfl)
        try simp only [Act.put, List.setIfInBounds_toArray, List.set_cons_zero, List.set_cons_succ]
        refine wpAnyH_take (i := 2) (oi := ⟨some 34, _, _, _, _, _⟩) (v := ?_) rfl (by kernel_rfl) (by kernel_rfl) (by kernel_rfl) (fun _ _ _ h => h) (Or.inl ⟨by rfl, ?_⟩) HS0.out ?_
        rotate_left
        · (intro W hSW; clear hSW; go_simp)
          first | done | (with_reducible rfl)
        try simp only [Act.put, List.setIfInBounds_toArray, List.set_cons_zero, List.set_cons_succ]
        refine wpAnyH_take (i := 3) (oi := ⟨some 35, _, _, _, _, _⟩) (v := ?_) rfl (by kernel_rfl) (by kernel_rfl) (by kernel_rfl) (fun _ _ _ h => h) (Or.inl ⟨by rfl, ?_⟩) HS0.out ?_
        rotate_left
        · (intro W hSW; clear hSW; go_simp)
          first | done | (with_reducible rfl)
        try simp only [Act.put, List.setIfInBounds_toArray, List.set_cons_zero, List.set_cons_succ]
        refine wpAnyH_take (i := 4) (oi := ⟨some 36, _, _, _, _, _⟩) (v := ?_) rfl (by kernel_rfl) (by kernel_rfl) (by kernel_rfl) (fun _ _ _ h => h) (Or.inl ⟨by rfl, ?_⟩) HS0.out ?_
        rotate_left
        · (intro W hSW; clear hSW; go_simp)
          first | done | (with_reducible rfl)
        try simp only [Act.put, List.setIfInBounds_toArray, List.set_cons_zero, List.set_cons_succ]
        refine wpAnyH_take (i := 5) (oi := ⟨some 37, _, _, _, _, _⟩) (v := .int .i64 x) rfl (by kernel_rfl) (by kernel_rfl) (by kernel_rfl) (fun _ _ _ h => h) (Or.inl ⟨by rfl, ?_⟩) HS0.out ?_
        · (intro W hSW; have hc := hSW.now; clear hSW; go_simp)
        try simp only [Act.put, List.setIfInBounds_toArray, List.set_cons_zero, List.set_cons_succ]
        refine wpAnyH_take (i := 6) (oi := ⟨some 38, _, _, _, _, _⟩) (v := ?_) rfl (by kernel_rfl) (by kernel_rfl) (by kernel_rfl) (fun _ _ _ h => h) (Or.inl ⟨by rfl, ?_⟩) HS0.out ?_
        rotate_left
        · (intro W hSW; clear hSW; go_simp)
          first | done | (with_reducible rfl)
        try simp only [Act.put, List.setIfInBounds_toArray, List.set_cons_zero, List.set_cons_succ]
        refine wpAnyH_take (i := 7) (oi := ⟨some 39, _, _, _, _, _⟩) (v := ?_) rfl (by kernel_rfl) (by kernel_rfl) (by kernel_rfl) (fun _ _ _ h => h) (Or.inl ⟨by rfl, ?_⟩) HS0.out ?_
        rotate_left
        · (intro W hSW; clear hSW; go_simp)
          first | done | (with_reducible rfl)
        try simp only [Act.put, List.setIfInBounds_toArray, List.set_cons_zero, List.set_cons_succ]
        refine wpAnyH_take (i := 8) (oi := ⟨some 40, _, _, _, _, _⟩) (v := ?_) rfl (by kernel_rfl) (by kernel_rfl) (by kernel_rfl) (fun _ _ _ h => h) (Or.inl ⟨by rfl, ?_⟩) HS0.out ?_
        rotate_left
        · (intro W hSW; clear hSW; go_simp)
          first | done | (with_reducible rfl)
        try simp only [Act.put, List.setIfInBounds_toArray, List.set_cons_zero, List.set_cons_succ]
        refine wpAnyH_take (i := 9) (oi := ⟨some 41, _, _, _, _, _⟩) (v := ?_) rfl (by kernel_rfl) (by kernel_rfl) (by kernel_rfl) (fun _ _ _ h => h) (Or.inl ⟨by rfl, ?_⟩) HS0.out ?_
        rotate_left
        · (intro W hSW; clear hSW; go_simp)
          first | done | (with_reducible rfl)
        try simp only [Act.put, List.setIfInBounds_toArray, List.set_cons_zero, List.set_cons_succ]
        refine wpAnyH_take (i := 10) (oi := ⟨some 42, _, _, _, _, _⟩) (v := .int .i64 y) rfl (by kernel_rfl) (by kernel_rfl) (by kernel_rfl) (fun _ _ _ h => h) (Or.inl ⟨by rfl, ?_⟩) HS0.out ?_
        · (intro W hSW; have hc := hSW.num; clear hSW; go_simp)
        try simp only [Act.put, List.setIfInBounds_toArray, List.set_cons_zero, List.set_cons_succ]
        refine wpAnyH_ready (rs := [11]) (by kernel_rfl) (by simp) ?_
        refine AllReadyH.cons (o := ⟨some 43, _, _, _, _, _⟩) rfl (fun K hK => ?_) AllReadyH.nil
        go_simp
        refine (take_ g 0 (b * 1048576) ((b - T) * 1048576) m x y z RD.out.at_ hx1).mono ?_
        rintro e x1 ⟨rfl, hp, hf⟩
        have R3 := Lib.hid (RD.out.take hp hf a1')
        rw [HL.out] at R3
        rw [HQ.out]
        have HS1 : Hid (AskAt a k x y x1) := AA.out.below R3.out.be
        have hm := HO.out.m0
        clear hp hf HQ HL HV HO
        go_simp
        refine hK.out _ _ ?_ (fun _ => ?_)
        · exact HS1.out
        clear hK K
        try simp only [Act.put, List.setIfInBounds_toArray, List.set_cons_zero, List.set_cons_succ]
        refine wpAnyH_done (by kernel_rfl) ?_ _
        have hcx := HS1.out.now
        have hcy := HS1.out.num
        have HE : Hid (lev 0 (b * 1048576) ((b - T) * 1048576) (max m x) x / 1048576 = b - T) := (by show _ = _; rw [lev_none R3.out.at_.ok]; omega)
        go_wp2_with (go_at_call 10; (with_reducible refine (level_ g 0 (b * 1048576) ((b - T) * 1048576) (max m x) x _ R3.out.at_ hx1).mono ?_); rintro e w5 ⟨rfl, hb⟩; rw [HE.out]; have R5 := Lib.hid (R3.out.below hb); clear hb R3)
        go_roundw
        case rel => exact ⟨k + 1, T, max m x, by omega, by go_num, rfl, by omega, by omega, R5.out⟩
        case measure => simp [intOf]; omega
      · have HQ := Lib.hid hq
        have hy := ok_yes hq
        rw [HV.out] at hy
        have HL : Hid (lef 0 (b * 1048576) ((b - T) * 1048576) m x y = (b - (T + y)) * 1048576) := (by show _ = _; rw [lef_yes hq, HV.out]; omega)
        have ht2 : 0 ≤ T + y := by omega
        have ht3 : T + y ≤ b := by omega
        have d1 : decide (b < T + y) = false := by simp; omega
        clear hq
        go_wp2_with fail
        refine wp_region_held_drew (S := fun W => AskAt a k x y W) (by kernel_rfl) ?_ (fun _ => ?_)
        · exact AA.out.below R4.out.drew.be
        have HS0 : Hid (AskAt a k x y wr.drew) := AA.out.below R4.out.drew.be
        have RD := Lib.hid R4.out.drew
        clear R4
        generalize wr.drew = z at *
        refine wpAnyH_take (i := 0) (oi := ⟨some 32, _, _, _, _, _⟩) (v := ?_) rfl (by kernel_rfl) (by kernel_rfl) (by kernel_rfl) (fun _ _ _ h => h) (Or.inl ⟨by rfl, ?_⟩) HS0.out ?_
        rotate_left
        · (intro W hSW; clear hSW; go_simp)
          first | done | (with_reducible rfl)
        try simp only [Act.put, List.setIfInBounds_toArray, List.set_cons_zero, List.set_cons_succ]
        refine wpAnyH_take (i := 1) (oi := ⟨some 33, _, _, _, _, _⟩) (v := ?_) rfl (by kernel_rfl) (by kernel_rfl) (by kernel_rfl) (fun _ _ _ h => h) (Or.inl ⟨by rfl, ?_⟩) HS0.out ?_
        rotate_left
        · (intro W hSW; clear hSW; go_simp)
          first | done | (with_reducible rfl)
        try simp only [Act.put, List.setIfInBounds_toArray, List.set_cons_zero, List.set_cons_succ]
        refine wpAnyH_take (i := 2) (oi := ⟨some 34, _, _, _, _, _⟩) (v := ?_) rfl (by kernel_rfl) (by kernel_rfl) (by kernel_rfl) (fun _ _ _ h => h) (Or.inl ⟨by rfl, ?_⟩) HS0.out ?_
        rotate_left
        · (intro W hSW; clear hSW; go_simp)
          first | done | (with_reducible rfl)
        try simp only [Act.put, List.setIfInBounds_toArray, List.set_cons_zero, List.set_cons_succ]
        refine wpAnyH_take (i := 3) (oi := ⟨some 35, _, _, _, _, _⟩) (v := ?_) rfl (by kernel_rfl) (by kernel_rfl) (by kernel_rfl) (fun _ _ _ h => h) (Or.inl ⟨by rfl, ?_⟩) HS0.out ?_
        rotate_left
        · (intro W hSW; clear hSW; go_simp)
          first | done | (with_reducible rfl)
        try simp only [Act.put, List.setIfInBounds_toArray, List.set_cons_zero, List.set_cons_succ]
        refine wpAnyH_take (i := 4) (oi := ⟨some 36, _, _, _, _, _⟩) (v := ?_) rfl (by kernel_rfl) (by kernel_rfl) (by kernel_rfl) (fun _ _ _ h => h) (Or.inl ⟨by rfl, ?_⟩) HS0.out ?_
        rotate_left
        · (intro W hSW; clear hSW; go_simp)
          first | done | (with_reducible rfl)
        try simp only [Act.put, List.setIfInBounds_toArray, List.set_cons_zero, List.set_cons_succ]
        refine wpAnyH_take (i := 5) (oi := ⟨some 37, _, _, _, _, _⟩) (v := .int .i64 x) rfl (by kernel_rfl) (by kernel_rfl) (by kernel_rfl) (fun _ _ _ h => h) (Or.inl ⟨by rfl, ?_⟩) HS0.out ?_
        · (intro W hSW; have hc := hSW.now; clear hSW; go_simp)
        try simp only [Act.put, List.setIfInBounds_toArray, List.set_cons_zero, List.set_cons_succ]
        refine wpAnyH_take (i := 6) (oi := ⟨some 38, _, _, _, _, _⟩) (v := ?_) rfl (by kernel_rfl) (by kernel_rfl) (by kernel_rfl) (fun _ _ _ h => h) (Or.inl ⟨by rfl, ?_⟩) HS0.out ?_
        rotate_left
        · (intro W hSW; clear hSW; go_simp)
          first | done | (with_reducible rfl)
        try simp only [Act.put, List.setIfInBounds_toArray, List.set_cons_zero, List.set_cons_succ]
        refine wpAnyH_take (i := 7) (oi := ⟨some 39, _, _, _, _, _⟩) (v := ?_) rfl (by kernel_rfl) (by kernel_rfl) (by kernel_rfl) (fun _ _ _ h => h) (Or.inl ⟨by rfl, ?_⟩) HS0.out ?_
        rotate_left
        · (intro W hSW; clear hSW; go_simp)
          first | done | (with_reducible rfl)
        try simp only [Act.put, List.setIfInBounds_toArray, List.set_cons_zero, List.set_cons_succ]
        refine wpAnyH_take (i := 8) (oi := ⟨some 40, _, _, _, _, _⟩) (v := ?_) rfl (by kernel_rfl) (by kernel_rfl) (by kernel_rfl) (fun _ _ _ h => h) (Or.inl ⟨by rfl, ?_⟩) HS0.out ?_
        rotate_left
        · (intro W hSW; clear hSW; go_simp)
          first | done | (with_reducible rfl)
        try simp only [Act.put, List.setIfInBounds_toArray, List.set_cons_zero, List.set_cons_succ]
        refine wpAnyH_take (i := 9) (oi := ⟨some 41, _, _, _, _, _⟩) (v := ?_) rfl (by kernel_rfl) (by kernel_rfl) (by kernel_rfl) (fun _ _ _ h => h) (Or.inl ⟨by rfl, ?_⟩) HS0.out ?_
        rotate_left
        · (intro W hSW; clear hSW; go_simp)
          first | done | (with_reducible rfl)
        try simp only [Act.put, List.setIfInBounds_toArray, List.set_cons_zero, List.set_cons_succ]
        refine wpAnyH_take (i := 10) (oi := ⟨some 42, _, _, _, _, _⟩) (v := .int .i64 y) rfl (by kernel_rfl) (by kernel_rfl) (by kernel_rfl) (fun _ _ _ h => h) (Or.inl ⟨by rfl, ?_⟩) HS0.out ?_
        · (intro W hSW; have hc := hSW.num; clear hSW; go_simp)
        try simp only [Act.put, List.setIfInBounds_toArray, List.set_cons_zero, List.set_cons_succ]
        refine wpAnyH_ready (rs := [11]) (by kernel_rfl) (by simp) ?_
        refine AllReadyH.cons (o := ⟨some 43, _, _, _, _, _⟩) rfl (fun K hK => ?_) AllReadyH.nil
        go_simp
        refine (take_ g 0 (b * 1048576) ((b - T) * 1048576) m x y z RD.out.at_ hx1).mono ?_
        rintro e x1 ⟨rfl, hp, hf⟩
        have R3 := Lib.hid (RD.out.take hp hf a1')
        rw [HL.out] at R3
        rw [HQ.out]
        have HS1 : Hid (AskAt a k x y x1) := AA.out.below R3.out.be
        have hm := HO.out.m0
        clear hp hf HQ HL HV HO
        go_simp
        refine hK.out _ _ ?_ (fun _ => ?_)
        · exact HS1.out
        clear hK K
        try simp only [Act.put, List.setIfInBounds_toArray, List.set_cons_zero, List.set_cons_succ]
        refine wpAnyH_done (by kernel_rfl) ?_ _
        have hcx := HS1.out.now
        have hcy := HS1.out.num
        have HE : Hid (lev 0 (b * 1048576) ((b - (T + y)) * 1048576) (max m x) x / 1048576 = b - (T + y)) := (by show _ = _; rw [lev_none R3.out.at_.ok]; omega)
        go_wp2_with (go_at_call 10; (with_reducible refine (level_ g 0 (b * 1048576) ((b - (T + y)) * 1048576) (max m x) x _ R3.out.at_ hx1).mono ?_); rintro e w5 ⟨rfl, hb⟩; rw [HE.out]; have R5 := Lib.hid (R3.out.below hb); clear hb R3)
        go_roundw
        case rel => exact ⟨k + 1, (T + y), max m x, by omega, by go_num, rfl, by omega, by omega, R5.out⟩
        case measure => simp [intOf]; omega
    · obtain rfl : k = n := by omega
      go_wp2
      go_ret
      exact ⟨rfl, R4.out.be⟩

set_option maxRecDepth 100000 in
set_option maxHeartbeats 2000000 in
theorem none_far (x0 : Int) (A : Option Addr) (n c : Nat) (w : World) (hn : 80 < n) :
    Calls Try.prog 6 #[.int .u32 x0, .slice A n c] w fun e w' => e = .returned (.bool true) ∧ Below w.heap.size w w' := by
  have hd : decide ((80 : Int) < (n : Int)) = true := by simp; omega
  go_enter Try.func6, Try.ntmps6
  go_wp2_with fail
  refine (awake_any _).mono ?_
  rintro e w1 ⟨rfl, hb1⟩
  have W1 := Lib.hid hb1
  clear hb1
  go_wp2_with fail
  refine (awake_any _).mono ?_
  rintro e w2 ⟨rfl, hb2⟩
  have W2 : Hid (Below w.heap.size w w2) := W1.out.trans (hb2.mono W1.out.size)
  clear hb2
  go_wp2_with fail
  go_ret
  exact ⟨rfl, W2.out⟩
end Go.Proofs.Ytbmapegfodomaaa
