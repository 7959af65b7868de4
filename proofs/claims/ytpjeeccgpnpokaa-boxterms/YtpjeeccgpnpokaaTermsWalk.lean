/- The walk of BoxTerms. Conditions: the program's contracts. -/
import Derived.Test.YtpjeeccgpnpokaaAwake
namespace Go.Proofs.Ytpjeeccgpnpokaa
open Go.RowKit

theorem only_lt {pb : Nat} {W : World} (h : pb < W.heap.size) : ∀ j, only pb j → j < W.heap.size := fun j e => by have e2 : j = pb := e; omega
set_option maxRecDepth 100000 in
set_option maxHeartbeats 8000000 in
theorem terms_ (T : Tbl) (P : ProgB T) (p : Pre) (a1 a2 a3 : Int) (w : World) (hp : p.Ok) (b1 : 0 ≤ a1 ∧ a1 ≤ 18446744073709551615) (b2 : 0 ≤ a2 ∧ a2 ≤ 18446744073709551615) (b3 : 0 ≤ a3 ∧ a3 ≤ 18446744073709551615) :
    Calls Try.prog 4 #[.agg p.cs.toArray, .int .u64 a1, .int .u64 a2, .int .u64 a3] w (Ans (.bool true) w) := by
  have BX : Hid (Below w.heap.size w (w.alloc (.cells p.cs.toArray 31))) := (Below.refl _ w).alloc (Nat.le_refl _) _
  have KX := Lib.hid (Blk.new w 31 p.cs)
  have HP := Lib.hid P
  have HA := Lib.hid (fun W => awake_ T P W)
  have HOK := Lib.hid hp
  clear P hp
  go_enter Try.func4, Try.ntmps4
  go_upto_region 1 with fail
  generalize (w.alloc (.cells p.cs.toArray 31)) = x1 at *
  generalize hpb : w.heap.size = pb at KX
  have HPB := Lib.hid hpb
  clear hpb
  go_upto_region 4 with (go_at_call 6; (with_reducible refine (HA.out _).mono ?_); rintro e w1 ⟨rfl, hb⟩; have B1 : Hid (Below w.heap.size w w1) := BX.out.trans (hb.mono BX.out.size); have K1 := Lib.hid (KX.out.below hb); clear hb)
  have ht0 : 1 ≤ 1 + a2 % 1099511627776 ∧ 1 + a2 % 1099511627776 ≤ 1099511627776 := by omega
  have hx0 : 0 ≤ a1 % 1099511627776 ∧ a1 % 1099511627776 < 1099511627776 := by omega
  generalize 1 + a2 % 1099511627776 = t at *
  generalize a1 % 1099511627776 = nn at *
  have hpbw : pb < w1.heap.size := K1.out.lt
  go_upto_region 5 with (go_at_call 7; (with_reducible refine (one_new (t := t) (F := only pb) HP.out B1.out ht0 (only_lt hpbw)).mono ?_); rintro e w2 ⟨g, rfl, ha, hb⟩; have A2 := Lib.hid ha; have K2 := Lib.hid (K1.out.below hb); clear ha hb)
  clear BX KX K1 B1 HA hpbw
  have ht := Lib.hid ht0
  have hx := Lib.hid hx0
  have hy0 : 0 ≤ a3 % t ∧ a3 % t < t := ⟨Int.emod_nonneg _ (by omega), Int.emod_lt_of_pos _ (by omega)⟩
  have HC2 : Hid (a3.tmod t = a3 % t) := Int.tmod_eq_emod_of_nonneg b3.1
  have HZ : Hid (¬ t = 0) := by show ¬ _; omega
  have HC1 : Hid (IntKind.u64.wrap t = t) := by show _ = _; simp [IntKind.wrap, IntKind.bits]; omega
  generalize a3 % t = y at *
  have HC3 : Hid (IntKind.i64.wrap y = y) := by show _ = _; rw [IntKind.wrap_i64] <;> omega
  have HC4 : Hid (IntKind.i64.wrap (nn + y) = nn + y) := by show _ = _; rw [IntKind.wrap_i64] <;> omega
  have HC5 : Hid (IntKind.i64.wrap (nn + t) = nn + t) := by show _ = _; rw [IntKind.wrap_i64] <;> omega
  have HC6 : Hid (IntKind.i64.wrap (nn + t - 1) = nn + t - 1) := by show _ = _; rw [IntKind.wrap_i64] <;> omega
  have hy : Hid (0 ≤ nn + y ∧ nn + y < nn + t) := by show _ ∧ _; omega
  have hl : Hid (0 ≤ nn + t - 1 ∧ nn + t - 1 < nn + t) := by show _ ∧ _; omega
  go_wp2_with fail
  go_loopw [27] (fun i w' => ∃ k : Nat, k ≤ 2 ∧ i = .int .i64 k ∧ At T w g (cf1 t) [] (only pb) w' ∧ Blk w' pb 31 p.cs) (fun i _ => 2 - (intOf i).toNat)
  case atStart => exact ⟨0, by omega, rfl, A2.out, K2.out⟩
  case round =>
    clear A2 K2
    obtain ⟨k, hk, rfl, ha, hkk⟩ := hrel
    have A2 := Lib.hid ha
    have K2 := Lib.hid hkk
    clear ha hkk
    by_cases hlt : k < 2
    · go_upto_region 7 with fail
      refine wp_region_held_drew (S := fun W => Blk W pb 31 p.cs) (by kernel_rfl) ?_ (fun _ => ?_)
      · exact K2.out.drew
      have HS0 : Hid (Blk wr.drew pb 31 p.cs) := K2.out.drew
      have A2 : Hid (At T w g (cf1 t) [] (only pb) wr.drew) := A2.out.below HP.out (Below.refl _ wr).drew
      generalize wr.drew = w3 at *
      clear K2
      refine wpAnyH_take (i := 0) (oi := ⟨some 29, _, _, _, _, _⟩) (v := ?_) rfl (by kernel_rfl) (by kernel_rfl) (by kernel_rfl) (fun _ _ _ h => h) (Or.inl ⟨by rfl, ?_⟩) HS0.out ?_
      rotate_left
      · (intro W hSW; clear hSW; go_simp)
        first | done | (with_reducible rfl)
      try simp only [Act.put, List.setIfInBounds_toArray, List.set_cons_zero, List.set_cons_succ]
      refine wpAnyH_take (i := 1) (oi := ⟨some 30, _, _, _, _, _⟩) (v := .agg p.cs.toArray) rfl (by kernel_rfl) (by kernel_rfl) (by kernel_rfl) (fun _ _ _ h => h) (yields_pre (by rfl) (.tmp 4) rfl pb 0 rfl p (fun _ hW => whole_at hW)) HS0.out ?_
      try simp only [Act.put, List.setIfInBounds_toArray, List.set_cons_zero, List.set_cons_succ]
      refine wpAnyH_take (i := 2) (oi := ⟨some 31, _, _, _, _, _⟩) (v := ?_) rfl (by kernel_rfl) (by kernel_rfl) (by kernel_rfl) (fun _ _ _ h => h) (Or.inl ⟨by rfl, ?_⟩) HS0.out ?_
      rotate_left
      · (intro W hSW; clear hSW; go_simp)
        first | done | (with_reducible rfl)
      try simp only [Act.put, List.setIfInBounds_toArray, List.set_cons_zero, List.set_cons_succ]
      refine wpAnyH_ready (rs := [3]) (by kernel_rfl) (by simp) ?_
      refine AllReadyH.cons (o := ⟨some 32, _, _, _, _, _⟩) rfl (fun K hK => ?_) AllReadyH.nil
      go_simp
      refine (one_put (x := nn) HP.out A2.out ht.out hx.out HOK.out).mono ?_
      rintro e x1 ⟨rfl, ha, hf⟩
      have HS1 : Hid (Blk x1 pb 31 p.cs) := blk_act HS0.out hf
      have A3 := Lib.hid ha
      clear ha hf A2
      go_simp
      refine hK.out _ _ ?_ (fun _ => ?_)
      · exact HS1.out
      clear hK K
      try simp only [Act.put, List.setIfInBounds_toArray, List.set_cons_zero, List.set_cons_succ]
      refine wpAnyH_take (i := 4) (oi := ⟨some 33, _, _, _, _, _⟩) (v := ?_) rfl (by kernel_rfl) (by kernel_rfl) (by kernel_rfl) (fun _ _ _ h => h) (Or.inl ⟨by rfl, ?_⟩) HS1.out ?_
      rotate_left
      · (intro W hSW; clear hSW; go_simp)
        first | done | (with_reducible rfl)
      try simp only [Act.put, List.setIfInBounds_toArray, List.set_cons_zero, List.set_cons_succ]
      refine wpAnyH_take (i := 5) (oi := ⟨some 34, _, _, _, _, _⟩) (v := ?_) rfl (by kernel_rfl) (by kernel_rfl) (by kernel_rfl) (fun _ _ _ h => h) (Or.inl ⟨by rfl, ?_⟩) HS1.out ?_
      rotate_left
      · (intro W hSW; clear hSW; go_simp)
        first | done | (with_reducible rfl)
      try simp only [Act.put, List.setIfInBounds_toArray, List.set_cons_zero, List.set_cons_succ]
      refine wpAnyH_take (i := 6) (oi := ⟨some 35, _, _, _, _, _⟩) (v := ?_) rfl (by kernel_rfl) (by kernel_rfl) (by kernel_rfl) (fun _ _ _ h => h) (Or.inl ⟨by rfl, ?_⟩) HS1.out ?_
      rotate_left
      · (intro W hSW; clear hSW; go_simp)
        first | done | (with_reducible rfl)
      try simp only [Act.put, List.setIfInBounds_toArray, List.set_cons_zero, List.set_cons_succ]
      refine wpAnyH_take (i := 7) (oi := ⟨some 36, _, _, _, _, _⟩) (v := .agg p.cs.toArray) rfl (by kernel_rfl) (by kernel_rfl) (by kernel_rfl) (fun _ _ _ h => h) (yields_pre (by rfl) (.tmp 4) rfl pb 0 rfl p (fun _ hW => whole_at hW)) HS1.out ?_
      try simp only [Act.put, List.setIfInBounds_toArray, List.set_cons_zero, List.set_cons_succ]
      refine wpAnyH_take (i := 8) (oi := ⟨some 37, _, _, _, _, _⟩) (v := ?_) rfl (by kernel_rfl) (by kernel_rfl) (by kernel_rfl) (fun _ _ _ h => h) (Or.inl ⟨by rfl, ?_⟩) HS1.out ?_
      rotate_left
      · (intro W hSW; clear hSW; go_simp)
        first | done | (with_reducible rfl)
      try simp only [Act.put, List.setIfInBounds_toArray, List.set_cons_zero, List.set_cons_succ]
      refine wpAnyH_ready (rs := [9]) (by kernel_rfl) (by simp) ?_
      refine AllReadyH.cons (o := ⟨some 38, _, _, _, _, _⟩) rfl (fun K hK => ?_) AllReadyH.nil
      go_simp
      refine (one_twice (x := nn) HP.out A3.out ht.out hx.out HOK.out).mono ?_
      rintro e x2 ⟨rfl, ha, hf⟩
      have HS2 : Hid (Blk x2 pb 31 p.cs) := blk_act HS1.out hf
      have A4 := Lib.hid ha
      clear ha hf A3
      go_simp
      refine hK.out _ _ ?_ (fun _ => ?_)
      · exact HS2.out
      clear hK K
      try simp only [Act.put, List.setIfInBounds_toArray, List.set_cons_zero, List.set_cons_succ]
      refine wpAnyH_take (i := 10) (oi := ⟨some 39, _, _, _, _, _⟩) (v := ?_) rfl (by kernel_rfl) (by kernel_rfl) (by kernel_rfl) (fun _ _ _ h => h) (Or.inl ⟨by rfl, ?_⟩) HS2.out ?_
      rotate_left
      · (intro W hSW; clear hSW; go_simp)
        first | done | (with_reducible rfl)
      try simp only [Act.put, List.setIfInBounds_toArray, List.set_cons_zero, List.set_cons_succ]
      refine wpAnyH_take (i := 11) (oi := ⟨some 40, _, _, _, _, _⟩) (v := ?_) rfl (by kernel_rfl) (by kernel_rfl) (by kernel_rfl) (fun _ _ _ h => h) (Or.inl ⟨by rfl, ?_⟩) HS2.out ?_
      rotate_left
      · (intro W hSW; clear hSW; go_simp)
        first | done | (with_reducible rfl)
      try simp only [Act.put, List.setIfInBounds_toArray, List.set_cons_zero, List.set_cons_succ]
      refine wpAnyH_take (i := 12) (oi := ⟨some 41, _, _, _, _, _⟩) (v := ?_) rfl (by kernel_rfl) (by kernel_rfl) (by kernel_rfl) (fun _ _ _ h => h) (Or.inl ⟨by rfl, ?_⟩) HS2.out ?_
      rotate_left
      · (intro W hSW; clear hSW; go_simp)
        first | done | (with_reducible rfl)
      try simp only [Act.put, List.setIfInBounds_toArray, List.set_cons_zero, List.set_cons_succ]
      refine wpAnyH_take (i := 13) (oi := ⟨some 42, _, _, _, _, _⟩) (v := ?_) rfl (by kernel_rfl) (by kernel_rfl) (by kernel_rfl) (fun _ _ _ h => h) (Or.inl ⟨by rfl, ?_⟩) HS2.out ?_
      rotate_left
      · (intro W hSW; clear hSW; go_simp)
        first | done | (with_reducible rfl)
      try simp only [Act.put, List.setIfInBounds_toArray, List.set_cons_zero, List.set_cons_succ]
      refine wpAnyH_take (i := 14) (oi := ⟨some 43, _, _, _, _, _⟩) (v := .agg p.cs.toArray) rfl (by kernel_rfl) (by kernel_rfl) (by kernel_rfl) (fun _ _ _ h => h) (yields_pre (by rfl) (.tmp 4) rfl pb 0 rfl p (fun _ hW => whole_at hW)) HS2.out ?_
      try simp only [Act.put, List.setIfInBounds_toArray, List.set_cons_zero, List.set_cons_succ]
      refine wpAnyH_take (i := 15) (oi := ⟨some 44, _, _, _, _, _⟩) (v := ?_) rfl (by kernel_rfl) (by kernel_rfl) (by kernel_rfl) (fun _ _ _ h => h) (Or.inl ⟨by rfl, ?_⟩) HS2.out ?_
      rotate_left
      · (intro W hSW; clear hSW; go_simp)
        first | done | (with_reducible rfl)
      try simp only [Act.put, List.setIfInBounds_toArray, List.set_cons_zero, List.set_cons_succ]
      refine wpAnyH_take (i := 16) (oi := ⟨some 45, _, _, _, _, _⟩) (v := ?_) rfl (by kernel_rfl) (by kernel_rfl) (by kernel_rfl) (fun _ _ _ h => h) (Or.inl ⟨by rfl, ?_⟩) HS2.out ?_
      rotate_left
      · (intro W hSW; clear hSW; go_simp)
        first | done | (with_reducible rfl)
      try simp only [Act.put, List.setIfInBounds_toArray, List.set_cons_zero, List.set_cons_succ]
      refine wpAnyH_take (i := 17) (oi := ⟨some 46, _, _, _, _, _⟩) (v := ?_) rfl (by kernel_rfl) (by kernel_rfl) (by kernel_rfl) (fun _ _ _ h => h) (Or.inl ⟨by rfl, ?_⟩) HS2.out ?_
      rotate_left
      · (intro W hSW; clear hSW; go_simp)
        first | done | (with_reducible rfl)
      try simp only [Act.put, List.setIfInBounds_toArray, List.set_cons_zero, List.set_cons_succ]
      refine wpAnyH_take (i := 18) (oi := ⟨some 47, _, _, _, _, _⟩) (v := .int .u64 t) rfl (by kernel_rfl) (by kernel_rfl) (by kernel_rfl) (fun _ _ _ h => h) (Or.inl ⟨by rfl, ?_⟩) HS2.out ?_
      · (intro W hSW; clear hSW; go_simp)
        all_goals rw [HC1.out]
      try simp only [Act.put, List.setIfInBounds_toArray, List.set_cons_zero, List.set_cons_succ]
      refine wpAnyH_take (i := 19) (oi := ⟨some 48, _, _, _, _, _⟩) (v := .int .u64 y) rfl (by kernel_rfl) (by kernel_rfl) (by kernel_rfl) (fun _ _ _ h => h) (Or.inl ⟨by rfl, ?_⟩) HS2.out ?_
      · (intro W hSW; clear hSW; go_simp)
        all_goals rw [if_neg HZ.out, HC2.out]
      try simp only [Act.put, List.setIfInBounds_toArray, List.set_cons_zero, List.set_cons_succ]
      refine wpAnyH_take (i := 20) (oi := ⟨some 49, _, _, _, _, _⟩) (v := .int .i64 y) rfl (by kernel_rfl) (by kernel_rfl) (by kernel_rfl) (fun _ _ _ h => h) (Or.inl ⟨by rfl, ?_⟩) HS2.out ?_
      · (intro W hSW; clear hSW; go_simp)
        all_goals rw [HC3.out]
      try simp only [Act.put, List.setIfInBounds_toArray, List.set_cons_zero, List.set_cons_succ]
      refine wpAnyH_take (i := 21) (oi := ⟨some 50, _, _, _, _, _⟩) (v := .int .i64 (nn + y)) rfl (by kernel_rfl) (by kernel_rfl) (by kernel_rfl) (fun _ _ _ h => h) (Or.inl ⟨by rfl, ?_⟩) HS2.out ?_
      · (intro W hSW; clear hSW; go_simp)
        all_goals rw [HC4.out]
      try simp only [Act.put, List.setIfInBounds_toArray, List.set_cons_zero, List.set_cons_succ]
      refine wpAnyH_ready (rs := [22]) (by kernel_rfl) (by simp) ?_
      refine AllReadyH.cons (o := ⟨some 51, _, _, _, _, _⟩) rfl (fun K hK => ?_) AllReadyH.nil
      go_simp
      refine (one_in (x := nn) HP.out A4.out ht.out hx.out HOK.out hy.out).mono ?_
      rintro e x3 ⟨rfl, ha, hf⟩
      have HS3 : Hid (Blk x3 pb 31 p.cs) := blk_act HS2.out hf
      have A5 := Lib.hid ha
      clear ha hf A4
      go_simp
      refine hK.out _ _ ?_ (fun _ => ?_)
      · exact HS3.out
      clear hK K
      try simp only [Act.put, List.setIfInBounds_toArray, List.set_cons_zero, List.set_cons_succ]
      refine wpAnyH_take (i := 23) (oi := ⟨some 52, _, _, _, _, _⟩) (v := ?_) rfl (by kernel_rfl) (by kernel_rfl) (by kernel_rfl) (fun _ _ _ h => h) (Or.inl ⟨by rfl, ?_⟩) HS3.out ?_
      rotate_left
      · (intro W hSW; clear hSW; go_simp)
        first | done | (with_reducible rfl)
      try simp only [Act.put, List.setIfInBounds_toArray, List.set_cons_zero, List.set_cons_succ]
      refine wpAnyH_take (i := 24) (oi := ⟨some 53, _, _, _, _, _⟩) (v := ?_) rfl (by kernel_rfl) (by kernel_rfl) (by kernel_rfl) (fun _ _ _ h => h) (Or.inl ⟨by rfl, ?_⟩) HS3.out ?_
      rotate_left
      · (intro W hSW; clear hSW; go_simp)
        first | done | (with_reducible rfl)
      try simp only [Act.put, List.setIfInBounds_toArray, List.set_cons_zero, List.set_cons_succ]
      refine wpAnyH_take (i := 25) (oi := ⟨some 54, _, _, _, _, _⟩) (v := ?_) rfl (by kernel_rfl) (by kernel_rfl) (by kernel_rfl) (fun _ _ _ h => h) (Or.inl ⟨by rfl, ?_⟩) HS3.out ?_
      rotate_left
      · (intro W hSW; clear hSW; go_simp)
        first | done | (with_reducible rfl)
      try simp only [Act.put, List.setIfInBounds_toArray, List.set_cons_zero, List.set_cons_succ]
      refine wpAnyH_take (i := 26) (oi := ⟨some 55, _, _, _, _, _⟩) (v := ?_) rfl (by kernel_rfl) (by kernel_rfl) (by kernel_rfl) (fun _ _ _ h => h) (Or.inl ⟨by rfl, ?_⟩) HS3.out ?_
      rotate_left
      · (intro W hSW; clear hSW; go_simp)
        first | done | (with_reducible rfl)
      try simp only [Act.put, List.setIfInBounds_toArray, List.set_cons_zero, List.set_cons_succ]
      refine wpAnyH_take (i := 27) (oi := ⟨some 56, _, _, _, _, _⟩) (v := .agg p.cs.toArray) rfl (by kernel_rfl) (by kernel_rfl) (by kernel_rfl) (fun _ _ _ h => h) (yields_pre (by rfl) (.tmp 4) rfl pb 0 rfl p (fun _ hW => whole_at hW)) HS3.out ?_
      try simp only [Act.put, List.setIfInBounds_toArray, List.set_cons_zero, List.set_cons_succ]
      refine wpAnyH_take (i := 28) (oi := ⟨some 57, _, _, _, _, _⟩) (v := ?_) rfl (by kernel_rfl) (by kernel_rfl) (by kernel_rfl) (fun _ _ _ h => h) (Or.inl ⟨by rfl, ?_⟩) HS3.out ?_
      rotate_left
      · (intro W hSW; clear hSW; go_simp)
        first | done | (with_reducible rfl)
      try simp only [Act.put, List.setIfInBounds_toArray, List.set_cons_zero, List.set_cons_succ]
      refine wpAnyH_take (i := 29) (oi := ⟨some 58, _, _, _, _, _⟩) (v := ?_) rfl (by kernel_rfl) (by kernel_rfl) (by kernel_rfl) (fun _ _ _ h => h) (Or.inl ⟨by rfl, ?_⟩) HS3.out ?_
      rotate_left
      · (intro W hSW; clear hSW; go_simp)
        first | done | (with_reducible rfl)
      try simp only [Act.put, List.setIfInBounds_toArray, List.set_cons_zero, List.set_cons_succ]
      refine wpAnyH_take (i := 30) (oi := ⟨some 59, _, _, _, _, _⟩) (v := .int .i64 (nn + t)) rfl (by kernel_rfl) (by kernel_rfl) (by kernel_rfl) (fun _ _ _ h => h) (Or.inl ⟨by rfl, ?_⟩) HS3.out ?_
      · (intro W hSW; clear hSW; go_simp)
        all_goals rw [HC5.out]
      try simp only [Act.put, List.setIfInBounds_toArray, List.set_cons_zero, List.set_cons_succ]
      refine wpAnyH_take (i := 31) (oi := ⟨some 60, _, _, _, _, _⟩) (v := .int .i64 (nn + t - 1)) rfl (by kernel_rfl) (by kernel_rfl) (by kernel_rfl) (fun _ _ _ h => h) (Or.inl ⟨by rfl, ?_⟩) HS3.out ?_
      · (intro W hSW; clear hSW; go_simp)
        all_goals rw [HC6.out]
      try simp only [Act.put, List.setIfInBounds_toArray, List.set_cons_zero, List.set_cons_succ]
      refine wpAnyH_ready (rs := [32]) (by kernel_rfl) (by simp) ?_
      refine AllReadyH.cons (o := ⟨some 61, _, _, _, _, _⟩) rfl (fun K hK => ?_) AllReadyH.nil
      go_simp
      refine (one_in (x := nn) HP.out A5.out ht.out hx.out HOK.out hl.out).mono ?_
      rintro e x4 ⟨rfl, ha, hf⟩
      have HS4 : Hid (Blk x4 pb 31 p.cs) := blk_act HS3.out hf
      have A6 := Lib.hid ha
      clear ha hf A5
      go_simp
      refine hK.out _ _ ?_ (fun _ => ?_)
      · exact HS4.out
      clear hK K
      try simp only [Act.put, List.setIfInBounds_toArray, List.set_cons_zero, List.set_cons_succ]
      refine wpAnyH_take (i := 33) (oi := ⟨some 62, _, _, _, _, _⟩) (v := ?_) rfl (by kernel_rfl) (by kernel_rfl) (by kernel_rfl) (fun _ _ _ h => h) (Or.inl ⟨by rfl, ?_⟩) HS4.out ?_
      rotate_left
      · (intro W hSW; clear hSW; go_simp)
        first | done | (with_reducible rfl)
      try simp only [Act.put, List.setIfInBounds_toArray, List.set_cons_zero, List.set_cons_succ]
      refine wpAnyH_take (i := 34) (oi := ⟨some 63, _, _, _, _, _⟩) (v := ?_) rfl (by kernel_rfl) (by kernel_rfl) (by kernel_rfl) (fun _ _ _ h => h) (Or.inl ⟨by rfl, ?_⟩) HS4.out ?_
      rotate_left
      · (intro W hSW; clear hSW; go_simp)
        first | done | (with_reducible rfl)
      try simp only [Act.put, List.setIfInBounds_toArray, List.set_cons_zero, List.set_cons_succ]
      refine wpAnyH_take (i := 35) (oi := ⟨some 64, _, _, _, _, _⟩) (v := ?_) rfl (by kernel_rfl) (by kernel_rfl) (by kernel_rfl) (fun _ _ _ h => h) (Or.inl ⟨by rfl, ?_⟩) HS4.out ?_
      rotate_left
      · (intro W hSW; clear hSW; go_simp)
        first | done | (with_reducible rfl)
      try simp only [Act.put, List.setIfInBounds_toArray, List.set_cons_zero, List.set_cons_succ]
      refine wpAnyH_take (i := 36) (oi := ⟨some 65, _, _, _, _, _⟩) (v := ?_) rfl (by kernel_rfl) (by kernel_rfl) (by kernel_rfl) (fun _ _ _ h => h) (Or.inl ⟨by rfl, ?_⟩) HS4.out ?_
      rotate_left
      · (intro W hSW; clear hSW; go_simp)
        first | done | (with_reducible rfl)
      try simp only [Act.put, List.setIfInBounds_toArray, List.set_cons_zero, List.set_cons_succ]
      refine wpAnyH_take (i := 37) (oi := ⟨some 66, _, _, _, _, _⟩) (v := .agg p.cs.toArray) rfl (by kernel_rfl) (by kernel_rfl) (by kernel_rfl) (fun _ _ _ h => h) (yields_pre (by rfl) (.tmp 4) rfl pb 0 rfl p (fun _ hW => whole_at hW)) HS4.out ?_
      try simp only [Act.put, List.setIfInBounds_toArray, List.set_cons_zero, List.set_cons_succ]
      refine wpAnyH_take (i := 38) (oi := ⟨some 67, _, _, _, _, _⟩) (v := ?_) rfl (by kernel_rfl) (by kernel_rfl) (by kernel_rfl) (fun _ _ _ h => h) (Or.inl ⟨by rfl, ?_⟩) HS4.out ?_
      rotate_left
      · (intro W hSW; clear hSW; go_simp)
        first | done | (with_reducible rfl)
      try simp only [Act.put, List.setIfInBounds_toArray, List.set_cons_zero, List.set_cons_succ]
      refine wpAnyH_take (i := 39) (oi := ⟨some 68, _, _, _, _, _⟩) (v := ?_) rfl (by kernel_rfl) (by kernel_rfl) (by kernel_rfl) (fun _ _ _ h => h) (Or.inl ⟨by rfl, ?_⟩) HS4.out ?_
      rotate_left
      · (intro W hSW; clear hSW; go_simp)
        first | done | (with_reducible rfl)
      try simp only [Act.put, List.setIfInBounds_toArray, List.set_cons_zero, List.set_cons_succ]
      refine wpAnyH_take (i := 40) (oi := ⟨some 69, _, _, _, _, _⟩) (v := .int .i64 (nn + t)) rfl (by kernel_rfl) (by kernel_rfl) (by kernel_rfl) (fun _ _ _ h => h) (Or.inl ⟨by rfl, ?_⟩) HS4.out ?_
      · (intro W hSW; clear hSW; go_simp)
        all_goals rw [HC5.out]
      try simp only [Act.put, List.setIfInBounds_toArray, List.set_cons_zero, List.set_cons_succ]
      refine wpAnyH_ready (rs := [41]) (by kernel_rfl) (by simp) ?_
      refine AllReadyH.cons (o := ⟨some 70, _, _, _, _, _⟩) rfl (fun K hK => ?_) AllReadyH.nil
      go_simp
      refine (one_out (x := nn) HP.out A6.out ht.out hx.out HOK.out rfl).mono ?_
      rintro e x5 ⟨rfl, ha, hf⟩
      have HS5 : Hid (Blk x5 pb 31 p.cs) := blk_act HS4.out hf
      have A7 := Lib.hid ha
      clear ha hf A6
      go_simp
      refine hK.out _ _ ?_ (fun _ => ?_)
      · exact HS5.out
      clear hK K
      try simp only [Act.put, List.setIfInBounds_toArray, List.set_cons_zero, List.set_cons_succ]
      refine wpAnyH_take (i := 42) (oi := ⟨some 71, _, _, _, _, _⟩) (v := ?_) rfl (by kernel_rfl) (by kernel_rfl) (by kernel_rfl) (fun _ _ _ h => h) (Or.inl ⟨by rfl, ?_⟩) HS5.out ?_
      rotate_left
      · (intro W hSW; clear hSW; go_simp)
        first | done | (with_reducible rfl)
      try simp only [Act.put, List.setIfInBounds_toArray, List.set_cons_zero, List.set_cons_succ]
      refine wpAnyH_done (by kernel_rfl) ?_ _
      go_wp2_with fail
      go_roundw
      case rel => exact ⟨k + 1, by omega, by go_num, A7.out, HS5.out⟩
      case measure => simp [intOf]; omega
    · have hk2 : k = 2 := by omega
      clear hlt
      go_wp2_with (first
        | (refine wpList_pre (by rfl) (.tmp 4) rfl pb 0 rfl p (whole_at K2.out) ?_)
        | (go_at_call 8; (with_reducible refine (one_put (x := nn) HP.out A2.out ht.out hx.out HOK.out).mono ?_); rintro e w3 ⟨rfl, ha, hf⟩; have A3 := Lib.hid ha; have K3 := Lib.hid (blk_act K2.out hf); clear ha hf)
        | (refine wpList_pre (by rfl) (.tmp 4) rfl pb 0 rfl p (whole_at K3.out) ?_)
        | (go_at_call 16; (with_reducible refine (one_drop (x := nn) HP.out A3.out ht.out hx.out HOK.out).mono ?_); rintro e w4 ⟨rfl, ha, hf⟩; have A4 := Lib.hid ha; have K4 := Lib.hid (blk_act K3.out hf); clear ha hf)
        | (refine wpList_pre (by rfl) (.tmp 4) rfl pb 0 rfl p (whole_at K4.out) ?_)
        | (go_at_call 9; (with_reducible refine (none_in (x := nn) HP.out A4.out ht.out hx.out HOK.out).mono ?_); rintro e w5 ⟨rfl, ha, hf⟩; have A5 := Lib.hid ha; have K5 := Lib.hid (blk_act K4.out hf); clear ha hf)
        | (refine wpList_pre (by rfl) (.tmp 4) rfl pb 0 rfl p (whole_at K5.out) ?_)
        | (go_at_call 16; (with_reducible refine (none_drop (x := nn) HP.out A5.out ht.out hx.out HOK.out).mono ?_); rintro e w6 ⟨rfl, ha, hf⟩; have A6 := Lib.hid ha; clear ha hf))
      go_ret
      exact ⟨rfl, A6.out.be⟩
end Go.Proofs.Ytpjeeccgpnpokaa
