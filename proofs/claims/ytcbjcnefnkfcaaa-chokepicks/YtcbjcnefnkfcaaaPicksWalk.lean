/- The walk of ChokePicks. Conditions: the program's contracts. -/
import Derived.Test.YtcbjcnefnkfcaaaProgs
namespace Go.Proofs.Ytcbjcnefnkfcaaa
open Go.RowKit

set_option maxRecDepth 100000 in
set_option maxHeartbeats 2000000 in
theorem picks_long (P : ProgC) (d n : Int) (A : Option Addr) (l c : Nat) (f : Flo) (w : World) (hl : 100 < l) (hm : l ≤ maxLen) :
    Calls Try.prog 3 #[.int .u64 d, .int .i64 n, .slice A l c, .agg f.cs.toArray] w (Ans (.bool true) w) := by
  have HA := Lib.hid (fun W => awake_ P W)
  have W1 : Hid (Below w.heap.size w (w.alloc (.cells f.cs.toArray 27))) := (Below.refl _ w).alloc (Nat.le_refl _) _
  unfold maxLen at hm
  clear P
  go_enter Try.func3, Try.ntmps3
  go_upto_region 1 with fail
  generalize (w.alloc (.cells f.cs.toArray 27)) = w1 at *
  go_wp2_with (first
    | (go_at_call 6; (with_reducible refine (HA.out w1).mono ?_); rintro e w2 ⟨rfl, hb⟩; have W2 : Hid (Below w.heap.size w w2) := W1.out.trans (hb.mono W1.out.size); clear hb)
    | (go_at_call 6; (with_reducible refine (HA.out w2).mono ?_); rintro e w3 ⟨rfl, hb⟩; have W3 : Hid (Below w.heap.size w w3) := W2.out.trans (hb.mono W2.out.size); clear hb))
  go_ret
  exact ⟨rfl, W3.out⟩
set_option maxRecDepth 100000 in
set_option maxHeartbeats 4000000 in
theorem picks_near (P : ProgC) (d n : Int) (A : Option Addr) (L : List Flo) (c : Nat) (f : Flo) (w : World) (hd : u64 d) (hn : i64 n) (hl : L.length ≤ 100) (hE : Els kFlo w A L) (hO : ∀ x ∈ L, x.Ok) (hf : f.Ok) :
    Calls Try.prog 3 #[.int .u64 d, .int .i64 n, .slice A L.length c, .agg f.cs.toArray] w (Ans (.bool true) w) := by
  have HA := Lib.hid (fun W => awake_ P W)
  have HP := Lib.hid P
  have HD := Lib.hid hd
  have HO := Lib.hid (And.intro hO hf)
  have HE0 := Lib.hid hE
  have W1 : Hid (Below w.heap.size w (w.alloc (.cells f.cs.toArray 27))) := (Below.refl _ w).alloc (Nat.le_refl _) _
  have K1 := Lib.hid (Blk.new w 27 f.cs)
  have HM := Lib.hid (fun W (hW : Below w.heap.size w W) => P.match_ d A c L f W hd (hE.below hW) hO hf (by omega))
  obtain ⟨mt, hmm⟩ : ∃ m, mat d L f = m := ⟨_, rfl⟩
  obtain ⟨bb, hbm⟩ : ∃ b, met d L f = b := ⟨_, rfl⟩
  rw [hmm, hbm] at HM
  have hn2 : -9223372036854775808 ≤ n ∧ n ≤ 9223372036854775807 := hn
  have HN := Lib.hid hn
  obtain ⟨l, hll⟩ : ∃ l, L.length = l := ⟨_, rfl⟩
  have HL := Lib.hid hll
  rw [hll] at HM hl ⊢
  clear hll hn P hE hO hf hd
  go_enter Try.func3, Try.ntmps3
  go_upto_region 1 with fail
  generalize (w.alloc (.cells f.cs.toArray 27)) = w1 at *
  go_upto_region 3 with (go_at_call 6; (with_reducible refine (HA.out w1).mono ?_); rintro e w2 ⟨rfl, hb⟩; have W2 : Hid (Below w.heap.size w w2) := W1.out.trans (hb.mono W1.out.size); have K2 := Lib.hid (K1.out.below hb); clear hb)
  clear W1 K1 HA
  by_cases h1 : n < 1
  · go_upto_region 4 with (go_at_call 7; (with_reducible refine (HP.out.none_ d n w2 HD.out HN.out h1).mono ?_); rintro e w3 ⟨rfl, hb⟩; have W3 : Hid (Below w.heap.size w w3) := W2.out.trans (hb.mono W2.out.size); have K3 := Lib.hid (K2.out.below hb); clear hb)
    clear W2 K2
    have h2 : ¬ 0 < n := by omega
    go_upto_region 6 with fail
    go_upto_region 7 with (first
      | (refine wpList_flo (by rfl) (.tmp 7) rfl _ 0 rfl f (whole_at K3.out) ?_)
      | (go_at_call 8; (with_reducible refine (HM.out _ W3.out).mono ?_); rintro e w4 ⟨rfl, hb⟩; have W4 : Hid (Below w.heap.size w w4) := W3.out.trans (hb.mono W3.out.size); have K4 := Lib.hid (K3.out.below hb); clear hb))
    clear W3 K3 HM HP h1 h2
    have hlen : L.length = l := HL.out
    by_cases hl0 : l = 0
    · have hnil : L = [] := List.eq_nil_of_length_eq_zero (by omega)
      have e1 : met d L f = false := by simp [met, hnil]
      have e2 : mat d L f = 0 := by simp [mat, e1]
      rw [hbm] at e1
      rw [hmm] at e2
      subst e1 e2 hl0
      clear hlen hnil hbm hmm
      go_wp2
      go_ret
      exact ⟨rfl, W4.out⟩
    · have hne : L ≠ [] := fun e => hl0 (by rw [← hlen, e]; rfl)
      have hm := pk_lt (d := d) hne
      have hme := pk_eq (d := d) hne
      rw [hlen] at hm hme
      obtain ⟨m, hpm⟩ : ∃ m, pk d L = m := ⟨_, rfl⟩
      rw [hpm] at hm hme
      have hbb : bb = decide (at_ L m = f) := by rw [← hbm, ← hpm]; simp [met, hne]
      have hmt : mt = if bb then (m : Int) else 0 := by rw [← hmm, ← hbm, ← hpm]; simp [mat]
      have hd := HD.out
      have v1 : IntKind.u64.wrap (l : Int) = (l : Int) := by rw [IntKind.wrap_u64]; omega
      have v2 : Int.tmod d (l : Int) = (m : Int) := by rw [Int.tmod_eq_emod_of_nonneg hd.1]; exact hme.symm
      have v3 : IntKind.i64.wrap (m : Int) = (m : Int) := by rw [IntKind.wrap_i64]; omega
      have hz : ¬ ((l : Int) = 0) := by omega
      have hmL : m < L.length := by rw [hlen]; exact hm
      obtain ⟨qa, oa, hA, hs⟩ := (HE0.out.below W4.out) m _ (at_some hmL)
      have HE : Hid (w4.rangeAt qa (oa + m * 36) (at_ L m).cs) := hs
      have HQ := Lib.hid (eq_flo (HO.out.1 _ (at_mem hmL)) HO.out.2)
      rw [← hbb] at HQ
      subst hA
      clear hlen hne hme hpm hbb hbm hmm hs hmL HE0 HO
      go_upto_region 10 with fail
      go_wp2_with fail
      have HS0 : Hid (w4.drew.rangeAt qa (oa + m * 36) (at_ L m).cs ∧ Blk w4.drew w.heap.size 27 f.cs) := ⟨HE.out, K4.out⟩
      refine wp_region_held_drew (S := fun W => W.rangeAt qa (oa + m * 36) (at_ L m).cs ∧ Blk W w.heap.size 27 f.cs) (by kernel_rfl) ?_ (fun _ => ?_)
      · exact HS0.out
      have W5 : Hid (Below w.heap.size w w4.drew) := W4.out.drew
      generalize w4.drew = x0 at *
      refine wpAnyH_take (i := 0) (oi := ⟨some 85, _, _, _, _, _⟩) (v := ?_) rfl (by kernel_rfl) (by kernel_rfl) (by kernel_rfl) (fun _ _ _ h => h) (Or.inl ⟨by rfl, ?_⟩) HS0.out ?_
      rotate_left
      · (intro W hSW; clear hSW; go_simp)
        first | done | (with_reducible rfl)
      try simp only [Act.put, List.setIfInBounds_toArray, List.set_cons_zero, List.set_cons_succ]
      refine wpAnyH_take (i := 1) (oi := ⟨some 86, _, _, _, _, _⟩) (v := ?_) rfl (by kernel_rfl) (by kernel_rfl) (by kernel_rfl) (fun _ _ _ h => h) (Or.inl ⟨by rfl, ?_⟩) HS0.out ?_
      rotate_left
      · (intro W hSW; clear hSW; go_simp)
        first | done | (with_reducible rfl)
      try simp only [Act.put, List.setIfInBounds_toArray, List.set_cons_zero, List.set_cons_succ]
      refine wpAnyH_take (i := 2) (oi := ⟨some 87, _, _, _, _, _⟩) (v := ?_) rfl (by kernel_rfl) (by kernel_rfl) (by kernel_rfl) (fun _ _ _ h => h) (Or.inl ⟨by rfl, ?_⟩) HS0.out ?_
      rotate_left
      · (intro W hSW; clear hSW; go_simp)
        first | done | (with_reducible rfl)
      try simp only [Act.put, List.setIfInBounds_toArray, List.set_cons_zero, List.set_cons_succ]
      refine wpAnyH_take (i := 3) (oi := ⟨some 88, _, _, _, _, _⟩) (v := .agg (at_ L m).cs.toArray) rfl (by kernel_rfl) (by kernel_rfl) (by kernel_rfl) (fun _ _ _ h => h) (yields_flo (by rfl) (.tmp 87) rfl qa (oa + m * 36) rfl (at_ L m) (fun _ h => h.1)) HS0.out ?_
      try simp only [Act.put, List.setIfInBounds_toArray, List.set_cons_zero, List.set_cons_succ]
      refine wpAnyH_take (i := 4) (oi := ⟨some 89, _, _, _, _, _⟩) (v := .agg f.cs.toArray) rfl (by kernel_rfl) (by kernel_rfl) (by kernel_rfl) (fun _ _ _ h => h) (yields_flo (by rfl) (.tmp 7) rfl _ 0 rfl f (fun _ h => whole_at h.2)) HS0.out ?_
      try simp only [Act.put, List.setIfInBounds_toArray, List.set_cons_zero, List.set_cons_succ]
      refine wpAnyH_take (i := 5) (oi := ⟨some 90, _, _, _, _, _⟩) (v := .bool bb) rfl (by kernel_rfl) (by kernel_rfl) (by kernel_rfl) (fun _ _ _ h => h) (yields_eql (by rfl) 27 (by kernel_rfl) (.tmp 88) (.tmp 89) 27 rfl _ _ rfl rfl _ HQ.out) HS0.out ?_
      try simp only [Act.put, List.setIfInBounds_toArray, List.set_cons_zero, List.set_cons_succ]
      refine wpAnyH_done (by kernel_rfl) ?_ _
      rcases bb with _ | _
      · have hmt0 : mt = 0 := by rw [hmt]; rfl
        subst hmt0
        clear hmt
        go_wp2_with fail
        go_ret
        exact ⟨rfl, W5.out⟩
      · have hmt0 : mt = (m : Int) := by rw [hmt]; rfl
        subst hmt0
        clear hmt
        go_wp2_with fail
        go_ret
        exact ⟨rfl, W5.out⟩
  · have h2 : 0 < n := by omega
    have hq := Int.emod_lt_of_pos d h2
    have hq0 := Int.emod_nonneg d (show n ≠ 0 by omega)
    have HPK := Lib.hid (fun W => HP.out.pick d n W HD.out (by omega) hn2.2)
    have u1 : IntKind.u64.wrap n = n := by rw [IntKind.wrap_u64]; omega
    have u2 : Int.tmod d n = d % n := Int.tmod_eq_emod_of_nonneg HD.out.1
    obtain ⟨k, hk⟩ : ∃ k, d % n = k := ⟨_, rfl⟩
    rw [hk] at hq hq0 HPK u2
    have u3 : IntKind.u64.wrap k = k := by rw [IntKind.wrap_u64]; omega
    have hk1 : ¬ k < 0 := by omega
    have hk2 : ¬ n ≤ k := by omega
    have hz : ¬ n = 0 := by omega
    clear hk
    go_upto_region 4 with (go_at_call 7; (with_reducible refine (HPK.out w2).mono ?_); rintro e w3 ⟨rfl, hb⟩; have W3 : Hid (Below w.heap.size w w3) := W2.out.trans (hb.mono W2.out.size); have K3 := Lib.hid (K2.out.below hb); clear hb)
    clear W2 K2 HPK
    go_upto_region 6 with fail
    clear u1 u2 u3 hq hq0
    go_upto_region 7 with (first
      | (refine wpList_flo (by rfl) (.tmp 7) rfl _ 0 rfl f (whole_at K3.out) ?_)
      | (go_at_call 8; (with_reducible refine (HM.out _ W3.out).mono ?_); rintro e w4 ⟨rfl, hb⟩; have W4 : Hid (Below w.heap.size w w4) := W3.out.trans (hb.mono W3.out.size); have K4 := Lib.hid (K3.out.below hb); clear hb))
    clear W3 K3 HM HP h1 h2 hk1 hk2 hz
    have hlen : L.length = l := HL.out
    by_cases hl0 : l = 0
    · have hnil : L = [] := List.eq_nil_of_length_eq_zero (by omega)
      have e1 : met d L f = false := by simp [met, hnil]
      have e2 : mat d L f = 0 := by simp [mat, e1]
      rw [hbm] at e1
      rw [hmm] at e2
      subst e1 e2 hl0
      clear hlen hnil hbm hmm
      go_wp2
      go_ret
      exact ⟨rfl, W4.out⟩
    · have hne : L ≠ [] := fun e => hl0 (by rw [← hlen, e]; rfl)
      have hm := pk_lt (d := d) hne
      have hme := pk_eq (d := d) hne
      rw [hlen] at hm hme
      obtain ⟨m, hpm⟩ : ∃ m, pk d L = m := ⟨_, rfl⟩
      rw [hpm] at hm hme
      have hbb : bb = decide (at_ L m = f) := by rw [← hbm, ← hpm]; simp [met, hne]
      have hmt : mt = if bb then (m : Int) else 0 := by rw [← hmm, ← hbm, ← hpm]; simp [mat]
      have hd := HD.out
      have v1 : IntKind.u64.wrap (l : Int) = (l : Int) := by rw [IntKind.wrap_u64]; omega
      have v2 : Int.tmod d (l : Int) = (m : Int) := by rw [Int.tmod_eq_emod_of_nonneg hd.1]; exact hme.symm
      have v3 : IntKind.i64.wrap (m : Int) = (m : Int) := by rw [IntKind.wrap_i64]; omega
      have hz : ¬ ((l : Int) = 0) := by omega
      have hmL : m < L.length := by rw [hlen]; exact hm
      obtain ⟨qa, oa, hA, hs⟩ := (HE0.out.below W4.out) m _ (at_some hmL)
      have HE : Hid (w4.rangeAt qa (oa + m * 36) (at_ L m).cs) := hs
      have HQ := Lib.hid (eq_flo (HO.out.1 _ (at_mem hmL)) HO.out.2)
      rw [← hbb] at HQ
      subst hA
      clear hlen hne hme hpm hbb hbm hmm hs hmL HE0 HO
      go_upto_region 10 with fail
      go_wp2_with fail
      have HS0 : Hid (w4.drew.rangeAt qa (oa + m * 36) (at_ L m).cs ∧ Blk w4.drew w.heap.size 27 f.cs) := ⟨HE.out, K4.out⟩
      refine wp_region_held_drew (S := fun W => W.rangeAt qa (oa + m * 36) (at_ L m).cs ∧ Blk W w.heap.size 27 f.cs) (by kernel_rfl) ?_ (fun _ => ?_)
      · exact HS0.out
      have W5 : Hid (Below w.heap.size w w4.drew) := W4.out.drew
      generalize w4.drew = x0 at *
      refine wpAnyH_take (i := 0) (oi := ⟨some 85, _, _, _, _, _⟩) (v := ?_) rfl (by kernel_rfl) (by kernel_rfl) (by kernel_rfl) (fun _ _ _ h => h) (Or.inl ⟨by rfl, ?_⟩) HS0.out ?_
      rotate_left
      · (intro W hSW; clear hSW; go_simp)
        first | done | (with_reducible rfl)
      try simp only [Act.put, List.setIfInBounds_toArray, List.set_cons_zero, List.set_cons_succ]
      refine wpAnyH_take (i := 1) (oi := ⟨some 86, _, _, _, _, _⟩) (v := ?_) rfl (by kernel_rfl) (by kernel_rfl) (by kernel_rfl) (fun _ _ _ h => h) (Or.inl ⟨by rfl, ?_⟩) HS0.out ?_
      rotate_left
      · (intro W hSW; clear hSW; go_simp)
        first | done | (with_reducible rfl)
      try simp only [Act.put, List.setIfInBounds_toArray, List.set_cons_zero, List.set_cons_succ]
      refine wpAnyH_take (i := 2) (oi := ⟨some 87, _, _, _, _, _⟩) (v := ?_) rfl (by kernel_rfl) (by kernel_rfl) (by kernel_rfl) (fun _ _ _ h => h) (Or.inl ⟨by rfl, ?_⟩) HS0.out ?_
      rotate_left
      · (intro W hSW; clear hSW; go_simp)
        first | done | (with_reducible rfl)
      try simp only [Act.put, List.setIfInBounds_toArray, List.set_cons_zero, List.set_cons_succ]
      refine wpAnyH_take (i := 3) (oi := ⟨some 88, _, _, _, _, _⟩) (v := .agg (at_ L m).cs.toArray) rfl (by kernel_rfl) (by kernel_rfl) (by kernel_rfl) (fun _ _ _ h => h) (yields_flo (by rfl) (.tmp 87) rfl qa (oa + m * 36) rfl (at_ L m) (fun _ h => h.1)) HS0.out ?_
      try simp only [Act.put, List.setIfInBounds_toArray, List.set_cons_zero, List.set_cons_succ]
      refine wpAnyH_take (i := 4) (oi := ⟨some 89, _, _, _, _, _⟩) (v := .agg f.cs.toArray) rfl (by kernel_rfl) (by kernel_rfl) (by kernel_rfl) (fun _ _ _ h => h) (yields_flo (by rfl) (.tmp 7) rfl _ 0 rfl f (fun _ h => whole_at h.2)) HS0.out ?_
      try simp only [Act.put, List.setIfInBounds_toArray, List.set_cons_zero, List.set_cons_succ]
      refine wpAnyH_take (i := 5) (oi := ⟨some 90, _, _, _, _, _⟩) (v := .bool bb) rfl (by kernel_rfl) (by kernel_rfl) (by kernel_rfl) (fun _ _ _ h => h) (yields_eql (by rfl) 27 (by kernel_rfl) (.tmp 88) (.tmp 89) 27 rfl _ _ rfl rfl _ HQ.out) HS0.out ?_
      try simp only [Act.put, List.setIfInBounds_toArray, List.set_cons_zero, List.set_cons_succ]
      refine wpAnyH_done (by kernel_rfl) ?_ _
      rcases bb with _ | _
      · have hmt0 : mt = 0 := by rw [hmt]; rfl
        subst hmt0
        clear hmt
        go_wp2_with fail
        go_ret
        exact ⟨rfl, W5.out⟩
      · have hmt0 : mt = (m : Int) := by rw [hmt]; rfl
        subst hmt0
        clear hmt
        go_wp2_with fail
        go_ret
        exact ⟨rfl, W5.out⟩
end Go.Proofs.Ytcbjcnefnkfcaaa
