/- The contracts of the program's Pick and Match. Conditions: those of each theorem. -/
import Derived.Test.YtcbjcnefnkfcaaaProgs
namespace Go.Proofs.Ytcbjcnefnkfcaaa
open Go.RowKit

set_option maxHeartbeats 400000 in
theorem pick_no (d n : Int) (w : World) (h : n < 1) : Calls Try.prog 7 #[.int .u64 d, .int .i64 n] w (Ans (.tuple #[.int .i64 0, .bool false]) w) := by
  go_enter Try.func7, Try.ntmps7
  go_wp2
  refine bodyPost_ret (v := .tuple #[.int .i64 0, .bool false]) (by simp [results, Try.results7]) rfl ?_
  exact ⟨rfl, Below.refl _ _⟩
set_option maxHeartbeats 400000 in
theorem pick_yes (d n : Int) (w : World) (hd : u64 d) (h1 : 1 ≤ n) (h2 : n ≤ 9223372036854775807) : Calls Try.prog 7 #[.int .u64 d, .int .i64 n] w (Ans (.tuple #[.int .i64 (d % n), .bool true]) w) := by
  have u1 : IntKind.u64.wrap n = n := by rw [IntKind.wrap_u64]; omega
  have u2 : Int.tmod d n = d % n := Int.tmod_eq_emod_of_nonneg hd.1
  have q1 := Int.emod_lt_of_pos d (show 0 < n by omega)
  have q2 := Int.emod_nonneg d (show n ≠ 0 by omega)
  obtain ⟨k, hk⟩ : ∃ k, d % n = k := ⟨_, rfl⟩
  rw [hk] at q1 q2 u2 ⊢
  have u3 : IntKind.i64.wrap k = k := by rw [IntKind.wrap_i64]; omega
  have hz : ¬ n = 0 := by omega
  have hn : ¬ n < 1 := by omega
  clear hk hd q1 q2 h1 h2
  go_enter Try.func7, Try.ntmps7
  go_wp2
  refine bodyPost_ret (v := .tuple #[.int .i64 k, .bool true]) (by simp [results, Try.results7]) rfl ?_
  exact ⟨rfl, Below.refl _ _⟩
set_option maxHeartbeats 1000000 in
theorem match_none (d : Int) (A : Option Addr) (c : Nat) (f : Flo) (w : World) : Calls Try.prog 8 #[.int .u64 d, .slice A 0 c, .agg f.cs.toArray] w (Ans (.tuple #[.int .i64 0, .bool false]) w) := by
  have W1 : Hid (Below w.heap.size w (w.alloc (.cells f.cs.toArray 27))) := (Below.refl _ w).alloc (Nat.le_refl _) _
  have HP := Lib.hid (fun W => pick_no d 0 W (by omega))
  go_enter Try.func8, Try.ntmps8
  go_upto_region 1 with fail
  generalize (w.alloc (.cells f.cs.toArray 27)) = w1 at *
  go_upto_region 2 with (go_at_call 7; (with_reducible refine (HP.out w1).mono ?_); rintro e w2 ⟨rfl, hb⟩; have W2 : Hid (Below w.heap.size w w2) := W1.out.trans (hb.mono W1.out.size); clear hb)
  go_quiet (fail)
  go_wp2
  refine bodyPost_ret (v := .tuple #[.int .i64 0, .bool false]) (by simp [results, Try.results8]) rfl ?_
  exact ⟨rfl, below_drewN W2.out _⟩
set_option maxHeartbeats 2000000 in
theorem match_any (d : Int) (A : Option Addr) (c : Nat) (L : List Flo) (f : Flo) (w : World) (hd : u64 d) (hE : Els kFlo w A L) (hO : ∀ x ∈ L, x.Ok) (hf : f.Ok) (hl : L.length ≤ 100000) :
    Calls Try.prog 8 #[.int .u64 d, .slice A L.length c, .agg f.cs.toArray] w (Ans (.tuple #[.int .i64 (mat d L f), .bool (met d L f)]) w) := by
  by_cases hnil : L = []
  · subst hnil
    exact match_none d A c f w
  · have W1 : Hid (Below w.heap.size w (w.alloc (.cells f.cs.toArray 27))) := (Below.refl _ w).alloc (Nat.le_refl _) _
    have K1 := Lib.hid (Blk.new w 27 f.cs)
    have hlp : 0 < L.length := List.length_pos_iff.2 hnil
    have hpy := fun W => pick_yes d (L.length : Int) W hd (by omega) (by omega)
    rw [← pk_eq hnil] at hpy
    have hm := pk_lt (d := d) hnil
    obtain ⟨bb, hbm⟩ : ∃ b, met d L f = b := ⟨_, rfl⟩
    have hmt : mat d L f = if bb then ((pk d L : Nat) : Int) else 0 := by rw [← hbm]; rfl
    have hbb : decide (at_ L (pk d L) = f) = bb := by rw [← hbm]; simp [met, hnil]
    obtain ⟨mt, hmt0⟩ : ∃ t, mat d L f = t := ⟨_, rfl⟩
    rw [hmt0] at hmt ⊢
    rw [hbm]
    have HMT := Lib.hid hmt
    clear hmt hmt0
    generalize pk d L = m at *
    have HP := Lib.hid hpy
    have HQ := Lib.hid (eq_flo (hO _ (at_mem hm)) hf)
    rw [hbb] at HQ
    obtain ⟨qa, oa, hA, hs⟩ := hE m _ (at_some hm)
    have HE0 : Hid (∀ W, Below w.heap.size w W → W.rangeAt qa (oa + m * 36) (at_ L m).cs) := fun W hW => by
      obtain ⟨q2, o2, e2, h2⟩ := (hE.below hW) m _ (at_some hm)
      rw [hA] at e2
      cases e2
      exact h2
    subst hA
    obtain ⟨l, hll⟩ : ∃ l, L.length = l := ⟨_, rfl⟩
    rw [hll] at HP hm ⊢
    clear hpy hbb hbm hs hE hO hf hd hnil hlp hll hl
    go_enter Try.func8, Try.ntmps8
    go_upto_region 1 with fail
    generalize (w.alloc (.cells f.cs.toArray 27)) = w1 at *
    go_upto_region 2 with (go_at_call 7; (with_reducible refine (HP.out w1).mono ?_); rintro e w2 ⟨rfl, hb⟩; have W2 : Hid (Below w.heap.size w w2) := W1.out.trans (hb.mono W1.out.size); have K2 := Lib.hid (K1.out.below hb); clear hb)
    have HE := Lib.hid (HE0.out w2 W2.out)
    clear W1 K1 HP HE0
    go_wp2_with fail
    have HS0 : Hid (w2.drew.rangeAt qa (oa + m * 36) (at_ L m).cs ∧ Blk w2.drew w.heap.size 27 f.cs) := ⟨HE.out, K2.out⟩
    refine wp_region_held_drew (S := fun W => W.rangeAt qa (oa + m * 36) (at_ L m).cs ∧ Blk W w.heap.size 27 f.cs) (by kernel_rfl) ?_ (fun _ => ?_)
    · exact HS0.out
    have W4 : Hid (Below w.heap.size w w2.drew) := W2.out.drew
    generalize w2.drew = x0 at *
    refine wpAnyH_take (i := 0) (oi := ⟨some 17, _, _, _, _, _⟩) (v := ?_) rfl (by kernel_rfl) (by kernel_rfl) (by kernel_rfl) (fun _ _ _ h => h) (Or.inl ⟨by rfl, ?_⟩) HS0.out ?_
    rotate_left
    · (intro W hSW; clear hSW; go_simp)
      first | done | (with_reducible rfl)
    try simp only [Act.put, List.setIfInBounds_toArray, List.set_cons_zero, List.set_cons_succ]
    refine wpAnyH_take (i := 1) (oi := ⟨some 18, _, _, _, _, _⟩) (v := ?_) rfl (by kernel_rfl) (by kernel_rfl) (by kernel_rfl) (fun _ _ _ h => h) (Or.inl ⟨by rfl, ?_⟩) HS0.out ?_
    rotate_left
    · (intro W hSW; clear hSW; go_simp)
      first | done | (with_reducible rfl)
    try simp only [Act.put, List.setIfInBounds_toArray, List.set_cons_zero, List.set_cons_succ]
    refine wpAnyH_take (i := 2) (oi := ⟨some 19, _, _, _, _, _⟩) (v := ?_) rfl (by kernel_rfl) (by kernel_rfl) (by kernel_rfl) (fun _ _ _ h => h) (Or.inl ⟨by rfl, ?_⟩) HS0.out ?_
    rotate_left
    · (intro W hSW; clear hSW; go_simp)
      first | done | (with_reducible rfl)
    try simp only [Act.put, List.setIfInBounds_toArray, List.set_cons_zero, List.set_cons_succ]
    refine wpAnyH_take (i := 3) (oi := ⟨some 20, _, _, _, _, _⟩) (v := ?_) rfl (by kernel_rfl) (by kernel_rfl) (by kernel_rfl) (fun _ _ _ h => h) (Or.inl ⟨by rfl, ?_⟩) HS0.out ?_
    rotate_left
    · (intro W hSW; clear hSW; go_simp)
      first | done | (with_reducible rfl)
    try simp only [Act.put, List.setIfInBounds_toArray, List.set_cons_zero, List.set_cons_succ]
    refine wpAnyH_take (i := 4) (oi := ⟨some 21, _, _, _, _, _⟩) (v := ?_) rfl (by kernel_rfl) (by kernel_rfl) (by kernel_rfl) (fun _ _ _ h => h) (Or.inl ⟨by rfl, ?_⟩) HS0.out ?_
    rotate_left
    · (intro W hSW; clear hSW; go_simp)
      first | done | (with_reducible rfl)
    try simp only [Act.put, List.setIfInBounds_toArray, List.set_cons_zero, List.set_cons_succ]
    refine wpAnyH_take (i := 5) (oi := ⟨some 22, _, _, _, _, _⟩) (v := ?_) rfl (by kernel_rfl) (by kernel_rfl) (by kernel_rfl) (fun _ _ _ h => h) (Or.inl ⟨by rfl, ?_⟩) HS0.out ?_
    rotate_left
    · (intro W hSW; clear hSW; go_simp)
      first | done | (with_reducible rfl)
    try simp only [Act.put, List.setIfInBounds_toArray, List.set_cons_zero, List.set_cons_succ]
    refine wpAnyH_take (i := 6) (oi := ⟨some 23, _, _, _, _, _⟩) (v := .agg (at_ L m).cs.toArray) rfl (by kernel_rfl) (by kernel_rfl) (by kernel_rfl) (fun _ _ _ h => h) (yields_flo (by rfl) (.tmp 22) rfl qa (oa + m * 36) rfl (at_ L m) (fun _ h => h.1)) HS0.out ?_
    try simp only [Act.put, List.setIfInBounds_toArray, List.set_cons_zero, List.set_cons_succ]
    refine wpAnyH_take (i := 7) (oi := ⟨some 24, _, _, _, _, _⟩) (v := .agg f.cs.toArray) rfl (by kernel_rfl) (by kernel_rfl) (by kernel_rfl) (fun _ _ _ h => h) (yields_flo (by rfl) (.tmp 5) rfl _ 0 rfl f (fun _ h => whole_at h.2)) HS0.out ?_
    try simp only [Act.put, List.setIfInBounds_toArray, List.set_cons_zero, List.set_cons_succ]
    refine wpAnyH_take (i := 8) (oi := ⟨some 25, _, _, _, _, _⟩) (v := .bool (!bb)) rfl (by kernel_rfl) (by kernel_rfl) (by kernel_rfl) (fun _ _ _ h => h) (yields_neq (by rfl) 27 (by kernel_rfl) (.tmp 23) (.tmp 24) 27 rfl _ _ rfl rfl _ HQ.out) HS0.out ?_
    try simp only [Act.put, List.setIfInBounds_toArray, List.set_cons_zero, List.set_cons_succ]
    refine wpAnyH_take (i := 9) (oi := ⟨some 26, _, _, _, _, _⟩) (v := .bool (!bb)) rfl (by kernel_rfl) (by kernel_rfl) (by kernel_rfl) (fun _ _ _ h => h) (Or.inl ⟨by rfl, ?_⟩) HS0.out ?_
    · (intro W hSW; clear hSW; go_simp)
    try simp only [Act.put, List.setIfInBounds_toArray, List.set_cons_zero, List.set_cons_succ]
    refine wpAnyH_done (by kernel_rfl) ?_ _
    cases bb
    · have e := HMT.out
      simp only [Bool.false_eq_true, if_false] at e
      subst e
      clear HMT
      go_wp2_with fail
      refine bodyPost_ret (v := .tuple #[.int .i64 0, .bool false]) (by simp [results, Try.results8]) rfl ?_
      exact ⟨rfl, W4.out⟩
    · have e := HMT.out
      simp only [if_true] at e
      subst e
      clear HMT
      go_wp2_with fail
      refine bodyPost_ret (v := .tuple #[.int .i64 (m : Nat), .bool true]) (by simp [results, Try.results8]) rfl ?_
      exact ⟨rfl, W4.out⟩
theorem progC : ProgC where
  none_ := fun d n w _ _ h => pick_no d n w h
  pick := fun d n w hd h1 h2 => pick_yes d n w hd h1 h2
  match_ := fun d A c L f w hd hE hO hf hl => match_any d A c L f w hd hE hO hf hl
end Go.Proofs.Ytcbjcnefnkfcaaa
