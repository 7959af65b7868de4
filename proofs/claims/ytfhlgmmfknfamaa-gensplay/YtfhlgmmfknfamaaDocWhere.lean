/- The document's Where. Conditions: those of each theorem. -/
import Derived.Test.YtfhlgmmfknfamaaDocMem
namespace Go.Proofs.Ytfhlgmmfknfamaa
open Go.RowKit

set_option maxRecDepth 100000 in
set_option maxHeartbeats 2000000 in
theorem dwhere_false (K : Ks) (R : RefK K) (S : St) (f : Flo) (w : World) (hS : S.Ok) (hf : f.Ok) (ho : S.o = false) : Calls Try.prog 23 #[.agg (dcs S).toArray, .agg f.cs.toArray] w (Ans (.tuple #[.int .i64 (nm (gen K S f) : Nat), .int .i64 (cls K S f : Nat)]) w) := by
  obtain ⟨n0, n1, n2⟩ := two_box (dcs S) f.cs 34 45 w
  have K1 := Lib.hid n0
  have K2 := Lib.hid n1
  have W1 := Lib.hid n2
  have HB := Lib.hid (fun W => R.bucket (S.key false) f S.n W (hS.key _) hf hS.n1 hS.n2)
  have HB2 := Lib.hid (fun W => R.bucket (S.key true) f S.n W (hS.key _) hf hS.n1 hS.n2)
  have hlt := K.lt (S.key false) f S.n hS.n1
  have hlt2 := K.lt (S.key true) f S.n hS.n1
  have hn1 := hS.n1
  have hn2 := hS.n2
  have hg : gen K S f = if K.bk (S.key false) f S.n < S.mv.getD 0 then true else false := by
    unfold gen
    rw [ho]
    rfl
  have hc : cls K S f = nm (gen K S f) * S.n + K.bk (S.key (gen K S f)) f S.n := rfl
  have hmv : (mvI S ≤ ((K.bk (S.key false) f S.n : Nat) : Int)) ↔ ¬ K.bk (S.key false) f S.n < S.mv.getD 0 := by
    unfold mvI
    rcases S.mv with _ | m
    · simp
    · simp
  obtain ⟨gv, hgv⟩ : ∃ x, nm (gen K S f) = x := ⟨_, rfl⟩
  obtain ⟨c, hcc⟩ : ∃ c, cls K S f = c := ⟨_, rfl⟩
  rw [hgv, hcc]
  clear n0 n1 n2 hS hf R
  go_enter Try.func23, Try.ntmps23
  go_upto_region 1 with fail
  generalize ((w.alloc (.cells (dcs S).toArray 34)).alloc (.cells f.cs.toArray 45)) = x1 at *
  have HS0 : Hid (Blk x1.drew w.heap.size 34 (dcs S) ∧ Blk x1.drew (w.heap.size + 1) 45 f.cs) := ⟨K1.out, K2.out⟩
  have W2 : Hid (Below w.heap.size w x1.drew) := W1.out.drew
  clear K1 K2 W1
  refine wp_region_held_drew (S := fun W => Blk W w.heap.size 34 (dcs S) ∧ Blk W (w.heap.size + 1) 45 f.cs) (by kernel_rfl) ?_ (fun _ => ?_)
  · exact HS0.out
  generalize x1.drew = x0 at *
  refine wpAnyH_take (i := 0) (oi := ⟨some 8, _, _, _, _, _⟩) (v := ?_) rfl (by kernel_rfl) (by kernel_rfl) (by kernel_rfl) (fun _ _ _ h => h) (Or.inl ⟨by rfl, ?_⟩) HS0.out ?_
  rotate_left
  · (intro W hSW; clear hSW; go_simp)
    first | done | (with_reducible rfl)
  try simp only [Act.put, List.setIfInBounds_toArray, List.set_cons_zero, List.set_cons_succ]
  refine wpAnyH_take (i := 1) (oi := ⟨some 9, _, _, _, _, _⟩) (v := .int .i64 0) rfl (by kernel_rfl) (by kernel_rfl) (by kernel_rfl) (fun _ _ _ h => h) (Or.inl ⟨by rfl, ?_⟩) HS0.out ?_
  · (intro W hSW; obtain ⟨d0, d1, d2, d3⟩ := dcells hSW.1; rw [ho] at d1; clear hSW; go_simp)
    all_goals rfl
  try simp only [Act.put, List.setIfInBounds_toArray, List.set_cons_zero, List.set_cons_succ]
  refine wpAnyH_take (i := 2) (oi := ⟨some 10, _, _, _, _, _⟩) (v := ?_) rfl (by kernel_rfl) (by kernel_rfl) (by kernel_rfl) (fun _ _ _ h => h) (Or.inl ⟨by rfl, ?_⟩) HS0.out ?_
  rotate_left
  · (intro W hSW; clear hSW; go_simp)
    first | done | (with_reducible rfl)
  try simp only [Act.put, List.setIfInBounds_toArray, List.set_cons_zero, List.set_cons_succ]
  refine wpAnyH_take (i := 3) (oi := ⟨some 11, _, _, _, _, _⟩) (v := ?_) rfl (by kernel_rfl) (by kernel_rfl) (by kernel_rfl) (fun _ _ _ h => h) (Or.inl ⟨by rfl, ?_⟩) HS0.out ?_
  rotate_left
  · (intro W hSW; clear hSW; go_simp)
    first | done | (with_reducible rfl)
  try simp only [Act.put, List.setIfInBounds_toArray, List.set_cons_zero, List.set_cons_succ]
  refine wpAnyH_take (i := 4) (oi := ⟨some 12, _, _, _, _, _⟩) (v := .agg (S.key false).cs.toArray) rfl (by kernel_rfl) (by kernel_rfl) (by kernel_rfl) (fun _ _ _ h => h) (yields_key (by rfl) (.tmp 11) rfl _ 1 rfl (S.key false) (fun _ h => dkey h.1 false)) HS0.out ?_
  try simp only [Act.put, List.setIfInBounds_toArray, List.set_cons_zero, List.set_cons_succ]
  refine wpAnyH_take (i := 5) (oi := ⟨some 13, _, _, _, _, _⟩) (v := .agg f.cs.toArray) rfl (by kernel_rfl) (by kernel_rfl) (by kernel_rfl) (fun _ _ _ h => h) (yields_flo (by rfl) (.tmp 3) rfl _ 0 rfl f (fun _ h => whole_at h.2)) HS0.out ?_
  try simp only [Act.put, List.setIfInBounds_toArray, List.set_cons_zero, List.set_cons_succ]
  refine wpAnyH_take (i := 6) (oi := ⟨some 14, _, _, _, _, _⟩) (v := ?_) rfl (by kernel_rfl) (by kernel_rfl) (by kernel_rfl) (fun _ _ _ h => h) (Or.inl ⟨by rfl, ?_⟩) HS0.out ?_
  rotate_left
  · (intro W hSW; clear hSW; go_simp)
    first | done | (with_reducible rfl)
  try simp only [Act.put, List.setIfInBounds_toArray, List.set_cons_zero, List.set_cons_succ]
  refine wpAnyH_take (i := 7) (oi := ⟨some 15, _, _, _, _, _⟩) (v := .int .i64 (S.n : Nat)) rfl (by kernel_rfl) (by kernel_rfl) (by kernel_rfl) (fun _ _ _ h => h) (Or.inl ⟨by rfl, ?_⟩) HS0.out ?_
  · (intro W hSW; obtain ⟨d0, d1, d2, d3⟩ := dcells hSW.1; clear hSW; go_simp)
  try simp only [Act.put, List.setIfInBounds_toArray, List.set_cons_zero, List.set_cons_succ]
  refine wpAnyH_ready (rs := [8]) (by kernel_rfl) (by simp) ?_
  refine AllReadyH.cons (o := ⟨some 16, _, _, _, _, _⟩) rfl (fun K hK => ?_) AllReadyH.nil
  go_simp
  refine (HB.out _).mono ?_
  rintro e x1 ⟨rfl, hb⟩
  have HS1 : Hid (Blk x1 w.heap.size 34 (dcs S) ∧ Blk x1 (w.heap.size + 1) 45 f.cs) := ⟨HS0.out.1.below hb, HS0.out.2.below hb⟩
  have W3 : Hid (Below w.heap.size w x1) := W2.out.trans (hb.mono W2.out.size)
  clear hb W2 HS0
  go_simp
  refine hK.out _ _ ?_ (fun _ => ?_)
  · exact HS1.out
  clear hK K
  try simp only [Act.put, List.setIfInBounds_toArray, List.set_cons_zero, List.set_cons_succ]
  refine wpAnyH_take (i := 9) (oi := ⟨some 6, _, _, _, _, _⟩) (v := ?_) rfl (by kernel_rfl) (by kernel_rfl) (by kernel_rfl) (fun _ _ _ h => h) (Or.inl ⟨by rfl, ?_⟩) HS1.out ?_
  rotate_left
  · (intro W hSW; clear hSW; go_simp)
    first | done | (with_reducible rfl)
  try simp only [Act.put, List.setIfInBounds_toArray, List.set_cons_zero, List.set_cons_succ]
  refine wpAnyH_done (by kernel_rfl) ?_ _
  by_cases hm : K.bk (S.key false) f S.n < S.mv.getD 0
  · rw [if_pos hm] at hg
    rw [hg] at hc hgv
    have hg2 : gv = 1 := hgv.symm
    subst hg2
    have i1 : ¬ mvI S ≤ ((K.bk (S.key false) f S.n : Nat) : Int) := fun h => hmv.1 h hm
    rw [hcc] at hc
    have hc1 : ((S.n : Nat) : Int) + ((K.bk (S.key true) f S.n : Nat) : Int) = (c : Int) := by
      rw [hc]
      show _ = ((1 * S.n + _ : Nat) : Int)
      omega
    have hc2 : c < 200 := by
      rw [hc]
      show 1 * S.n + _ < 200
      omega
    obtain ⟨d0, d1, d2, d3⟩ := dcells HS1.out.1
    rw [ho, show ((nm false : Nat) : Int) = 0 from rfl] at d1
    clear hcc hc hg hgv hmv hm
    generalize K.bk (S.key false) f S.n = bo at *
    go_upto_region 3 with fail
    go_upto_region 5 with fail
    clear d0 d1 d2 d3
    generalize K.bk (S.key true) f S.n = bn at *
    go_wp2_with fail
    have HT0 : Hid (Blk x1.drew w.heap.size 34 (dcs S) ∧ Blk x1.drew (w.heap.size + 1) 45 f.cs) := ⟨HS1.out.1, HS1.out.2⟩
    have W4 : Hid (Below w.heap.size w x1.drew) := W3.out.drew
    clear W3 HS1
    refine wp_region_held_drew (S := fun W => Blk W w.heap.size 34 (dcs S) ∧ Blk W (w.heap.size + 1) 45 f.cs) (by kernel_rfl) ?_ (fun _ => ?_)
    · exact HT0.out
    generalize x1.drew = y0 at *
    refine wpAnyH_take (i := 0) (oi := ⟨some 33, _, _, _, _, _⟩) (v := ?_) rfl (by kernel_rfl) (by kernel_rfl) (by kernel_rfl) (fun _ _ _ h => h) (Or.inl ⟨by rfl, ?_⟩) HT0.out ?_
    rotate_left
    · (intro W hSW; clear hSW; go_simp)
      first | done | (with_reducible rfl)
    try simp only [Act.put, List.setIfInBounds_toArray, List.set_cons_zero, List.set_cons_succ]
    refine wpAnyH_take (i := 1) (oi := ⟨some 34, _, _, _, _, _⟩) (v := ?_) rfl (by kernel_rfl) (by kernel_rfl) (by kernel_rfl) (fun _ _ _ h => h) (Or.inl ⟨by rfl, ?_⟩) HT0.out ?_
    rotate_left
    · (intro W hSW; clear hSW; go_simp)
      first | done | (with_reducible rfl)
    try simp only [Act.put, List.setIfInBounds_toArray, List.set_cons_zero, List.set_cons_succ]
    refine wpAnyH_take (i := 2) (oi := ⟨some 35, _, _, _, _, _⟩) (v := ?_) rfl (by kernel_rfl) (by kernel_rfl) (by kernel_rfl) (fun _ _ _ h => h) (Or.inl ⟨by rfl, ?_⟩) HT0.out ?_
    rotate_left
    · (intro W hSW; clear hSW; go_simp)
      first | done | (with_reducible rfl)
    try simp only [Act.put, List.setIfInBounds_toArray, List.set_cons_zero, List.set_cons_succ]
    refine wpAnyH_take (i := 3) (oi := ⟨some 36, _, _, _, _, _⟩) (v := .int .i64 (S.n : Nat)) rfl (by kernel_rfl) (by kernel_rfl) (by kernel_rfl) (fun _ _ _ h => h) (Or.inl ⟨by rfl, ?_⟩) HT0.out ?_
    · (intro W hSW; obtain ⟨d0, d1, d2, d3⟩ := dcells hSW.1; clear hSW; go_simp)
    try simp only [Act.put, List.setIfInBounds_toArray, List.set_cons_zero, List.set_cons_succ]
    refine wpAnyH_take (i := 4) (oi := ⟨some 37, _, _, _, _, _⟩) (v := .int .i64 (S.n : Nat)) rfl (by kernel_rfl) (by kernel_rfl) (by kernel_rfl) (fun _ _ _ h => h) (Or.inl ⟨by rfl, ?_⟩) HT0.out ?_
    · (intro W hSW; clear hSW; go_simp)
      all_goals (rw [IntKind.wrap_i64]; omega)
    try simp only [Act.put, List.setIfInBounds_toArray, List.set_cons_zero, List.set_cons_succ]
    refine wpAnyH_take (i := 5) (oi := ⟨some 38, _, _, _, _, _⟩) (v := ?_) rfl (by kernel_rfl) (by kernel_rfl) (by kernel_rfl) (fun _ _ _ h => h) (Or.inl ⟨by rfl, ?_⟩) HT0.out ?_
    rotate_left
    · (intro W hSW; clear hSW; go_simp)
      first | done | (with_reducible rfl)
    try simp only [Act.put, List.setIfInBounds_toArray, List.set_cons_zero, List.set_cons_succ]
    refine wpAnyH_take (i := 6) (oi := ⟨some 39, _, _, _, _, _⟩) (v := ?_) rfl (by kernel_rfl) (by kernel_rfl) (by kernel_rfl) (fun _ _ _ h => h) (Or.inl ⟨by rfl, ?_⟩) HT0.out ?_
    rotate_left
    · (intro W hSW; clear hSW; go_simp)
      first | done | (with_reducible rfl)
    try simp only [Act.put, List.setIfInBounds_toArray, List.set_cons_zero, List.set_cons_succ]
    refine wpAnyH_take (i := 7) (oi := ⟨some 40, _, _, _, _, _⟩) (v := ?_) rfl (by kernel_rfl) (by kernel_rfl) (by kernel_rfl) (fun _ _ _ h => h) (Or.inl ⟨by rfl, ?_⟩) HT0.out ?_
    rotate_left
    · (intro W hSW; clear hSW; go_simp)
      first | done | (with_reducible rfl)
    try simp only [Act.put, List.setIfInBounds_toArray, List.set_cons_zero, List.set_cons_succ]
    refine wpAnyH_take (i := 8) (oi := ⟨some 41, _, _, _, _, _⟩) (v := .agg (S.key true).cs.toArray) rfl (by kernel_rfl) (by kernel_rfl) (by kernel_rfl) (fun _ _ _ h => h) (yields_key (by rfl) (.tmp 40) rfl _ 17 rfl (S.key true) (fun _ h => dkey h.1 true)) HT0.out ?_
    try simp only [Act.put, List.setIfInBounds_toArray, List.set_cons_zero, List.set_cons_succ]
    refine wpAnyH_take (i := 9) (oi := ⟨some 42, _, _, _, _, _⟩) (v := .agg f.cs.toArray) rfl (by kernel_rfl) (by kernel_rfl) (by kernel_rfl) (fun _ _ _ h => h) (yields_flo (by rfl) (.tmp 3) rfl _ 0 rfl f (fun _ h => whole_at h.2)) HT0.out ?_
    try simp only [Act.put, List.setIfInBounds_toArray, List.set_cons_zero, List.set_cons_succ]
    refine wpAnyH_take (i := 10) (oi := ⟨some 43, _, _, _, _, _⟩) (v := ?_) rfl (by kernel_rfl) (by kernel_rfl) (by kernel_rfl) (fun _ _ _ h => h) (Or.inl ⟨by rfl, ?_⟩) HT0.out ?_
    rotate_left
    · (intro W hSW; clear hSW; go_simp)
      first | done | (with_reducible rfl)
    try simp only [Act.put, List.setIfInBounds_toArray, List.set_cons_zero, List.set_cons_succ]
    refine wpAnyH_take (i := 11) (oi := ⟨some 44, _, _, _, _, _⟩) (v := .int .i64 (S.n : Nat)) rfl (by kernel_rfl) (by kernel_rfl) (by kernel_rfl) (fun _ _ _ h => h) (Or.inl ⟨by rfl, ?_⟩) HT0.out ?_
    · (intro W hSW; obtain ⟨d0, d1, d2, d3⟩ := dcells hSW.1; clear hSW; go_simp)
    try simp only [Act.put, List.setIfInBounds_toArray, List.set_cons_zero, List.set_cons_succ]
    refine wpAnyH_ready (rs := [12]) (by kernel_rfl) (by simp) ?_
    refine AllReadyH.cons (o := ⟨some 45, _, _, _, _, _⟩) rfl (fun K hK => ?_) AllReadyH.nil
    go_simp
    refine (HB2.out _).mono ?_
    rintro e y1 ⟨rfl, hb⟩
    have HT1 : Hid (Blk y1 w.heap.size 34 (dcs S) ∧ Blk y1 (w.heap.size + 1) 45 f.cs) := ⟨HT0.out.1.below hb, HT0.out.2.below hb⟩
    have W5 : Hid (Below w.heap.size w y1) := W4.out.trans (hb.mono W4.out.size)
    clear hb W4 HT0
    go_simp
    refine hK.out _ _ ?_ (fun _ => ?_)
    · exact HT1.out
    clear hK K
    try simp only [Act.put, List.setIfInBounds_toArray, List.set_cons_zero, List.set_cons_succ]
    refine wpAnyH_take (i := 13) (oi := ⟨some 46, _, _, _, _, _⟩) (v := .int .i64 (c : Nat)) rfl (by kernel_rfl) (by kernel_rfl) (by kernel_rfl) (fun _ _ _ h => h) (Or.inl ⟨by rfl, ?_⟩) HT1.out ?_
    · (intro W hSW; clear hSW; go_simp)
      all_goals (rw [IntKind.wrap_i64]; omega)
    try simp only [Act.put, List.setIfInBounds_toArray, List.set_cons_zero, List.set_cons_succ]
    refine wpAnyH_take (i := 14) (oi := ⟨some 4, _, _, _, _, _⟩) (v := ?_) rfl (by kernel_rfl) (by kernel_rfl) (by kernel_rfl) (fun _ _ _ h => h) (Or.inl ⟨by rfl, ?_⟩) HT1.out ?_
    rotate_left
    · (intro W hSW; clear hSW; go_simp)
      first | done | (with_reducible rfl)
    try simp only [Act.put, List.setIfInBounds_toArray, List.set_cons_zero, List.set_cons_succ]
    refine wpAnyH_take (i := 15) (oi := ⟨some 5, _, _, _, _, _⟩) (v := ?_) rfl (by kernel_rfl) (by kernel_rfl) (by kernel_rfl) (fun _ _ _ h => h) (Or.inl ⟨by rfl, ?_⟩) HT1.out ?_
    rotate_left
    · (intro W hSW; clear hSW; go_simp)
      first | done | (with_reducible rfl)
    try simp only [Act.put, List.setIfInBounds_toArray, List.set_cons_zero, List.set_cons_succ]
    refine wpAnyH_done (by kernel_rfl) ?_ _
    clear HT1
    go_wp2_with fail
    refine bodyPost_ret (v := .tuple #[.int .i64 1, .int .i64 (c : Nat)]) (by simp [results, Try.results23]) rfl ?_
    exact ⟨rfl, W5.out⟩
  · rw [if_neg hm] at hg
    rw [hg] at hc hgv
    have hg2 : gv = 0 := hgv.symm
    subst hg2
    have i1 : mvI S ≤ ((K.bk (S.key false) f S.n : Nat) : Int) := hmv.2 hm
    have i2 : decide (mvI S ≤ ((K.bk (S.key false) f S.n : Nat) : Int)) = true := decide_eq_true i1
    rw [hcc] at hc
    have hc1 : ((K.bk (S.key false) f S.n : Nat) : Int) = (c : Int) := by
      rw [hc]
      show _ = ((0 * S.n + _ : Nat) : Int)
      omega
    have d0 : ∀ M, (x1.drewN M).cell? ⟨w.heap.size, 0, none⟩ = some (.int .i64 (S.n : Nat)) := fun M => (dcells HS1.out.1).1
    have d1 : ∀ M, (x1.drewN M).cell? ⟨w.heap.size, 33, none⟩ = some (.int .i64 0) := fun M => by
      have := (dcells HS1.out.1).2.1
      rw [ho] at this
      exact this
    have d2 : ∀ M, (x1.drewN M).cell? ⟨w.heap.size, 34, none⟩ = some (.int .i64 (mvI S)) := fun M => (dcells HS1.out.1).2.2.1
    have d2' := d2 0
    have d2'' : x1.cell? ⟨w.heap.size, 34, none⟩ = some (.int .i64 (mvI S)) := (dcells HS1.out.1).2.2.1
    clear hcc hc hg hgv hmv hm hlt2 HB2
    generalize K.bk (S.key false) f S.n = bo at *
    go_upto_region 3 with fail
    go_quiet (fail)
    go_wp2
    refine bodyPost_ret (v := .tuple #[.int .i64 0, .int .i64 (c : Nat)]) (by simp [results, Try.results23]) rfl ?_
    exact ⟨rfl, below_drewN W3.out _⟩
set_option maxRecDepth 100000 in
set_option maxHeartbeats 2000000 in
theorem dwhere_true (K : Ks) (R : RefK K) (S : St) (f : Flo) (w : World) (hS : S.Ok) (hf : f.Ok) (ho : S.o = true) : Calls Try.prog 23 #[.agg (dcs S).toArray, .agg f.cs.toArray] w (Ans (.tuple #[.int .i64 (nm (gen K S f) : Nat), .int .i64 (cls K S f : Nat)]) w) := by
  obtain ⟨n0, n1, n2⟩ := two_box (dcs S) f.cs 34 45 w
  have K1 := Lib.hid n0
  have K2 := Lib.hid n1
  have W1 := Lib.hid n2
  have HB := Lib.hid (fun W => R.bucket (S.key true) f S.n W (hS.key _) hf hS.n1 hS.n2)
  have HB2 := Lib.hid (fun W => R.bucket (S.key false) f S.n W (hS.key _) hf hS.n1 hS.n2)
  have hlt := K.lt (S.key true) f S.n hS.n1
  have hlt2 := K.lt (S.key false) f S.n hS.n1
  have hn1 := hS.n1
  have hn2 := hS.n2
  have hg : gen K S f = if K.bk (S.key true) f S.n < S.mv.getD 0 then false else true := by
    unfold gen
    rw [ho]
    rfl
  have hc : cls K S f = nm (gen K S f) * S.n + K.bk (S.key (gen K S f)) f S.n := rfl
  have hmv : (mvI S ≤ ((K.bk (S.key true) f S.n : Nat) : Int)) ↔ ¬ K.bk (S.key true) f S.n < S.mv.getD 0 := by
    unfold mvI
    rcases S.mv with _ | m
    · simp
    · simp
  obtain ⟨gv, hgv⟩ : ∃ x, nm (gen K S f) = x := ⟨_, rfl⟩
  obtain ⟨c, hcc⟩ : ∃ c, cls K S f = c := ⟨_, rfl⟩
  rw [hgv, hcc]
  clear n0 n1 n2 hS hf R
  go_enter Try.func23, Try.ntmps23
  go_upto_region 1 with fail
  generalize ((w.alloc (.cells (dcs S).toArray 34)).alloc (.cells f.cs.toArray 45)) = x1 at *
  have HS0 : Hid (Blk x1.drew w.heap.size 34 (dcs S) ∧ Blk x1.drew (w.heap.size + 1) 45 f.cs) := ⟨K1.out, K2.out⟩
  have W2 : Hid (Below w.heap.size w x1.drew) := W1.out.drew
  clear K1 K2 W1
  refine wp_region_held_drew (S := fun W => Blk W w.heap.size 34 (dcs S) ∧ Blk W (w.heap.size + 1) 45 f.cs) (by kernel_rfl) ?_ (fun _ => ?_)
  · exact HS0.out
  generalize x1.drew = x0 at *
  refine wpAnyH_take (i := 0) (oi := ⟨some 8, _, _, _, _, _⟩) (v := ?_) rfl (by kernel_rfl) (by kernel_rfl) (by kernel_rfl) (fun _ _ _ h => h) (Or.inl ⟨by rfl, ?_⟩) HS0.out ?_
  rotate_left
  · (intro W hSW; clear hSW; go_simp)
    first | done | (with_reducible rfl)
  try simp only [Act.put, List.setIfInBounds_toArray, List.set_cons_zero, List.set_cons_succ]
  refine wpAnyH_take (i := 1) (oi := ⟨some 9, _, _, _, _, _⟩) (v := .int .i64 1) rfl (by kernel_rfl) (by kernel_rfl) (by kernel_rfl) (fun _ _ _ h => h) (Or.inl ⟨by rfl, ?_⟩) HS0.out ?_
  · (intro W hSW; obtain ⟨d0, d1, d2, d3⟩ := dcells hSW.1; rw [ho] at d1; clear hSW; go_simp)
    all_goals rfl
  try simp only [Act.put, List.setIfInBounds_toArray, List.set_cons_zero, List.set_cons_succ]
  refine wpAnyH_take (i := 2) (oi := ⟨some 10, _, _, _, _, _⟩) (v := ?_) rfl (by kernel_rfl) (by kernel_rfl) (by kernel_rfl) (fun _ _ _ h => h) (Or.inl ⟨by rfl, ?_⟩) HS0.out ?_
  rotate_left
  · (intro W hSW; clear hSW; go_simp)
    first | done | (with_reducible rfl)
  try simp only [Act.put, List.setIfInBounds_toArray, List.set_cons_zero, List.set_cons_succ]
  refine wpAnyH_take (i := 3) (oi := ⟨some 11, _, _, _, _, _⟩) (v := ?_) rfl (by kernel_rfl) (by kernel_rfl) (by kernel_rfl) (fun _ _ _ h => h) (Or.inl ⟨by rfl, ?_⟩) HS0.out ?_
  rotate_left
  · (intro W hSW; clear hSW; go_simp)
    first | done | (with_reducible rfl)
  try simp only [Act.put, List.setIfInBounds_toArray, List.set_cons_zero, List.set_cons_succ]
  refine wpAnyH_take (i := 4) (oi := ⟨some 12, _, _, _, _, _⟩) (v := .agg (S.key true).cs.toArray) rfl (by kernel_rfl) (by kernel_rfl) (by kernel_rfl) (fun _ _ _ h => h) (yields_key (by rfl) (.tmp 11) rfl _ 17 rfl (S.key true) (fun _ h => dkey h.1 true)) HS0.out ?_
  try simp only [Act.put, List.setIfInBounds_toArray, List.set_cons_zero, List.set_cons_succ]
  refine wpAnyH_take (i := 5) (oi := ⟨some 13, _, _, _, _, _⟩) (v := .agg f.cs.toArray) rfl (by kernel_rfl) (by kernel_rfl) (by kernel_rfl) (fun _ _ _ h => h) (yields_flo (by rfl) (.tmp 3) rfl _ 0 rfl f (fun _ h => whole_at h.2)) HS0.out ?_
  try simp only [Act.put, List.setIfInBounds_toArray, List.set_cons_zero, List.set_cons_succ]
  refine wpAnyH_take (i := 6) (oi := ⟨some 14, _, _, _, _, _⟩) (v := ?_) rfl (by kernel_rfl) (by kernel_rfl) (by kernel_rfl) (fun _ _ _ h => h) (Or.inl ⟨by rfl, ?_⟩) HS0.out ?_
  rotate_left
  · (intro W hSW; clear hSW; go_simp)
    first | done | (with_reducible rfl)
  try simp only [Act.put, List.setIfInBounds_toArray, List.set_cons_zero, List.set_cons_succ]
  refine wpAnyH_take (i := 7) (oi := ⟨some 15, _, _, _, _, _⟩) (v := .int .i64 (S.n : Nat)) rfl (by kernel_rfl) (by kernel_rfl) (by kernel_rfl) (fun _ _ _ h => h) (Or.inl ⟨by rfl, ?_⟩) HS0.out ?_
  · (intro W hSW; obtain ⟨d0, d1, d2, d3⟩ := dcells hSW.1; clear hSW; go_simp)
  try simp only [Act.put, List.setIfInBounds_toArray, List.set_cons_zero, List.set_cons_succ]
  refine wpAnyH_ready (rs := [8]) (by kernel_rfl) (by simp) ?_
  refine AllReadyH.cons (o := ⟨some 16, _, _, _, _, _⟩) rfl (fun K hK => ?_) AllReadyH.nil
  go_simp
  refine (HB.out _).mono ?_
  rintro e x1 ⟨rfl, hb⟩
  have HS1 : Hid (Blk x1 w.heap.size 34 (dcs S) ∧ Blk x1 (w.heap.size + 1) 45 f.cs) := ⟨HS0.out.1.below hb, HS0.out.2.below hb⟩
  have W3 : Hid (Below w.heap.size w x1) := W2.out.trans (hb.mono W2.out.size)
  clear hb W2 HS0
  go_simp
  refine hK.out _ _ ?_ (fun _ => ?_)
  · exact HS1.out
  clear hK K
  try simp only [Act.put, List.setIfInBounds_toArray, List.set_cons_zero, List.set_cons_succ]
  refine wpAnyH_take (i := 9) (oi := ⟨some 6, _, _, _, _, _⟩) (v := ?_) rfl (by kernel_rfl) (by kernel_rfl) (by kernel_rfl) (fun _ _ _ h => h) (Or.inl ⟨by rfl, ?_⟩) HS1.out ?_
  rotate_left
  · (intro W hSW; clear hSW; go_simp)
    first | done | (with_reducible rfl)
  try simp only [Act.put, List.setIfInBounds_toArray, List.set_cons_zero, List.set_cons_succ]
  refine wpAnyH_done (by kernel_rfl) ?_ _
  by_cases hm : K.bk (S.key true) f S.n < S.mv.getD 0
  · rw [if_pos hm] at hg
    rw [hg] at hc hgv
    have hg2 : gv = 0 := hgv.symm
    subst hg2
    have i1 : ¬ mvI S ≤ ((K.bk (S.key true) f S.n : Nat) : Int) := fun h => hmv.1 h hm
    rw [hcc] at hc
    have hc1 : ((K.bk (S.key false) f S.n : Nat) : Int) = (c : Int) := by
      rw [hc]
      show _ = ((0 * S.n + _ : Nat) : Int)
      omega
    have hc2 : c < 200 := by
      rw [hc]
      show 0 * S.n + _ < 200
      omega
    obtain ⟨d0, d1, d2, d3⟩ := dcells HS1.out.1
    rw [ho, show ((nm true : Nat) : Int) = 1 from rfl] at d1
    clear hcc hc hg hgv hmv hm
    generalize K.bk (S.key true) f S.n = bo at *
    go_upto_region 3 with fail
    go_upto_region 5 with fail
    clear d0 d1 d2 d3
    generalize K.bk (S.key false) f S.n = bn at *
    go_wp2_with fail
    have HT0 : Hid (Blk x1.drew w.heap.size 34 (dcs S) ∧ Blk x1.drew (w.heap.size + 1) 45 f.cs) := ⟨HS1.out.1, HS1.out.2⟩
    have W4 : Hid (Below w.heap.size w x1.drew) := W3.out.drew
    clear W3 HS1
    refine wp_region_held_drew (S := fun W => Blk W w.heap.size 34 (dcs S) ∧ Blk W (w.heap.size + 1) 45 f.cs) (by kernel_rfl) ?_ (fun _ => ?_)
    · exact HT0.out
    generalize x1.drew = y0 at *
    refine wpAnyH_take (i := 0) (oi := ⟨some 33, _, _, _, _, _⟩) (v := ?_) rfl (by kernel_rfl) (by kernel_rfl) (by kernel_rfl) (fun _ _ _ h => h) (Or.inl ⟨by rfl, ?_⟩) HT0.out ?_
    rotate_left
    · (intro W hSW; clear hSW; go_simp)
      first | done | (with_reducible rfl)
    try simp only [Act.put, List.setIfInBounds_toArray, List.set_cons_zero, List.set_cons_succ]
    refine wpAnyH_take (i := 1) (oi := ⟨some 34, _, _, _, _, _⟩) (v := ?_) rfl (by kernel_rfl) (by kernel_rfl) (by kernel_rfl) (fun _ _ _ h => h) (Or.inl ⟨by rfl, ?_⟩) HT0.out ?_
    rotate_left
    · (intro W hSW; clear hSW; go_simp)
      first | done | (with_reducible rfl)
    try simp only [Act.put, List.setIfInBounds_toArray, List.set_cons_zero, List.set_cons_succ]
    refine wpAnyH_take (i := 2) (oi := ⟨some 35, _, _, _, _, _⟩) (v := ?_) rfl (by kernel_rfl) (by kernel_rfl) (by kernel_rfl) (fun _ _ _ h => h) (Or.inl ⟨by rfl, ?_⟩) HT0.out ?_
    rotate_left
    · (intro W hSW; clear hSW; go_simp)
      first | done | (with_reducible rfl)
    try simp only [Act.put, List.setIfInBounds_toArray, List.set_cons_zero, List.set_cons_succ]
    refine wpAnyH_take (i := 3) (oi := ⟨some 36, _, _, _, _, _⟩) (v := .int .i64 (S.n : Nat)) rfl (by kernel_rfl) (by kernel_rfl) (by kernel_rfl) (fun _ _ _ h => h) (Or.inl ⟨by rfl, ?_⟩) HT0.out ?_
    · (intro W hSW; obtain ⟨d0, d1, d2, d3⟩ := dcells hSW.1; clear hSW; go_simp)
    try simp only [Act.put, List.setIfInBounds_toArray, List.set_cons_zero, List.set_cons_succ]
    refine wpAnyH_take (i := 4) (oi := ⟨some 37, _, _, _, _, _⟩) (v := .int .i64 0) rfl (by kernel_rfl) (by kernel_rfl) (by kernel_rfl) (fun _ _ _ h => h) (Or.inl ⟨by rfl, ?_⟩) HT0.out ?_
    · (intro W hSW; clear hSW; go_simp)
      all_goals (rw [IntKind.wrap_i64]; omega)
    try simp only [Act.put, List.setIfInBounds_toArray, List.set_cons_zero, List.set_cons_succ]
    refine wpAnyH_take (i := 5) (oi := ⟨some 38, _, _, _, _, _⟩) (v := ?_) rfl (by kernel_rfl) (by kernel_rfl) (by kernel_rfl) (fun _ _ _ h => h) (Or.inl ⟨by rfl, ?_⟩) HT0.out ?_
    rotate_left
    · (intro W hSW; clear hSW; go_simp)
      first | done | (with_reducible rfl)
    try simp only [Act.put, List.setIfInBounds_toArray, List.set_cons_zero, List.set_cons_succ]
    refine wpAnyH_take (i := 6) (oi := ⟨some 39, _, _, _, _, _⟩) (v := ?_) rfl (by kernel_rfl) (by kernel_rfl) (by kernel_rfl) (fun _ _ _ h => h) (Or.inl ⟨by rfl, ?_⟩) HT0.out ?_
    rotate_left
    · (intro W hSW; clear hSW; go_simp)
      first | done | (with_reducible rfl)
    try simp only [Act.put, List.setIfInBounds_toArray, List.set_cons_zero, List.set_cons_succ]
    refine wpAnyH_take (i := 7) (oi := ⟨some 40, _, _, _, _, _⟩) (v := ?_) rfl (by kernel_rfl) (by kernel_rfl) (by kernel_rfl) (fun _ _ _ h => h) (Or.inl ⟨by rfl, ?_⟩) HT0.out ?_
    rotate_left
    · (intro W hSW; clear hSW; go_simp)
      first | done | (with_reducible rfl)
    try simp only [Act.put, List.setIfInBounds_toArray, List.set_cons_zero, List.set_cons_succ]
    refine wpAnyH_take (i := 8) (oi := ⟨some 41, _, _, _, _, _⟩) (v := .agg (S.key false).cs.toArray) rfl (by kernel_rfl) (by kernel_rfl) (by kernel_rfl) (fun _ _ _ h => h) (yields_key (by rfl) (.tmp 40) rfl _ 1 rfl (S.key false) (fun _ h => dkey h.1 false)) HT0.out ?_
    try simp only [Act.put, List.setIfInBounds_toArray, List.set_cons_zero, List.set_cons_succ]
    refine wpAnyH_take (i := 9) (oi := ⟨some 42, _, _, _, _, _⟩) (v := .agg f.cs.toArray) rfl (by kernel_rfl) (by kernel_rfl) (by kernel_rfl) (fun _ _ _ h => h) (yields_flo (by rfl) (.tmp 3) rfl _ 0 rfl f (fun _ h => whole_at h.2)) HT0.out ?_
    try simp only [Act.put, List.setIfInBounds_toArray, List.set_cons_zero, List.set_cons_succ]
    refine wpAnyH_take (i := 10) (oi := ⟨some 43, _, _, _, _, _⟩) (v := ?_) rfl (by kernel_rfl) (by kernel_rfl) (by kernel_rfl) (fun _ _ _ h => h) (Or.inl ⟨by rfl, ?_⟩) HT0.out ?_
    rotate_left
    · (intro W hSW; clear hSW; go_simp)
      first | done | (with_reducible rfl)
    try simp only [Act.put, List.setIfInBounds_toArray, List.set_cons_zero, List.set_cons_succ]
    refine wpAnyH_take (i := 11) (oi := ⟨some 44, _, _, _, _, _⟩) (v := .int .i64 (S.n : Nat)) rfl (by kernel_rfl) (by kernel_rfl) (by kernel_rfl) (fun _ _ _ h => h) (Or.inl ⟨by rfl, ?_⟩) HT0.out ?_
    · (intro W hSW; obtain ⟨d0, d1, d2, d3⟩ := dcells hSW.1; clear hSW; go_simp)
    try simp only [Act.put, List.setIfInBounds_toArray, List.set_cons_zero, List.set_cons_succ]
    refine wpAnyH_ready (rs := [12]) (by kernel_rfl) (by simp) ?_
    refine AllReadyH.cons (o := ⟨some 45, _, _, _, _, _⟩) rfl (fun K hK => ?_) AllReadyH.nil
    go_simp
    refine (HB2.out _).mono ?_
    rintro e y1 ⟨rfl, hb⟩
    have HT1 : Hid (Blk y1 w.heap.size 34 (dcs S) ∧ Blk y1 (w.heap.size + 1) 45 f.cs) := ⟨HT0.out.1.below hb, HT0.out.2.below hb⟩
    have W5 : Hid (Below w.heap.size w y1) := W4.out.trans (hb.mono W4.out.size)
    clear hb W4 HT0
    go_simp
    refine hK.out _ _ ?_ (fun _ => ?_)
    · exact HT1.out
    clear hK K
    try simp only [Act.put, List.setIfInBounds_toArray, List.set_cons_zero, List.set_cons_succ]
    refine wpAnyH_take (i := 13) (oi := ⟨some 46, _, _, _, _, _⟩) (v := .int .i64 (c : Nat)) rfl (by kernel_rfl) (by kernel_rfl) (by kernel_rfl) (fun _ _ _ h => h) (Or.inl ⟨by rfl, ?_⟩) HT1.out ?_
    · (intro W hSW; clear hSW; go_simp)
      all_goals (rw [IntKind.wrap_i64]; omega)
    try simp only [Act.put, List.setIfInBounds_toArray, List.set_cons_zero, List.set_cons_succ]
    refine wpAnyH_take (i := 14) (oi := ⟨some 4, _, _, _, _, _⟩) (v := ?_) rfl (by kernel_rfl) (by kernel_rfl) (by kernel_rfl) (fun _ _ _ h => h) (Or.inl ⟨by rfl, ?_⟩) HT1.out ?_
    rotate_left
    · (intro W hSW; clear hSW; go_simp)
      first | done | (with_reducible rfl)
    try simp only [Act.put, List.setIfInBounds_toArray, List.set_cons_zero, List.set_cons_succ]
    refine wpAnyH_take (i := 15) (oi := ⟨some 5, _, _, _, _, _⟩) (v := ?_) rfl (by kernel_rfl) (by kernel_rfl) (by kernel_rfl) (fun _ _ _ h => h) (Or.inl ⟨by rfl, ?_⟩) HT1.out ?_
    rotate_left
    · (intro W hSW; clear hSW; go_simp)
      first | done | (with_reducible rfl)
    try simp only [Act.put, List.setIfInBounds_toArray, List.set_cons_zero, List.set_cons_succ]
    refine wpAnyH_done (by kernel_rfl) ?_ _
    clear HT1
    go_wp2_with fail
    refine bodyPost_ret (v := .tuple #[.int .i64 0, .int .i64 (c : Nat)]) (by simp [results, Try.results23]) rfl ?_
    exact ⟨rfl, W5.out⟩
  · rw [if_neg hm] at hg
    rw [hg] at hc hgv
    have hg2 : gv = 1 := hgv.symm
    subst hg2
    have i1 : mvI S ≤ ((K.bk (S.key true) f S.n : Nat) : Int) := hmv.2 hm
    have i2 : decide (mvI S ≤ ((K.bk (S.key true) f S.n : Nat) : Int)) = true := decide_eq_true i1
    rw [hcc] at hc
    have hc1 : ((S.n : Nat) : Int) + ((K.bk (S.key true) f S.n : Nat) : Int) = (c : Int) := by
      rw [hc]
      show _ = ((1 * S.n + _ : Nat) : Int)
      omega
    have d0 : ∀ M, (x1.drewN M).cell? ⟨w.heap.size, 0, none⟩ = some (.int .i64 (S.n : Nat)) := fun M => (dcells HS1.out.1).1
    have d1 : ∀ M, (x1.drewN M).cell? ⟨w.heap.size, 33, none⟩ = some (.int .i64 1) := fun M => by
      have := (dcells HS1.out.1).2.1
      rw [ho] at this
      exact this
    have d2 : ∀ M, (x1.drewN M).cell? ⟨w.heap.size, 34, none⟩ = some (.int .i64 (mvI S)) := fun M => (dcells HS1.out.1).2.2.1
    have d2' := d2 0
    have d2'' : x1.cell? ⟨w.heap.size, 34, none⟩ = some (.int .i64 (mvI S)) := (dcells HS1.out.1).2.2.1
    clear hcc hc hg hgv hmv hm hlt2 HB2
    generalize K.bk (S.key true) f S.n = bo at *
    go_upto_region 3 with fail
    go_quiet (fail)
    go_wp2
    refine bodyPost_ret (v := .tuple #[.int .i64 1, .int .i64 (c : Nat)]) (by simp [results, Try.results23]) rfl ?_
    exact ⟨rfl, below_drewN W3.out _⟩
theorem dwhere_ (K : Ks) (R : RefK K) (S : St) (f : Flo) (w : World) (hS : S.Ok) (hf : f.Ok) : Calls Try.prog 23 #[.agg (dcs S).toArray, .agg f.cs.toArray] w (Ans (.tuple #[.int .i64 (nm (gen K S f) : Nat), .int .i64 (cls K S f : Nat)]) w) := by
  rcases ho : S.o with _ | _
  · exact dwhere_false K R S f w hS hf ho
  · exact dwhere_true K R S f w hS hf ho
end Go.Proofs.Ytfhlgmmfknfamaa
