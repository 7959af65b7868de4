/- The program's gens: where a flow is. Conditions: those of each theorem. -/
import Derived.Test.YtfhlgmmfknfamaaGFlow
namespace Go.Proofs.Ytfhlgmmfknfamaa
open Go.RowKit

set_option maxRecDepth 100000 in
set_option maxHeartbeats 2000000 in
theorem where_new_false (g n : Nat) (p q : Key) (v : Bool) (m e : Nat) (f : Flo) (w : World) (h : Blk w g 56 (gcs n p q false v m e)) (hk : (kof p q false).Ok) (hf : f.Ok) (h1 : 1 ≤ n) (h2 : n ≤ 64) (hn : (kof p q true).Ok) (hm : kdKs.bk (kof p q false) f n < m) : Calls Try.prog 17 #[.pointer (some ⟨g, 0, none⟩), .agg f.cs.toArray] w (Ans (.tuple #[.int .i64 1, .int .i64 (nm true * n + kdKs.bk (kof p q true) f n : Nat)]) w) := by
  have K1 := Lib.hid (h.alloc (.cells f.cs.toArray 45))
  have K2 := Lib.hid (Blk.new w 45 f.cs)
  have W1 : Hid (Below w.heap.size w (w.alloc (.cells f.cs.toArray 45))) := (Below.refl _ w).alloc (Nat.le_refl _) _
  have HB := Lib.hid (fun W (hW : Blk W g 56 (gcs n p q false v m e)) => bucket_false g n p q false v m e f W hW hk hf h1 h2)
  have HM := Lib.hid (fun W (hW : Blk W g 56 (gcs n p q false v m e)) => isMoved_ g n p q false v m e (kdKs.bk (kof p q false) f n) W hW)
  rw [show decide (kdKs.bk (kof p q false) f n < m) = true by simp only [hm, decide_true]] at HM
  have HO := Lib.hid (fun W (hW : Blk W g 56 (gcs n p q false v m e)) => other_false g n p q v m e W hW)
  have HN := Lib.hid (fun W (hW : Blk W g 56 (gcs n p q false v m e)) => bucket_true g n p q false v m e f W hW hn hf h1 h2)
  have hb := kdKs.lt (kof p q true) f n h1
  have HC := Lib.hid (fun W (hW : Blk W g 56 (gcs n p q false v m e)) => class_true g n p q false v m e (kdKs.bk (kof p q true) f n) W hW h2 (by omega))
  generalize kdKs.bk (kof p q false) f n = c at *
  generalize kdKs.bk (kof p q true) f n = c2 at *
  clear h hk hf h1 h2 hn hm hb
  go_enter Try.func17, Try.ntmps17
  go_upto_region 3 with fail
  generalize (w.alloc (.cells f.cs.toArray 45)) = x1 at *
  go_wp2_with fail
  have HS0 : Hid (Blk x1.drew g 56 (gcs n p q false v m e) ∧ Blk x1.drew w.heap.size 45 f.cs) := ⟨K1.out, K2.out⟩
  have W2 : Hid (Below w.heap.size w x1.drew) := W1.out.drew
  clear K1 K2 W1
  refine wp_region_held_drew (S := fun W => Blk W g 56 (gcs n p q false v m e) ∧ Blk W w.heap.size 45 f.cs) (by kernel_rfl) ?_ (fun _ => ?_)
  · exact HS0.out
  generalize x1.drew = x0 at *
  refine wpAnyH_take (i := 0) (oi := ⟨some 9, _, _, _, _, _⟩) (v := ?_) rfl (by kernel_rfl) (by kernel_rfl) (by kernel_rfl) (fun _ _ _ h => h) (Or.inl ⟨by rfl, ?_⟩) HS0.out ?_
  rotate_left
  · (intro W hSW; clear hSW; go_simp)
    first | done | (with_reducible rfl)
  try simp only [Act.put, List.setIfInBounds_toArray, List.set_cons_zero, List.set_cons_succ]
  refine wpAnyH_take (i := 1) (oi := ⟨some 10, _, _, _, _, _⟩) (v := ?_) rfl (by kernel_rfl) (by kernel_rfl) (by kernel_rfl) (fun _ _ _ h => h) (Or.inl ⟨by rfl, ?_⟩) HS0.out ?_
  rotate_left
  · (intro W hSW; clear hSW; go_simp)
    first | done | (with_reducible rfl)
  try simp only [Act.put, List.setIfInBounds_toArray, List.set_cons_zero, List.set_cons_succ]
  refine wpAnyH_take (i := 2) (oi := ⟨some 11, _, _, _, _, _⟩) (v := ?_) rfl (by kernel_rfl) (by kernel_rfl) (by kernel_rfl) (fun _ _ _ h => h) (Or.inl ⟨by rfl, ?_⟩) HS0.out ?_
  rotate_left
  · (intro W hSW; clear hSW; go_simp)
    first | done | (with_reducible rfl)
  try simp only [Act.put, List.setIfInBounds_toArray, List.set_cons_zero, List.set_cons_succ]
  refine wpAnyH_take (i := 3) (oi := ⟨some 12, _, _, _, _, _⟩) (v := ?_) rfl (by kernel_rfl) (by kernel_rfl) (by kernel_rfl) (fun _ _ _ h => h) (Or.inl ⟨by rfl, ?_⟩) HS0.out ?_
  rotate_left
  · (intro W hSW; clear hSW; go_simp)
    first | done | (with_reducible rfl)
  try simp only [Act.put, List.setIfInBounds_toArray, List.set_cons_zero, List.set_cons_succ]
  refine wpAnyH_take (i := 4) (oi := ⟨some 13, _, _, _, _, _⟩) (v := .int .i64 0) rfl (by kernel_rfl) (by kernel_rfl) (by kernel_rfl) (fun _ _ _ h => h) (Or.inl ⟨by rfl, ?_⟩) HS0.out ?_
  · (intro W hSW; have d1 := gcell_f hSW.1; clear hSW; go_simp)
  try simp only [Act.put, List.setIfInBounds_toArray, List.set_cons_zero, List.set_cons_succ]
  refine wpAnyH_take (i := 5) (oi := ⟨some 14, _, _, _, _, _⟩) (v := .agg f.cs.toArray) rfl (by kernel_rfl) (by kernel_rfl) (by kernel_rfl) (fun _ _ _ h => h) (yields_flo (by rfl) (.tmp 3) rfl _ 0 rfl f (fun _ h => whole_at h.2)) HS0.out ?_
  try simp only [Act.put, List.setIfInBounds_toArray, List.set_cons_zero, List.set_cons_succ]
  refine wpAnyH_ready (rs := [6]) (by kernel_rfl) (by simp) ?_
  refine AllReadyH.cons (o := ⟨some 15, _, _, _, _, _⟩) rfl (fun K hK => ?_) AllReadyH.nil
  go_simp
  refine (HB.out _ HS0.out.1).mono ?_
  rintro e x1 ⟨rfl, hb⟩
  have HS1 : Hid (Blk x1 g 56 (gcs n p q false v m e) ∧ Blk x1 w.heap.size 45 f.cs) := ⟨HS0.out.1.below hb, HS0.out.2.below hb⟩
  have W3 : Hid (Below w.heap.size w x1) := W2.out.trans (hb.mono W2.out.size)
  clear hb W2 HS0
  go_simp
  refine hK.out _ _ ?_ (fun _ => ?_)
  · exact HS1.out
  clear hK K
  try simp only [Act.put, List.setIfInBounds_toArray, List.set_cons_zero, List.set_cons_succ]
  refine wpAnyH_take (i := 7) (oi := ⟨some 6, _, _, _, _, _⟩) (v := ?_) rfl (by kernel_rfl) (by kernel_rfl) (by kernel_rfl) (fun _ _ _ h => h) (Or.inl ⟨by rfl, ?_⟩) HS1.out ?_
  rotate_left
  · (intro W hSW; clear hSW; go_simp)
    first | done | (with_reducible rfl)
  try simp only [Act.put, List.setIfInBounds_toArray, List.set_cons_zero, List.set_cons_succ]
  refine wpAnyH_done (by kernel_rfl) ?_ _
  go_upto_region 5 with (go_at_call 27; (with_reducible refine (HM.out _ HS1.out.1).mono ?_); rintro e x9 ⟨rfl, rfl⟩)
  · go_wp2_with fail
    have HT0 : Hid (Blk x1.drew g 56 (gcs n p q false v m e) ∧ Blk x1.drew w.heap.size 45 f.cs) := ⟨HS1.out.1, HS1.out.2⟩
    have W4 : Hid (Below w.heap.size w x1.drew) := W3.out.drew
    clear W3 HS1
    refine wp_region_held_drew (S := fun W => Blk W g 56 (gcs n p q false v m e) ∧ Blk W w.heap.size 45 f.cs) (by kernel_rfl) ?_ (fun _ => ?_)
    · exact HT0.out
    generalize x1.drew = y0 at *
    refine wpAnyH_take (i := 0) (oi := ⟨some 19, _, _, _, _, _⟩) (v := ?_) rfl (by kernel_rfl) (by kernel_rfl) (by kernel_rfl) (fun _ _ _ h => h) (Or.inl ⟨by rfl, ?_⟩) HT0.out ?_
    rotate_left
    · (intro W hSW; clear hSW; go_simp)
      first | done | (with_reducible rfl)
    try simp only [Act.put, List.setIfInBounds_toArray, List.set_cons_zero, List.set_cons_succ]
    refine wpAnyH_take (i := 2) (oi := ⟨some 21, _, _, _, _, _⟩) (v := ?_) rfl (by kernel_rfl) (by kernel_rfl) (by kernel_rfl) (fun _ _ _ h => h) (Or.inl ⟨by rfl, ?_⟩) HT0.out ?_
    rotate_left
    · (intro W hSW; clear hSW; go_simp)
      first | done | (with_reducible rfl)
    try simp only [Act.put, List.setIfInBounds_toArray, List.set_cons_zero, List.set_cons_succ]
    refine wpAnyH_take (i := 3) (oi := ⟨some 22, _, _, _, _, _⟩) (v := ?_) rfl (by kernel_rfl) (by kernel_rfl) (by kernel_rfl) (fun _ _ _ h => h) (Or.inl ⟨by rfl, ?_⟩) HT0.out ?_
    rotate_left
    · (intro W hSW; clear hSW; go_simp)
      first | done | (with_reducible rfl)
    try simp only [Act.put, List.setIfInBounds_toArray, List.set_cons_zero, List.set_cons_succ]
    refine wpAnyH_take (i := 5) (oi := ⟨some 24, _, _, _, _, _⟩) (v := ?_) rfl (by kernel_rfl) (by kernel_rfl) (by kernel_rfl) (fun _ _ _ h => h) (Or.inl ⟨by rfl, ?_⟩) HT0.out ?_
    rotate_left
    · (intro W hSW; clear hSW; go_simp)
      first | done | (with_reducible rfl)
    try simp only [Act.put, List.setIfInBounds_toArray, List.set_cons_zero, List.set_cons_succ]
    refine wpAnyH_take (i := 6) (oi := ⟨some 25, _, _, _, _, _⟩) (v := ?_) rfl (by kernel_rfl) (by kernel_rfl) (by kernel_rfl) (fun _ _ _ h => h) (Or.inl ⟨by rfl, ?_⟩) HT0.out ?_
    rotate_left
    · (intro W hSW; clear hSW; go_simp)
      first | done | (with_reducible rfl)
    try simp only [Act.put, List.setIfInBounds_toArray, List.set_cons_zero, List.set_cons_succ]
    refine wpAnyH_take (i := 8) (oi := ⟨some 27, _, _, _, _, _⟩) (v := .agg f.cs.toArray) rfl (by kernel_rfl) (by kernel_rfl) (by kernel_rfl) (fun _ _ _ h => h) (yields_flo (by rfl) (.tmp 3) rfl _ 0 rfl f (fun _ h => whole_at h.2)) HT0.out ?_
    try simp only [Act.put, List.setIfInBounds_toArray, List.set_cons_zero, List.set_cons_succ]
    refine wpAnyH_ready (rs := [1]) (by kernel_rfl) (by simp) ?_
    refine AllReadyH.cons (o := ⟨some 20, _, _, _, _, _⟩) rfl (fun K hK => ?_) AllReadyH.nil
    go_simp
    refine (HO.out _ HT0.out.1).mono ?_
    rintro e x1 ⟨rfl, rfl⟩
    have HT1 := HT0
    clear HT0
    go_simp
    refine hK.out _ _ ?_ (fun _ => ?_)
    · exact HT1.out
    clear hK K
    try simp only [Act.put, List.setIfInBounds_toArray, List.set_cons_zero, List.set_cons_succ]
    refine wpAnyH_ready (rs := [4]) (by kernel_rfl) (by simp) ?_
    refine AllReadyH.cons (o := ⟨some 23, _, _, _, _, _⟩) rfl (fun K hK => ?_) AllReadyH.nil
    go_simp
    refine (HO.out _ HT1.out.1).mono ?_
    rintro e x2 ⟨rfl, rfl⟩
    have HT2 := HT1
    clear HT1
    go_simp
    refine hK.out _ _ ?_ (fun _ => ?_)
    · exact HT2.out
    clear hK K
    try simp only [Act.put, List.setIfInBounds_toArray, List.set_cons_zero, List.set_cons_succ]
    refine wpAnyH_ready (rs := [7]) (by kernel_rfl) (by simp) ?_
    refine AllReadyH.cons (o := ⟨some 26, _, _, _, _, _⟩) rfl (fun K hK => ?_) AllReadyH.nil
    go_simp
    refine (HO.out _ HT2.out.1).mono ?_
    rintro e x3 ⟨rfl, rfl⟩
    have HT3 := HT2
    clear HT2
    go_simp
    refine hK.out _ _ ?_ (fun _ => ?_)
    · exact HT3.out
    clear hK K
    try simp only [Act.put, List.setIfInBounds_toArray, List.set_cons_zero, List.set_cons_succ]
    refine wpAnyH_ready (rs := [9]) (by kernel_rfl) (by simp) ?_
    refine AllReadyH.cons (o := ⟨some 28, _, _, _, _, _⟩) rfl (fun K hK => ?_) AllReadyH.nil
    go_simp
    refine (HN.out _ HT3.out.1).mono ?_
    rintro e y1 ⟨rfl, hb⟩
    have HT4 : Hid (Blk y1 g 56 (gcs n p q false v m e) ∧ Blk y1 w.heap.size 45 f.cs) := ⟨HT3.out.1.below hb, HT3.out.2.below hb⟩
    have W5 : Hid (Below w.heap.size w y1) := W4.out.trans (hb.mono W4.out.size)
    clear hb W4 HT3
    go_simp
    refine hK.out _ _ ?_ (fun _ => ?_)
    · exact HT4.out
    clear hK K
    try simp only [Act.put, List.setIfInBounds_toArray, List.set_cons_zero, List.set_cons_succ]
    refine wpAnyH_ready (rs := [10]) (by kernel_rfl) (by simp) ?_
    refine AllReadyH.cons (o := ⟨some 29, _, _, _, _, _⟩) rfl (fun K hK => ?_) AllReadyH.nil
    go_simp
    refine (HC.out _ HT4.out.1).mono ?_
    rintro e x5 ⟨rfl, rfl⟩
    have HT5 := HT4
    clear HT4
    go_simp
    refine hK.out _ _ ?_ (fun _ => ?_)
    · exact HT5.out
    clear hK K
    try simp only [Act.put, List.setIfInBounds_toArray, List.set_cons_zero, List.set_cons_succ]
    refine wpAnyH_take (i := 11) (oi := ⟨some 4, _, _, _, _, _⟩) (v := ?_) rfl (by kernel_rfl) (by kernel_rfl) (by kernel_rfl) (fun _ _ _ h => h) (Or.inl ⟨by rfl, ?_⟩) HT5.out ?_
    rotate_left
    · (intro W hSW; clear hSW; go_simp)
      first | done | (with_reducible rfl)
    try simp only [Act.put, List.setIfInBounds_toArray, List.set_cons_zero, List.set_cons_succ]
    refine wpAnyH_take (i := 12) (oi := ⟨some 5, _, _, _, _, _⟩) (v := ?_) rfl (by kernel_rfl) (by kernel_rfl) (by kernel_rfl) (fun _ _ _ h => h) (Or.inl ⟨by rfl, ?_⟩) HT5.out ?_
    rotate_left
    · (intro W hSW; clear hSW; go_simp)
      first | done | (with_reducible rfl)
    try simp only [Act.put, List.setIfInBounds_toArray, List.set_cons_zero, List.set_cons_succ]
    refine wpAnyH_done (by kernel_rfl) ?_ _
    go_wp2_with fail
    refine bodyPost_ret (v := .tuple #[.int .i64 1, .int .i64 ((nm true * n + c2 : Nat) : Int)]) (by simp [results, Try.results17]) rfl ?_
    exact ⟨rfl, W5.out⟩
set_option maxRecDepth 100000 in
set_option maxHeartbeats 2000000 in
theorem where_old_false (g n : Nat) (p q : Key) (v : Bool) (m e : Nat) (f : Flo) (w : World) (h : Blk w g 56 (gcs n p q false v m e)) (hk : (kof p q false).Ok) (hf : f.Ok) (h1 : 1 ≤ n) (h2 : n ≤ 64) (hm : ¬ kdKs.bk (kof p q false) f n < m) : Calls Try.prog 17 #[.pointer (some ⟨g, 0, none⟩), .agg f.cs.toArray] w (Ans (.tuple #[.int .i64 0, .int .i64 (nm false * n + kdKs.bk (kof p q false) f n : Nat)]) w) := by
  have K1 := Lib.hid (h.alloc (.cells f.cs.toArray 45))
  have K2 := Lib.hid (Blk.new w 45 f.cs)
  have W1 : Hid (Below w.heap.size w (w.alloc (.cells f.cs.toArray 45))) := (Below.refl _ w).alloc (Nat.le_refl _) _
  have HB := Lib.hid (fun W (hW : Blk W g 56 (gcs n p q false v m e)) => bucket_false g n p q false v m e f W hW hk hf h1 h2)
  have HM := Lib.hid (fun W (hW : Blk W g 56 (gcs n p q false v m e)) => isMoved_ g n p q false v m e (kdKs.bk (kof p q false) f n) W hW)
  rw [show decide (kdKs.bk (kof p q false) f n < m) = false by simp only [hm, decide_false]] at HM
  have hb := kdKs.lt (kof p q false) f n h1
  have HD := Lib.hid (fun W (hW : Blk W g 56 (gcs n p q false v m e)) => class_false g n p q false v m e (kdKs.bk (kof p q false) f n) W hW h2 (by omega))
  generalize kdKs.bk (kof p q false) f n = c at *
  clear h hk hf h1 h2 hm hb
  go_enter Try.func17, Try.ntmps17
  go_upto_region 3 with fail
  generalize (w.alloc (.cells f.cs.toArray 45)) = x1 at *
  go_wp2_with fail
  have HS0 : Hid (Blk x1.drew g 56 (gcs n p q false v m e) ∧ Blk x1.drew w.heap.size 45 f.cs) := ⟨K1.out, K2.out⟩
  have W2 : Hid (Below w.heap.size w x1.drew) := W1.out.drew
  clear K1 K2 W1
  refine wp_region_held_drew (S := fun W => Blk W g 56 (gcs n p q false v m e) ∧ Blk W w.heap.size 45 f.cs) (by kernel_rfl) ?_ (fun _ => ?_)
  · exact HS0.out
  generalize x1.drew = x0 at *
  refine wpAnyH_take (i := 0) (oi := ⟨some 9, _, _, _, _, _⟩) (v := ?_) rfl (by kernel_rfl) (by kernel_rfl) (by kernel_rfl) (fun _ _ _ h => h) (Or.inl ⟨by rfl, ?_⟩) HS0.out ?_
  rotate_left
  · (intro W hSW; clear hSW; go_simp)
    first | done | (with_reducible rfl)
  try simp only [Act.put, List.setIfInBounds_toArray, List.set_cons_zero, List.set_cons_succ]
  refine wpAnyH_take (i := 1) (oi := ⟨some 10, _, _, _, _, _⟩) (v := ?_) rfl (by kernel_rfl) (by kernel_rfl) (by kernel_rfl) (fun _ _ _ h => h) (Or.inl ⟨by rfl, ?_⟩) HS0.out ?_
  rotate_left
  · (intro W hSW; clear hSW; go_simp)
    first | done | (with_reducible rfl)
  try simp only [Act.put, List.setIfInBounds_toArray, List.set_cons_zero, List.set_cons_succ]
  refine wpAnyH_take (i := 2) (oi := ⟨some 11, _, _, _, _, _⟩) (v := ?_) rfl (by kernel_rfl) (by kernel_rfl) (by kernel_rfl) (fun _ _ _ h => h) (Or.inl ⟨by rfl, ?_⟩) HS0.out ?_
  rotate_left
  · (intro W hSW; clear hSW; go_simp)
    first | done | (with_reducible rfl)
  try simp only [Act.put, List.setIfInBounds_toArray, List.set_cons_zero, List.set_cons_succ]
  refine wpAnyH_take (i := 3) (oi := ⟨some 12, _, _, _, _, _⟩) (v := ?_) rfl (by kernel_rfl) (by kernel_rfl) (by kernel_rfl) (fun _ _ _ h => h) (Or.inl ⟨by rfl, ?_⟩) HS0.out ?_
  rotate_left
  · (intro W hSW; clear hSW; go_simp)
    first | done | (with_reducible rfl)
  try simp only [Act.put, List.setIfInBounds_toArray, List.set_cons_zero, List.set_cons_succ]
  refine wpAnyH_take (i := 4) (oi := ⟨some 13, _, _, _, _, _⟩) (v := .int .i64 0) rfl (by kernel_rfl) (by kernel_rfl) (by kernel_rfl) (fun _ _ _ h => h) (Or.inl ⟨by rfl, ?_⟩) HS0.out ?_
  · (intro W hSW; have d1 := gcell_f hSW.1; clear hSW; go_simp)
  try simp only [Act.put, List.setIfInBounds_toArray, List.set_cons_zero, List.set_cons_succ]
  refine wpAnyH_take (i := 5) (oi := ⟨some 14, _, _, _, _, _⟩) (v := .agg f.cs.toArray) rfl (by kernel_rfl) (by kernel_rfl) (by kernel_rfl) (fun _ _ _ h => h) (yields_flo (by rfl) (.tmp 3) rfl _ 0 rfl f (fun _ h => whole_at h.2)) HS0.out ?_
  try simp only [Act.put, List.setIfInBounds_toArray, List.set_cons_zero, List.set_cons_succ]
  refine wpAnyH_ready (rs := [6]) (by kernel_rfl) (by simp) ?_
  refine AllReadyH.cons (o := ⟨some 15, _, _, _, _, _⟩) rfl (fun K hK => ?_) AllReadyH.nil
  go_simp
  refine (HB.out _ HS0.out.1).mono ?_
  rintro e x1 ⟨rfl, hb⟩
  have HS1 : Hid (Blk x1 g 56 (gcs n p q false v m e) ∧ Blk x1 w.heap.size 45 f.cs) := ⟨HS0.out.1.below hb, HS0.out.2.below hb⟩
  have W3 : Hid (Below w.heap.size w x1) := W2.out.trans (hb.mono W2.out.size)
  clear hb W2 HS0
  go_simp
  refine hK.out _ _ ?_ (fun _ => ?_)
  · exact HS1.out
  clear hK K
  try simp only [Act.put, List.setIfInBounds_toArray, List.set_cons_zero, List.set_cons_succ]
  refine wpAnyH_take (i := 7) (oi := ⟨some 6, _, _, _, _, _⟩) (v := ?_) rfl (by kernel_rfl) (by kernel_rfl) (by kernel_rfl) (fun _ _ _ h => h) (Or.inl ⟨by rfl, ?_⟩) HS1.out ?_
  rotate_left
  · (intro W hSW; clear hSW; go_simp)
    first | done | (with_reducible rfl)
  try simp only [Act.put, List.setIfInBounds_toArray, List.set_cons_zero, List.set_cons_succ]
  refine wpAnyH_done (by kernel_rfl) ?_ _
  go_upto_region 6 with (go_at_call 27; (with_reducible refine (HM.out _ HS1.out.1).mono ?_); rintro e x9 ⟨rfl, rfl⟩)
  · go_wp2_with fail
    have HT0 : Hid (Blk x1.drew g 56 (gcs n p q false v m e) ∧ Blk x1.drew w.heap.size 45 f.cs) := ⟨HS1.out.1, HS1.out.2⟩
    have W4 : Hid (Below w.heap.size w x1.drew) := W3.out.drew
    clear W3 HS1
    refine wp_region_held_drew (S := fun W => Blk W g 56 (gcs n p q false v m e) ∧ Blk W w.heap.size 45 f.cs) (by kernel_rfl) ?_ (fun _ => ?_)
    · exact HT0.out
    generalize x1.drew = y0 at *
    refine wpAnyH_take (i := 0) (oi := ⟨some 30, _, _, _, _, _⟩) (v := ?_) rfl (by kernel_rfl) (by kernel_rfl) (by kernel_rfl) (fun _ _ _ h => h) (Or.inl ⟨by rfl, ?_⟩) HT0.out ?_
    rotate_left
    · (intro W hSW; clear hSW; go_simp)
      first | done | (with_reducible rfl)
    try simp only [Act.put, List.setIfInBounds_toArray, List.set_cons_zero, List.set_cons_succ]
    refine wpAnyH_take (i := 1) (oi := ⟨some 31, _, _, _, _, _⟩) (v := ?_) rfl (by kernel_rfl) (by kernel_rfl) (by kernel_rfl) (fun _ _ _ h => h) (Or.inl ⟨by rfl, ?_⟩) HT0.out ?_
    rotate_left
    · (intro W hSW; clear hSW; go_simp)
      first | done | (with_reducible rfl)
    try simp only [Act.put, List.setIfInBounds_toArray, List.set_cons_zero, List.set_cons_succ]
    refine wpAnyH_take (i := 2) (oi := ⟨some 32, _, _, _, _, _⟩) (v := ?_) rfl (by kernel_rfl) (by kernel_rfl) (by kernel_rfl) (fun _ _ _ h => h) (Or.inl ⟨by rfl, ?_⟩) HT0.out ?_
    rotate_left
    · (intro W hSW; clear hSW; go_simp)
      first | done | (with_reducible rfl)
    try simp only [Act.put, List.setIfInBounds_toArray, List.set_cons_zero, List.set_cons_succ]
    refine wpAnyH_take (i := 3) (oi := ⟨some 33, _, _, _, _, _⟩) (v := .int .i64 0) rfl (by kernel_rfl) (by kernel_rfl) (by kernel_rfl) (fun _ _ _ h => h) (Or.inl ⟨by rfl, ?_⟩) HT0.out ?_
    · (intro W hSW; have d1 := gcell_f hSW.1; clear hSW; go_simp)
    try simp only [Act.put, List.setIfInBounds_toArray, List.set_cons_zero, List.set_cons_succ]
    refine wpAnyH_take (i := 4) (oi := ⟨some 34, _, _, _, _, _⟩) (v := ?_) rfl (by kernel_rfl) (by kernel_rfl) (by kernel_rfl) (fun _ _ _ h => h) (Or.inl ⟨by rfl, ?_⟩) HT0.out ?_
    rotate_left
    · (intro W hSW; clear hSW; go_simp)
      first | done | (with_reducible rfl)
    try simp only [Act.put, List.setIfInBounds_toArray, List.set_cons_zero, List.set_cons_succ]
    refine wpAnyH_take (i := 5) (oi := ⟨some 35, _, _, _, _, _⟩) (v := ?_) rfl (by kernel_rfl) (by kernel_rfl) (by kernel_rfl) (fun _ _ _ h => h) (Or.inl ⟨by rfl, ?_⟩) HT0.out ?_
    rotate_left
    · (intro W hSW; clear hSW; go_simp)
      first | done | (with_reducible rfl)
    try simp only [Act.put, List.setIfInBounds_toArray, List.set_cons_zero, List.set_cons_succ]
    refine wpAnyH_take (i := 6) (oi := ⟨some 36, _, _, _, _, _⟩) (v := ?_) rfl (by kernel_rfl) (by kernel_rfl) (by kernel_rfl) (fun _ _ _ h => h) (Or.inl ⟨by rfl, ?_⟩) HT0.out ?_
    rotate_left
    · (intro W hSW; clear hSW; go_simp)
      first | done | (with_reducible rfl)
    try simp only [Act.put, List.setIfInBounds_toArray, List.set_cons_zero, List.set_cons_succ]
    refine wpAnyH_take (i := 7) (oi := ⟨some 37, _, _, _, _, _⟩) (v := ?_) rfl (by kernel_rfl) (by kernel_rfl) (by kernel_rfl) (fun _ _ _ h => h) (Or.inl ⟨by rfl, ?_⟩) HT0.out ?_
    rotate_left
    · (intro W hSW; clear hSW; go_simp)
      first | done | (with_reducible rfl)
    try simp only [Act.put, List.setIfInBounds_toArray, List.set_cons_zero, List.set_cons_succ]
    refine wpAnyH_take (i := 8) (oi := ⟨some 38, _, _, _, _, _⟩) (v := .int .i64 0) rfl (by kernel_rfl) (by kernel_rfl) (by kernel_rfl) (fun _ _ _ h => h) (Or.inl ⟨by rfl, ?_⟩) HT0.out ?_
    · (intro W hSW; have d1 := gcell_f hSW.1; clear hSW; go_simp)
    try simp only [Act.put, List.setIfInBounds_toArray, List.set_cons_zero, List.set_cons_succ]
    refine wpAnyH_take (i := 9) (oi := ⟨some 39, _, _, _, _, _⟩) (v := ?_) rfl (by kernel_rfl) (by kernel_rfl) (by kernel_rfl) (fun _ _ _ h => h) (Or.inl ⟨by rfl, ?_⟩) HT0.out ?_
    rotate_left
    · (intro W hSW; clear hSW; go_simp)
      first | done | (with_reducible rfl)
    try simp only [Act.put, List.setIfInBounds_toArray, List.set_cons_zero, List.set_cons_succ]
    refine wpAnyH_ready (rs := [10]) (by kernel_rfl) (by simp) ?_
    refine AllReadyH.cons (o := ⟨some 40, _, _, _, _, _⟩) rfl (fun K hK => ?_) AllReadyH.nil
    go_simp
    refine (HD.out _ HT0.out.1).mono ?_
    rintro e x1 ⟨rfl, rfl⟩
    have HT1 := HT0
    clear HT0
    go_simp
    refine hK.out _ _ ?_ (fun _ => ?_)
    · exact HT1.out
    clear hK K
    try simp only [Act.put, List.setIfInBounds_toArray, List.set_cons_zero, List.set_cons_succ]
    refine wpAnyH_take (i := 11) (oi := ⟨some 4, _, _, _, _, _⟩) (v := ?_) rfl (by kernel_rfl) (by kernel_rfl) (by kernel_rfl) (fun _ _ _ h => h) (Or.inl ⟨by rfl, ?_⟩) HT1.out ?_
    rotate_left
    · (intro W hSW; clear hSW; go_simp)
      first | done | (with_reducible rfl)
    try simp only [Act.put, List.setIfInBounds_toArray, List.set_cons_zero, List.set_cons_succ]
    refine wpAnyH_take (i := 12) (oi := ⟨some 5, _, _, _, _, _⟩) (v := ?_) rfl (by kernel_rfl) (by kernel_rfl) (by kernel_rfl) (fun _ _ _ h => h) (Or.inl ⟨by rfl, ?_⟩) HT1.out ?_
    rotate_left
    · (intro W hSW; clear hSW; go_simp)
      first | done | (with_reducible rfl)
    try simp only [Act.put, List.setIfInBounds_toArray, List.set_cons_zero, List.set_cons_succ]
    refine wpAnyH_done (by kernel_rfl) ?_ _
    go_wp2_with fail
    refine bodyPost_ret (v := .tuple #[.int .i64 0, .int .i64 ((nm false * n + c : Nat) : Int)]) (by simp [results, Try.results17]) rfl ?_
    exact ⟨rfl, W4.out⟩
set_option maxRecDepth 100000 in
set_option maxHeartbeats 2000000 in
theorem where_new_true (g n : Nat) (p q : Key) (v : Bool) (m e : Nat) (f : Flo) (w : World) (h : Blk w g 56 (gcs n p q true v m e)) (hk : (kof p q true).Ok) (hf : f.Ok) (h1 : 1 ≤ n) (h2 : n ≤ 64) (hn : (kof p q false).Ok) (hm : kdKs.bk (kof p q true) f n < m) : Calls Try.prog 17 #[.pointer (some ⟨g, 0, none⟩), .agg f.cs.toArray] w (Ans (.tuple #[.int .i64 0, .int .i64 (nm false * n + kdKs.bk (kof p q false) f n : Nat)]) w) := by
  have K1 := Lib.hid (h.alloc (.cells f.cs.toArray 45))
  have K2 := Lib.hid (Blk.new w 45 f.cs)
  have W1 : Hid (Below w.heap.size w (w.alloc (.cells f.cs.toArray 45))) := (Below.refl _ w).alloc (Nat.le_refl _) _
  have HB := Lib.hid (fun W (hW : Blk W g 56 (gcs n p q true v m e)) => bucket_true g n p q true v m e f W hW hk hf h1 h2)
  have HM := Lib.hid (fun W (hW : Blk W g 56 (gcs n p q true v m e)) => isMoved_ g n p q true v m e (kdKs.bk (kof p q true) f n) W hW)
  rw [show decide (kdKs.bk (kof p q true) f n < m) = true by simp only [hm, decide_true]] at HM
  have HO := Lib.hid (fun W (hW : Blk W g 56 (gcs n p q true v m e)) => other_true g n p q v m e W hW)
  have HN := Lib.hid (fun W (hW : Blk W g 56 (gcs n p q true v m e)) => bucket_false g n p q true v m e f W hW hn hf h1 h2)
  have hb := kdKs.lt (kof p q false) f n h1
  have HC := Lib.hid (fun W (hW : Blk W g 56 (gcs n p q true v m e)) => class_false g n p q true v m e (kdKs.bk (kof p q false) f n) W hW h2 (by omega))
  generalize kdKs.bk (kof p q true) f n = c at *
  generalize kdKs.bk (kof p q false) f n = c2 at *
  clear h hk hf h1 h2 hn hm hb
  go_enter Try.func17, Try.ntmps17
  go_upto_region 3 with fail
  generalize (w.alloc (.cells f.cs.toArray 45)) = x1 at *
  go_wp2_with fail
  have HS0 : Hid (Blk x1.drew g 56 (gcs n p q true v m e) ∧ Blk x1.drew w.heap.size 45 f.cs) := ⟨K1.out, K2.out⟩
  have W2 : Hid (Below w.heap.size w x1.drew) := W1.out.drew
  clear K1 K2 W1
  refine wp_region_held_drew (S := fun W => Blk W g 56 (gcs n p q true v m e) ∧ Blk W w.heap.size 45 f.cs) (by kernel_rfl) ?_ (fun _ => ?_)
  · exact HS0.out
  generalize x1.drew = x0 at *
  refine wpAnyH_take (i := 0) (oi := ⟨some 9, _, _, _, _, _⟩) (v := ?_) rfl (by kernel_rfl) (by kernel_rfl) (by kernel_rfl) (fun _ _ _ h => h) (Or.inl ⟨by rfl, ?_⟩) HS0.out ?_
  rotate_left
  · (intro W hSW; clear hSW; go_simp)
    first | done | (with_reducible rfl)
  try simp only [Act.put, List.setIfInBounds_toArray, List.set_cons_zero, List.set_cons_succ]
  refine wpAnyH_take (i := 1) (oi := ⟨some 10, _, _, _, _, _⟩) (v := ?_) rfl (by kernel_rfl) (by kernel_rfl) (by kernel_rfl) (fun _ _ _ h => h) (Or.inl ⟨by rfl, ?_⟩) HS0.out ?_
  rotate_left
  · (intro W hSW; clear hSW; go_simp)
    first | done | (with_reducible rfl)
  try simp only [Act.put, List.setIfInBounds_toArray, List.set_cons_zero, List.set_cons_succ]
  refine wpAnyH_take (i := 2) (oi := ⟨some 11, _, _, _, _, _⟩) (v := ?_) rfl (by kernel_rfl) (by kernel_rfl) (by kernel_rfl) (fun _ _ _ h => h) (Or.inl ⟨by rfl, ?_⟩) HS0.out ?_
  rotate_left
  · (intro W hSW; clear hSW; go_simp)
    first | done | (with_reducible rfl)
  try simp only [Act.put, List.setIfInBounds_toArray, List.set_cons_zero, List.set_cons_succ]
  refine wpAnyH_take (i := 3) (oi := ⟨some 12, _, _, _, _, _⟩) (v := ?_) rfl (by kernel_rfl) (by kernel_rfl) (by kernel_rfl) (fun _ _ _ h => h) (Or.inl ⟨by rfl, ?_⟩) HS0.out ?_
  rotate_left
  · (intro W hSW; clear hSW; go_simp)
    first | done | (with_reducible rfl)
  try simp only [Act.put, List.setIfInBounds_toArray, List.set_cons_zero, List.set_cons_succ]
  refine wpAnyH_take (i := 4) (oi := ⟨some 13, _, _, _, _, _⟩) (v := .int .i64 1) rfl (by kernel_rfl) (by kernel_rfl) (by kernel_rfl) (fun _ _ _ h => h) (Or.inl ⟨by rfl, ?_⟩) HS0.out ?_
  · (intro W hSW; have d1 := gcell_t hSW.1; clear hSW; go_simp)
  try simp only [Act.put, List.setIfInBounds_toArray, List.set_cons_zero, List.set_cons_succ]
  refine wpAnyH_take (i := 5) (oi := ⟨some 14, _, _, _, _, _⟩) (v := .agg f.cs.toArray) rfl (by kernel_rfl) (by kernel_rfl) (by kernel_rfl) (fun _ _ _ h => h) (yields_flo (by rfl) (.tmp 3) rfl _ 0 rfl f (fun _ h => whole_at h.2)) HS0.out ?_
  try simp only [Act.put, List.setIfInBounds_toArray, List.set_cons_zero, List.set_cons_succ]
  refine wpAnyH_ready (rs := [6]) (by kernel_rfl) (by simp) ?_
  refine AllReadyH.cons (o := ⟨some 15, _, _, _, _, _⟩) rfl (fun K hK => ?_) AllReadyH.nil
  go_simp
  refine (HB.out _ HS0.out.1).mono ?_
  rintro e x1 ⟨rfl, hb⟩
  have HS1 : Hid (Blk x1 g 56 (gcs n p q true v m e) ∧ Blk x1 w.heap.size 45 f.cs) := ⟨HS0.out.1.below hb, HS0.out.2.below hb⟩
  have W3 : Hid (Below w.heap.size w x1) := W2.out.trans (hb.mono W2.out.size)
  clear hb W2 HS0
  go_simp
  refine hK.out _ _ ?_ (fun _ => ?_)
  · exact HS1.out
  clear hK K
  try simp only [Act.put, List.setIfInBounds_toArray, List.set_cons_zero, List.set_cons_succ]
  refine wpAnyH_take (i := 7) (oi := ⟨some 6, _, _, _, _, _⟩) (v := ?_) rfl (by kernel_rfl) (by kernel_rfl) (by kernel_rfl) (fun _ _ _ h => h) (Or.inl ⟨by rfl, ?_⟩) HS1.out ?_
  rotate_left
  · (intro W hSW; clear hSW; go_simp)
    first | done | (with_reducible rfl)
  try simp only [Act.put, List.setIfInBounds_toArray, List.set_cons_zero, List.set_cons_succ]
  refine wpAnyH_done (by kernel_rfl) ?_ _
  go_upto_region 5 with (go_at_call 27; (with_reducible refine (HM.out _ HS1.out.1).mono ?_); rintro e x9 ⟨rfl, rfl⟩)
  · go_wp2_with fail
    have HT0 : Hid (Blk x1.drew g 56 (gcs n p q true v m e) ∧ Blk x1.drew w.heap.size 45 f.cs) := ⟨HS1.out.1, HS1.out.2⟩
    have W4 : Hid (Below w.heap.size w x1.drew) := W3.out.drew
    clear W3 HS1
    refine wp_region_held_drew (S := fun W => Blk W g 56 (gcs n p q true v m e) ∧ Blk W w.heap.size 45 f.cs) (by kernel_rfl) ?_ (fun _ => ?_)
    · exact HT0.out
    generalize x1.drew = y0 at *
    refine wpAnyH_take (i := 0) (oi := ⟨some 19, _, _, _, _, _⟩) (v := ?_) rfl (by kernel_rfl) (by kernel_rfl) (by kernel_rfl) (fun _ _ _ h => h) (Or.inl ⟨by rfl, ?_⟩) HT0.out ?_
    rotate_left
    · (intro W hSW; clear hSW; go_simp)
      first | done | (with_reducible rfl)
    try simp only [Act.put, List.setIfInBounds_toArray, List.set_cons_zero, List.set_cons_succ]
    refine wpAnyH_take (i := 2) (oi := ⟨some 21, _, _, _, _, _⟩) (v := ?_) rfl (by kernel_rfl) (by kernel_rfl) (by kernel_rfl) (fun _ _ _ h => h) (Or.inl ⟨by rfl, ?_⟩) HT0.out ?_
    rotate_left
    · (intro W hSW; clear hSW; go_simp)
      first | done | (with_reducible rfl)
    try simp only [Act.put, List.setIfInBounds_toArray, List.set_cons_zero, List.set_cons_succ]
    refine wpAnyH_take (i := 3) (oi := ⟨some 22, _, _, _, _, _⟩) (v := ?_) rfl (by kernel_rfl) (by kernel_rfl) (by kernel_rfl) (fun _ _ _ h => h) (Or.inl ⟨by rfl, ?_⟩) HT0.out ?_
    rotate_left
    · (intro W hSW; clear hSW; go_simp)
      first | done | (with_reducible rfl)
    try simp only [Act.put, List.setIfInBounds_toArray, List.set_cons_zero, List.set_cons_succ]
    refine wpAnyH_take (i := 5) (oi := ⟨some 24, _, _, _, _, _⟩) (v := ?_) rfl (by kernel_rfl) (by kernel_rfl) (by kernel_rfl) (fun _ _ _ h => h) (Or.inl ⟨by rfl, ?_⟩) HT0.out ?_
    rotate_left
    · (intro W hSW; clear hSW; go_simp)
      first | done | (with_reducible rfl)
    try simp only [Act.put, List.setIfInBounds_toArray, List.set_cons_zero, List.set_cons_succ]
    refine wpAnyH_take (i := 6) (oi := ⟨some 25, _, _, _, _, _⟩) (v := ?_) rfl (by kernel_rfl) (by kernel_rfl) (by kernel_rfl) (fun _ _ _ h => h) (Or.inl ⟨by rfl, ?_⟩) HT0.out ?_
    rotate_left
    · (intro W hSW; clear hSW; go_simp)
      first | done | (with_reducible rfl)
    try simp only [Act.put, List.setIfInBounds_toArray, List.set_cons_zero, List.set_cons_succ]
    refine wpAnyH_take (i := 8) (oi := ⟨some 27, _, _, _, _, _⟩) (v := .agg f.cs.toArray) rfl (by kernel_rfl) (by kernel_rfl) (by kernel_rfl) (fun _ _ _ h => h) (yields_flo (by rfl) (.tmp 3) rfl _ 0 rfl f (fun _ h => whole_at h.2)) HT0.out ?_
    try simp only [Act.put, List.setIfInBounds_toArray, List.set_cons_zero, List.set_cons_succ]
    refine wpAnyH_ready (rs := [1]) (by kernel_rfl) (by simp) ?_
    refine AllReadyH.cons (o := ⟨some 20, _, _, _, _, _⟩) rfl (fun K hK => ?_) AllReadyH.nil
    go_simp
    refine (HO.out _ HT0.out.1).mono ?_
    rintro e x1 ⟨rfl, rfl⟩
    have HT1 := HT0
    clear HT0
    go_simp
    refine hK.out _ _ ?_ (fun _ => ?_)
    · exact HT1.out
    clear hK K
    try simp only [Act.put, List.setIfInBounds_toArray, List.set_cons_zero, List.set_cons_succ]
    refine wpAnyH_ready (rs := [4]) (by kernel_rfl) (by simp) ?_
    refine AllReadyH.cons (o := ⟨some 23, _, _, _, _, _⟩) rfl (fun K hK => ?_) AllReadyH.nil
    go_simp
    refine (HO.out _ HT1.out.1).mono ?_
    rintro e x2 ⟨rfl, rfl⟩
    have HT2 := HT1
    clear HT1
    go_simp
    refine hK.out _ _ ?_ (fun _ => ?_)
    · exact HT2.out
    clear hK K
    try simp only [Act.put, List.setIfInBounds_toArray, List.set_cons_zero, List.set_cons_succ]
    refine wpAnyH_ready (rs := [7]) (by kernel_rfl) (by simp) ?_
    refine AllReadyH.cons (o := ⟨some 26, _, _, _, _, _⟩) rfl (fun K hK => ?_) AllReadyH.nil
    go_simp
    refine (HO.out _ HT2.out.1).mono ?_
    rintro e x3 ⟨rfl, rfl⟩
    have HT3 := HT2
    clear HT2
    go_simp
    refine hK.out _ _ ?_ (fun _ => ?_)
    · exact HT3.out
    clear hK K
    try simp only [Act.put, List.setIfInBounds_toArray, List.set_cons_zero, List.set_cons_succ]
    refine wpAnyH_ready (rs := [9]) (by kernel_rfl) (by simp) ?_
    refine AllReadyH.cons (o := ⟨some 28, _, _, _, _, _⟩) rfl (fun K hK => ?_) AllReadyH.nil
    go_simp
    refine (HN.out _ HT3.out.1).mono ?_
    rintro e y1 ⟨rfl, hb⟩
    have HT4 : Hid (Blk y1 g 56 (gcs n p q true v m e) ∧ Blk y1 w.heap.size 45 f.cs) := ⟨HT3.out.1.below hb, HT3.out.2.below hb⟩
    have W5 : Hid (Below w.heap.size w y1) := W4.out.trans (hb.mono W4.out.size)
    clear hb W4 HT3
    go_simp
    refine hK.out _ _ ?_ (fun _ => ?_)
    · exact HT4.out
    clear hK K
    try simp only [Act.put, List.setIfInBounds_toArray, List.set_cons_zero, List.set_cons_succ]
    refine wpAnyH_ready (rs := [10]) (by kernel_rfl) (by simp) ?_
    refine AllReadyH.cons (o := ⟨some 29, _, _, _, _, _⟩) rfl (fun K hK => ?_) AllReadyH.nil
    go_simp
    refine (HC.out _ HT4.out.1).mono ?_
    rintro e x5 ⟨rfl, rfl⟩
    have HT5 := HT4
    clear HT4
    go_simp
    refine hK.out _ _ ?_ (fun _ => ?_)
    · exact HT5.out
    clear hK K
    try simp only [Act.put, List.setIfInBounds_toArray, List.set_cons_zero, List.set_cons_succ]
    refine wpAnyH_take (i := 11) (oi := ⟨some 4, _, _, _, _, _⟩) (v := ?_) rfl (by kernel_rfl) (by kernel_rfl) (by kernel_rfl) (fun _ _ _ h => h) (Or.inl ⟨by rfl, ?_⟩) HT5.out ?_
    rotate_left
    · (intro W hSW; clear hSW; go_simp)
      first | done | (with_reducible rfl)
    try simp only [Act.put, List.setIfInBounds_toArray, List.set_cons_zero, List.set_cons_succ]
    refine wpAnyH_take (i := 12) (oi := ⟨some 5, _, _, _, _, _⟩) (v := ?_) rfl (by kernel_rfl) (by kernel_rfl) (by kernel_rfl) (fun _ _ _ h => h) (Or.inl ⟨by rfl, ?_⟩) HT5.out ?_
    rotate_left
    · (intro W hSW; clear hSW; go_simp)
      first | done | (with_reducible rfl)
    try simp only [Act.put, List.setIfInBounds_toArray, List.set_cons_zero, List.set_cons_succ]
    refine wpAnyH_done (by kernel_rfl) ?_ _
    go_wp2_with fail
    refine bodyPost_ret (v := .tuple #[.int .i64 0, .int .i64 ((nm false * n + c2 : Nat) : Int)]) (by simp [results, Try.results17]) rfl ?_
    exact ⟨rfl, W5.out⟩
set_option maxRecDepth 100000 in
set_option maxHeartbeats 2000000 in
theorem where_old_true (g n : Nat) (p q : Key) (v : Bool) (m e : Nat) (f : Flo) (w : World) (h : Blk w g 56 (gcs n p q true v m e)) (hk : (kof p q true).Ok) (hf : f.Ok) (h1 : 1 ≤ n) (h2 : n ≤ 64) (hm : ¬ kdKs.bk (kof p q true) f n < m) : Calls Try.prog 17 #[.pointer (some ⟨g, 0, none⟩), .agg f.cs.toArray] w (Ans (.tuple #[.int .i64 1, .int .i64 (nm true * n + kdKs.bk (kof p q true) f n : Nat)]) w) := by
  have K1 := Lib.hid (h.alloc (.cells f.cs.toArray 45))
  have K2 := Lib.hid (Blk.new w 45 f.cs)
  have W1 : Hid (Below w.heap.size w (w.alloc (.cells f.cs.toArray 45))) := (Below.refl _ w).alloc (Nat.le_refl _) _
  have HB := Lib.hid (fun W (hW : Blk W g 56 (gcs n p q true v m e)) => bucket_true g n p q true v m e f W hW hk hf h1 h2)
  have HM := Lib.hid (fun W (hW : Blk W g 56 (gcs n p q true v m e)) => isMoved_ g n p q true v m e (kdKs.bk (kof p q true) f n) W hW)
  rw [show decide (kdKs.bk (kof p q true) f n < m) = false by simp only [hm, decide_false]] at HM
  have hb := kdKs.lt (kof p q true) f n h1
  have HD := Lib.hid (fun W (hW : Blk W g 56 (gcs n p q true v m e)) => class_true g n p q true v m e (kdKs.bk (kof p q true) f n) W hW h2 (by omega))
  generalize kdKs.bk (kof p q true) f n = c at *
  clear h hk hf h1 h2 hm hb
  go_enter Try.func17, Try.ntmps17
  go_upto_region 3 with fail
  generalize (w.alloc (.cells f.cs.toArray 45)) = x1 at *
  go_wp2_with fail
  have HS0 : Hid (Blk x1.drew g 56 (gcs n p q true v m e) ∧ Blk x1.drew w.heap.size 45 f.cs) := ⟨K1.out, K2.out⟩
  have W2 : Hid (Below w.heap.size w x1.drew) := W1.out.drew
  clear K1 K2 W1
  refine wp_region_held_drew (S := fun W => Blk W g 56 (gcs n p q true v m e) ∧ Blk W w.heap.size 45 f.cs) (by kernel_rfl) ?_ (fun _ => ?_)
  · exact HS0.out
  generalize x1.drew = x0 at *
  refine wpAnyH_take (i := 0) (oi := ⟨some 9, _, _, _, _, _⟩) (v := ?_) rfl (by kernel_rfl) (by kernel_rfl) (by kernel_rfl) (fun _ _ _ h => h) (Or.inl ⟨by rfl, ?_⟩) HS0.out ?_
  rotate_left
  · (intro W hSW; clear hSW; go_simp)
    first | done | (with_reducible rfl)
  try simp only [Act.put, List.setIfInBounds_toArray, List.set_cons_zero, List.set_cons_succ]
  refine wpAnyH_take (i := 1) (oi := ⟨some 10, _, _, _, _, _⟩) (v := ?_) rfl (by kernel_rfl) (by kernel_rfl) (by kernel_rfl) (fun _ _ _ h => h) (Or.inl ⟨by rfl, ?_⟩) HS0.out ?_
  rotate_left
  · (intro W hSW; clear hSW; go_simp)
    first | done | (with_reducible rfl)
  try simp only [Act.put, List.setIfInBounds_toArray, List.set_cons_zero, List.set_cons_succ]
  refine wpAnyH_take (i := 2) (oi := ⟨some 11, _, _, _, _, _⟩) (v := ?_) rfl (by kernel_rfl) (by kernel_rfl) (by kernel_rfl) (fun _ _ _ h => h) (Or.inl ⟨by rfl, ?_⟩) HS0.out ?_
  rotate_left
  · (intro W hSW; clear hSW; go_simp)
    first | done | (with_reducible rfl)
  try simp only [Act.put, List.setIfInBounds_toArray, List.set_cons_zero, List.set_cons_succ]
  refine wpAnyH_take (i := 3) (oi := ⟨some 12, _, _, _, _, _⟩) (v := ?_) rfl (by kernel_rfl) (by kernel_rfl) (by kernel_rfl) (fun _ _ _ h => h) (Or.inl ⟨by rfl, ?_⟩) HS0.out ?_
  rotate_left
  · (intro W hSW; clear hSW; go_simp)
    first | done | (with_reducible rfl)
  try simp only [Act.put, List.setIfInBounds_toArray, List.set_cons_zero, List.set_cons_succ]
  refine wpAnyH_take (i := 4) (oi := ⟨some 13, _, _, _, _, _⟩) (v := .int .i64 1) rfl (by kernel_rfl) (by kernel_rfl) (by kernel_rfl) (fun _ _ _ h => h) (Or.inl ⟨by rfl, ?_⟩) HS0.out ?_
  · (intro W hSW; have d1 := gcell_t hSW.1; clear hSW; go_simp)
  try simp only [Act.put, List.setIfInBounds_toArray, List.set_cons_zero, List.set_cons_succ]
  refine wpAnyH_take (i := 5) (oi := ⟨some 14, _, _, _, _, _⟩) (v := .agg f.cs.toArray) rfl (by kernel_rfl) (by kernel_rfl) (by kernel_rfl) (fun _ _ _ h => h) (yields_flo (by rfl) (.tmp 3) rfl _ 0 rfl f (fun _ h => whole_at h.2)) HS0.out ?_
  try simp only [Act.put, List.setIfInBounds_toArray, List.set_cons_zero, List.set_cons_succ]
  refine wpAnyH_ready (rs := [6]) (by kernel_rfl) (by simp) ?_
  refine AllReadyH.cons (o := ⟨some 15, _, _, _, _, _⟩) rfl (fun K hK => ?_) AllReadyH.nil
  go_simp
  refine (HB.out _ HS0.out.1).mono ?_
  rintro e x1 ⟨rfl, hb⟩
  have HS1 : Hid (Blk x1 g 56 (gcs n p q true v m e) ∧ Blk x1 w.heap.size 45 f.cs) := ⟨HS0.out.1.below hb, HS0.out.2.below hb⟩
  have W3 : Hid (Below w.heap.size w x1) := W2.out.trans (hb.mono W2.out.size)
  clear hb W2 HS0
  go_simp
  refine hK.out _ _ ?_ (fun _ => ?_)
  · exact HS1.out
  clear hK K
  try simp only [Act.put, List.setIfInBounds_toArray, List.set_cons_zero, List.set_cons_succ]
  refine wpAnyH_take (i := 7) (oi := ⟨some 6, _, _, _, _, _⟩) (v := ?_) rfl (by kernel_rfl) (by kernel_rfl) (by kernel_rfl) (fun _ _ _ h => h) (Or.inl ⟨by rfl, ?_⟩) HS1.out ?_
  rotate_left
  · (intro W hSW; clear hSW; go_simp)
    first | done | (with_reducible rfl)
  try simp only [Act.put, List.setIfInBounds_toArray, List.set_cons_zero, List.set_cons_succ]
  refine wpAnyH_done (by kernel_rfl) ?_ _
  go_upto_region 6 with (go_at_call 27; (with_reducible refine (HM.out _ HS1.out.1).mono ?_); rintro e x9 ⟨rfl, rfl⟩)
  · go_wp2_with fail
    have HT0 : Hid (Blk x1.drew g 56 (gcs n p q true v m e) ∧ Blk x1.drew w.heap.size 45 f.cs) := ⟨HS1.out.1, HS1.out.2⟩
    have W4 : Hid (Below w.heap.size w x1.drew) := W3.out.drew
    clear W3 HS1
    refine wp_region_held_drew (S := fun W => Blk W g 56 (gcs n p q true v m e) ∧ Blk W w.heap.size 45 f.cs) (by kernel_rfl) ?_ (fun _ => ?_)
    · exact HT0.out
    generalize x1.drew = y0 at *
    refine wpAnyH_take (i := 0) (oi := ⟨some 30, _, _, _, _, _⟩) (v := ?_) rfl (by kernel_rfl) (by kernel_rfl) (by kernel_rfl) (fun _ _ _ h => h) (Or.inl ⟨by rfl, ?_⟩) HT0.out ?_
    rotate_left
    · (intro W hSW; clear hSW; go_simp)
      first | done | (with_reducible rfl)
    try simp only [Act.put, List.setIfInBounds_toArray, List.set_cons_zero, List.set_cons_succ]
    refine wpAnyH_take (i := 1) (oi := ⟨some 31, _, _, _, _, _⟩) (v := ?_) rfl (by kernel_rfl) (by kernel_rfl) (by kernel_rfl) (fun _ _ _ h => h) (Or.inl ⟨by rfl, ?_⟩) HT0.out ?_
    rotate_left
    · (intro W hSW; clear hSW; go_simp)
      first | done | (with_reducible rfl)
    try simp only [Act.put, List.setIfInBounds_toArray, List.set_cons_zero, List.set_cons_succ]
    refine wpAnyH_take (i := 2) (oi := ⟨some 32, _, _, _, _, _⟩) (v := ?_) rfl (by kernel_rfl) (by kernel_rfl) (by kernel_rfl) (fun _ _ _ h => h) (Or.inl ⟨by rfl, ?_⟩) HT0.out ?_
    rotate_left
    · (intro W hSW; clear hSW; go_simp)
      first | done | (with_reducible rfl)
    try simp only [Act.put, List.setIfInBounds_toArray, List.set_cons_zero, List.set_cons_succ]
    refine wpAnyH_take (i := 3) (oi := ⟨some 33, _, _, _, _, _⟩) (v := .int .i64 1) rfl (by kernel_rfl) (by kernel_rfl) (by kernel_rfl) (fun _ _ _ h => h) (Or.inl ⟨by rfl, ?_⟩) HT0.out ?_
    · (intro W hSW; have d1 := gcell_t hSW.1; clear hSW; go_simp)
    try simp only [Act.put, List.setIfInBounds_toArray, List.set_cons_zero, List.set_cons_succ]
    refine wpAnyH_take (i := 4) (oi := ⟨some 34, _, _, _, _, _⟩) (v := ?_) rfl (by kernel_rfl) (by kernel_rfl) (by kernel_rfl) (fun _ _ _ h => h) (Or.inl ⟨by rfl, ?_⟩) HT0.out ?_
    rotate_left
    · (intro W hSW; clear hSW; go_simp)
      first | done | (with_reducible rfl)
    try simp only [Act.put, List.setIfInBounds_toArray, List.set_cons_zero, List.set_cons_succ]
    refine wpAnyH_take (i := 5) (oi := ⟨some 35, _, _, _, _, _⟩) (v := ?_) rfl (by kernel_rfl) (by kernel_rfl) (by kernel_rfl) (fun _ _ _ h => h) (Or.inl ⟨by rfl, ?_⟩) HT0.out ?_
    rotate_left
    · (intro W hSW; clear hSW; go_simp)
      first | done | (with_reducible rfl)
    try simp only [Act.put, List.setIfInBounds_toArray, List.set_cons_zero, List.set_cons_succ]
    refine wpAnyH_take (i := 6) (oi := ⟨some 36, _, _, _, _, _⟩) (v := ?_) rfl (by kernel_rfl) (by kernel_rfl) (by kernel_rfl) (fun _ _ _ h => h) (Or.inl ⟨by rfl, ?_⟩) HT0.out ?_
    rotate_left
    · (intro W hSW; clear hSW; go_simp)
      first | done | (with_reducible rfl)
    try simp only [Act.put, List.setIfInBounds_toArray, List.set_cons_zero, List.set_cons_succ]
    refine wpAnyH_take (i := 7) (oi := ⟨some 37, _, _, _, _, _⟩) (v := ?_) rfl (by kernel_rfl) (by kernel_rfl) (by kernel_rfl) (fun _ _ _ h => h) (Or.inl ⟨by rfl, ?_⟩) HT0.out ?_
    rotate_left
    · (intro W hSW; clear hSW; go_simp)
      first | done | (with_reducible rfl)
    try simp only [Act.put, List.setIfInBounds_toArray, List.set_cons_zero, List.set_cons_succ]
    refine wpAnyH_take (i := 8) (oi := ⟨some 38, _, _, _, _, _⟩) (v := .int .i64 1) rfl (by kernel_rfl) (by kernel_rfl) (by kernel_rfl) (fun _ _ _ h => h) (Or.inl ⟨by rfl, ?_⟩) HT0.out ?_
    · (intro W hSW; have d1 := gcell_t hSW.1; clear hSW; go_simp)
    try simp only [Act.put, List.setIfInBounds_toArray, List.set_cons_zero, List.set_cons_succ]
    refine wpAnyH_take (i := 9) (oi := ⟨some 39, _, _, _, _, _⟩) (v := ?_) rfl (by kernel_rfl) (by kernel_rfl) (by kernel_rfl) (fun _ _ _ h => h) (Or.inl ⟨by rfl, ?_⟩) HT0.out ?_
    rotate_left
    · (intro W hSW; clear hSW; go_simp)
      first | done | (with_reducible rfl)
    try simp only [Act.put, List.setIfInBounds_toArray, List.set_cons_zero, List.set_cons_succ]
    refine wpAnyH_ready (rs := [10]) (by kernel_rfl) (by simp) ?_
    refine AllReadyH.cons (o := ⟨some 40, _, _, _, _, _⟩) rfl (fun K hK => ?_) AllReadyH.nil
    go_simp
    refine (HD.out _ HT0.out.1).mono ?_
    rintro e x1 ⟨rfl, rfl⟩
    have HT1 := HT0
    clear HT0
    go_simp
    refine hK.out _ _ ?_ (fun _ => ?_)
    · exact HT1.out
    clear hK K
    try simp only [Act.put, List.setIfInBounds_toArray, List.set_cons_zero, List.set_cons_succ]
    refine wpAnyH_take (i := 11) (oi := ⟨some 4, _, _, _, _, _⟩) (v := ?_) rfl (by kernel_rfl) (by kernel_rfl) (by kernel_rfl) (fun _ _ _ h => h) (Or.inl ⟨by rfl, ?_⟩) HT1.out ?_
    rotate_left
    · (intro W hSW; clear hSW; go_simp)
      first | done | (with_reducible rfl)
    try simp only [Act.put, List.setIfInBounds_toArray, List.set_cons_zero, List.set_cons_succ]
    refine wpAnyH_take (i := 12) (oi := ⟨some 5, _, _, _, _, _⟩) (v := ?_) rfl (by kernel_rfl) (by kernel_rfl) (by kernel_rfl) (fun _ _ _ h => h) (Or.inl ⟨by rfl, ?_⟩) HT1.out ?_
    rotate_left
    · (intro W hSW; clear hSW; go_simp)
      first | done | (with_reducible rfl)
    try simp only [Act.put, List.setIfInBounds_toArray, List.set_cons_zero, List.set_cons_succ]
    refine wpAnyH_done (by kernel_rfl) ?_ _
    go_wp2_with fail
    refine bodyPost_ret (v := .tuple #[.int .i64 1, .int .i64 ((nm true * n + c : Nat) : Int)]) (by simp [results, Try.results17]) rfl ?_
    exact ⟨rfl, W4.out⟩
end Go.Proofs.Ytfhlgmmfknfamaa
