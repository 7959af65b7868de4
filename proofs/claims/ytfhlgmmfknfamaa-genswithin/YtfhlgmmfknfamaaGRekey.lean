/- The program's gens: Rekey, New. Conditions: those of each theorem. -/
import Derived.Test.YtfhlgmmfknfamaaGTurn
namespace Go.Proofs.Ytfhlgmmfknfamaa
open Go.RowKit

set_option maxRecDepth 100000 in
set_option maxHeartbeats 2000000 in
theorem rekey_busy (g n : Nat) (p q : Key) (o : Bool) (m e : Nat) (k : Key) (w : World) (h : Blk w g 56 (gcs n p q o true m e)) : Calls Try.prog 9 #[.pointer (some ⟨g, 0, none⟩), .agg k.cs.toArray] w (Ans (.int .i64 4) w) := by
  have K1 := Lib.hid (h.alloc (.cells k.cs.toArray 22))
  have W1 : Hid (Below w.heap.size w (w.alloc (.cells k.cs.toArray 22))) := (Below.refl _ w).alloc (Nat.le_refl _) _
  clear h
  have c34 := gcell_v K1.out
  go_enter Try.func9, Try.ntmps9
  go_wp2
  go_ret
  exact ⟨rfl, W1.out⟩
theorem rekey_nil (k : Key) (w : World) : Calls Try.prog 9 #[.pointer none, .agg k.cs.toArray] w (Ans (.int .i64 1) w) := by
  have W1 : Hid (Below w.heap.size w (w.alloc (.cells k.cs.toArray 22))) := (Below.refl _ w).alloc (Nat.le_refl _) _
  go_enter Try.func9, Try.ntmps9
  go_wp2
  go_ret
  exact ⟨rfl, W1.out⟩
set_option maxRecDepth 100000 in
set_option maxHeartbeats 2000000 in
theorem rekey_false (g n : Nat) (p q : Key) (m e : Nat) (k : Key) (w : World) (h : Blk w g 56 (gcs n p q false false m e)) : Calls Try.prog 9 #[.pointer (some ⟨g, 0, none⟩), .agg k.cs.toArray] w fun e' w' => e' = .returned (.int .i64 0) ∧ Blk w' g 56 (gcs n p k false true m e) ∧ Far (only g) w w' := by
  have K1 := Lib.hid (h.alloc (.cells k.cs.toArray 22))
  have Q1 := Lib.hid (Blk.new w 22 k.cs)
  have F0 : Hid (Far (only g) w (w.alloc (.cells k.cs.toArray 22))) := Lib.hid ((Far.refl _ _).alloc _)
  have HM : Hid ((gcs n p q false false m e).take 17 ++ (k.cs ++ (gcs n p q false false m e).drop (17 + 16)) = gcs n p k false false m e) := Lib.hid (gput_q k)
  have HO := Lib.hid (fun W (hW : Blk W g 56 (gcs n p q false false m e)) => other_false g n p q false m e W hW)
  clear h
  have c34 := gcell_v K1.out
  go_enter Try.func9, Try.ntmps9
  go_upto_region 5 with fail
  clear c34
  generalize (w.alloc (.cells k.cs.toArray 22)) = x1 at *
  go_wp2_with fail
  refine til_begin (fun W => Blk W g 56 (gcs n p q false false m e) ∧ Blk W w.heap.size 22 k.cs) 7 (by kernel_rfl) ?_
  have D0 := Lib.hid ((⟨K1.out.drew, Q1.out.drew⟩ : Blk x1.drew g 56 _ ∧ Blk x1.drew w.heap.size 22 k.cs))
  have F1 : Hid (Far (only g) w x1.drew) := Lib.hid F0.out.drew
  clear K1 Q1 F0
  generalize x1.drew = y0 at *
  refine til_take (i := 0) (oi := ⟨some 11, _, _, _, _, _⟩) (v := ?_) rfl (by kernel_rfl) (by kernel_rfl) (by kernel_rfl) (by decide) (by kernel_rfl) (by kernel_rfl) (fun _ _ _ h => h) (Or.inl ⟨by rfl, ?_⟩) D0.out ?_
  rotate_left
  · (intro W hSW; clear hSW; go_simp)
    first | done | (with_reducible rfl)
  try simp only [Act.put, List.setIfInBounds_toArray, List.set_cons_zero, List.set_cons_succ]
  refine til_take (i := 1) (oi := ⟨some 12, _, _, _, _, _⟩) (v := ?_) rfl (by kernel_rfl) (by kernel_rfl) (by kernel_rfl) (by decide) (by kernel_rfl) (by kernel_rfl) (fun _ _ _ h => h) (Or.inl ⟨by rfl, ?_⟩) D0.out ?_
  rotate_left
  · (intro W hSW; clear hSW; go_simp)
    first | done | (with_reducible rfl)
  try simp only [Act.put, List.setIfInBounds_toArray, List.set_cons_zero, List.set_cons_succ]
  refine til_take (i := 3) (oi := ⟨some 14, _, _, _, _, _⟩) (v := .agg k.cs.toArray) rfl (by kernel_rfl) (by kernel_rfl) (by kernel_rfl) (by decide) (by kernel_rfl) (by kernel_rfl) (fun _ _ _ h => h) (yields_key (by rfl) (.tmp 3) rfl _ 0 rfl k (fun _ h => whole_at h.2)) D0.out ?_
  try simp only [Act.put, List.setIfInBounds_toArray, List.set_cons_zero, List.set_cons_succ]
  refine til_takeP (i := 4) (oi := ⟨some 15, _, _, _, _, _⟩) (v := ?_) rfl (by kernel_rfl) (by kernel_rfl) (by kernel_rfl) (by decide) (fun _ _ _ h => h) (Or.inl ⟨by rfl, ?_⟩) (fun _ => D0.out) ?_
  rotate_left
  · (intro W hSW; clear hSW; go_simp)
    first | done | (with_reducible rfl)
  try simp only [Act.put, List.setIfInBounds_toArray, List.set_cons_zero, List.set_cons_succ]
  refine til_takeP (i := 5) (oi := ⟨some 16, _, _, _, _, _⟩) (v := ?_) rfl (by kernel_rfl) (by kernel_rfl) (by kernel_rfl) (by decide) (fun _ _ _ h => h) (Or.inl ⟨by rfl, ?_⟩) (fun _ => D0.out) ?_
  rotate_left
  · (intro W hSW; clear hSW; go_simp)
    first | done | (with_reducible rfl)
  try simp only [Act.put, List.setIfInBounds_toArray, List.set_cons_zero, List.set_cons_succ]
  refine til_one (i := 2) (o := ⟨some 13, _, _, _, _, _⟩) (by kernel_rfl) rfl (fun K hK => ?_)
  go_simp
  refine (HO.out _ D0.out.1).mono ?_
  rintro e5 w5 ⟨rfl, rfl⟩
  go_simp
  refine hK.out _ _ (fun _ => D0.out) ?_
  clear hK K
  try simp only [Act.put, List.setIfInBounds_toArray, List.set_cons_zero, List.set_cons_succ]
  refine til_takeP (i := 6) (oi := ⟨some 17, _, _, _, _, _⟩) (v := ?_) rfl (by kernel_rfl) (by kernel_rfl) (by kernel_rfl) (by decide) (fun _ _ _ h => h) (Or.inl ⟨by rfl, ?_⟩) (fun _ => D0.out) ?_
  rotate_left
  · (intro W hSW; clear hSW; go_simp)
    first | done | (with_reducible rfl)
  try simp only [Act.put, List.setIfInBounds_toArray, List.set_cons_zero, List.set_cons_succ]
  refine til_one (i := 7) (o := ⟨none, _, _, _, _, _⟩) (by kernel_rfl) rfl (fun K hK => ?_)
  refine step_putk (by rfl) (.tmp 17) (.tmp 14) rfl g 17 k rfl rfl 56 _ D0.out.1 (by rw [gcs_len]; decide) ?_
  intro w3 K3 F3
  rw [HM.out] at K3
  refine hK.out _ _ (past (by kernel_rfl)) ?_
  clear hK K
  try simp only [Act.put]
  refine til_done (by kernel_rfl) ?_ _
  have d34 := gcell_v K3.out
  have f34 := K3.out.frozen 34
  go_wp2_with fail
  go_ret
  refine ⟨rfl, ?_, ((F1.out.trans F3.out (fun _ _ e => e)).set_ (p := ⟨g, 34, none⟩) (fun _ => rfl) _)⟩
  have k1 := K3.out.set_ 34 (.bool true)
  rw [gset_v] at k1
  exact k1
set_option maxRecDepth 100000 in
set_option maxHeartbeats 2000000 in
theorem rekey_true (g n : Nat) (p q : Key) (m e : Nat) (k : Key) (w : World) (h : Blk w g 56 (gcs n p q true false m e)) : Calls Try.prog 9 #[.pointer (some ⟨g, 0, none⟩), .agg k.cs.toArray] w fun e' w' => e' = .returned (.int .i64 0) ∧ Blk w' g 56 (gcs n k q true true m e) ∧ Far (only g) w w' := by
  have K1 := Lib.hid (h.alloc (.cells k.cs.toArray 22))
  have Q1 := Lib.hid (Blk.new w 22 k.cs)
  have F0 : Hid (Far (only g) w (w.alloc (.cells k.cs.toArray 22))) := Lib.hid ((Far.refl _ _).alloc _)
  have HM : Hid ((gcs n p q true false m e).take 1 ++ (k.cs ++ (gcs n p q true false m e).drop (1 + 16)) = gcs n k q true false m e) := Lib.hid (gput_p k)
  have HO := Lib.hid (fun W (hW : Blk W g 56 (gcs n p q true false m e)) => other_true g n p q false m e W hW)
  clear h
  have c34 := gcell_v K1.out
  go_enter Try.func9, Try.ntmps9
  go_upto_region 5 with fail
  clear c34
  generalize (w.alloc (.cells k.cs.toArray 22)) = x1 at *
  go_wp2_with fail
  refine til_begin (fun W => Blk W g 56 (gcs n p q true false m e) ∧ Blk W w.heap.size 22 k.cs) 7 (by kernel_rfl) ?_
  have D0 := Lib.hid ((⟨K1.out.drew, Q1.out.drew⟩ : Blk x1.drew g 56 _ ∧ Blk x1.drew w.heap.size 22 k.cs))
  have F1 : Hid (Far (only g) w x1.drew) := Lib.hid F0.out.drew
  clear K1 Q1 F0
  generalize x1.drew = y0 at *
  refine til_take (i := 0) (oi := ⟨some 11, _, _, _, _, _⟩) (v := ?_) rfl (by kernel_rfl) (by kernel_rfl) (by kernel_rfl) (by decide) (by kernel_rfl) (by kernel_rfl) (fun _ _ _ h => h) (Or.inl ⟨by rfl, ?_⟩) D0.out ?_
  rotate_left
  · (intro W hSW; clear hSW; go_simp)
    first | done | (with_reducible rfl)
  try simp only [Act.put, List.setIfInBounds_toArray, List.set_cons_zero, List.set_cons_succ]
  refine til_take (i := 1) (oi := ⟨some 12, _, _, _, _, _⟩) (v := ?_) rfl (by kernel_rfl) (by kernel_rfl) (by kernel_rfl) (by decide) (by kernel_rfl) (by kernel_rfl) (fun _ _ _ h => h) (Or.inl ⟨by rfl, ?_⟩) D0.out ?_
  rotate_left
  · (intro W hSW; clear hSW; go_simp)
    first | done | (with_reducible rfl)
  try simp only [Act.put, List.setIfInBounds_toArray, List.set_cons_zero, List.set_cons_succ]
  refine til_take (i := 3) (oi := ⟨some 14, _, _, _, _, _⟩) (v := .agg k.cs.toArray) rfl (by kernel_rfl) (by kernel_rfl) (by kernel_rfl) (by decide) (by kernel_rfl) (by kernel_rfl) (fun _ _ _ h => h) (yields_key (by rfl) (.tmp 3) rfl _ 0 rfl k (fun _ h => whole_at h.2)) D0.out ?_
  try simp only [Act.put, List.setIfInBounds_toArray, List.set_cons_zero, List.set_cons_succ]
  refine til_takeP (i := 4) (oi := ⟨some 15, _, _, _, _, _⟩) (v := ?_) rfl (by kernel_rfl) (by kernel_rfl) (by kernel_rfl) (by decide) (fun _ _ _ h => h) (Or.inl ⟨by rfl, ?_⟩) (fun _ => D0.out) ?_
  rotate_left
  · (intro W hSW; clear hSW; go_simp)
    first | done | (with_reducible rfl)
  try simp only [Act.put, List.setIfInBounds_toArray, List.set_cons_zero, List.set_cons_succ]
  refine til_takeP (i := 5) (oi := ⟨some 16, _, _, _, _, _⟩) (v := ?_) rfl (by kernel_rfl) (by kernel_rfl) (by kernel_rfl) (by decide) (fun _ _ _ h => h) (Or.inl ⟨by rfl, ?_⟩) (fun _ => D0.out) ?_
  rotate_left
  · (intro W hSW; clear hSW; go_simp)
    first | done | (with_reducible rfl)
  try simp only [Act.put, List.setIfInBounds_toArray, List.set_cons_zero, List.set_cons_succ]
  refine til_one (i := 2) (o := ⟨some 13, _, _, _, _, _⟩) (by kernel_rfl) rfl (fun K hK => ?_)
  go_simp
  refine (HO.out _ D0.out.1).mono ?_
  rintro e5 w5 ⟨rfl, rfl⟩
  go_simp
  refine hK.out _ _ (fun _ => D0.out) ?_
  clear hK K
  try simp only [Act.put, List.setIfInBounds_toArray, List.set_cons_zero, List.set_cons_succ]
  refine til_takeP (i := 6) (oi := ⟨some 17, _, _, _, _, _⟩) (v := ?_) rfl (by kernel_rfl) (by kernel_rfl) (by kernel_rfl) (by decide) (fun _ _ _ h => h) (Or.inl ⟨by rfl, ?_⟩) (fun _ => D0.out) ?_
  rotate_left
  · (intro W hSW; clear hSW; go_simp)
    first | done | (with_reducible rfl)
  try simp only [Act.put, List.setIfInBounds_toArray, List.set_cons_zero, List.set_cons_succ]
  refine til_one (i := 7) (o := ⟨none, _, _, _, _, _⟩) (by kernel_rfl) rfl (fun K hK => ?_)
  refine step_putk (by rfl) (.tmp 17) (.tmp 14) rfl g 1 k rfl rfl 56 _ D0.out.1 (by rw [gcs_len]; decide) ?_
  intro w3 K3 F3
  rw [HM.out] at K3
  refine hK.out _ _ (past (by kernel_rfl)) ?_
  clear hK K
  try simp only [Act.put]
  refine til_done (by kernel_rfl) ?_ _
  have d34 := gcell_v K3.out
  have f34 := K3.out.frozen 34
  go_wp2_with fail
  go_ret
  refine ⟨rfl, ?_, ((F1.out.trans F3.out (fun _ _ e => e)).set_ (p := ⟨g, 34, none⟩) (fun _ => rfl) _)⟩
  have k1 := K3.out.set_ 34 (.bool true)
  rw [gset_v] at k1
  exact k1
theorem one_key (k : Key) (w : World) : (Instr.build 32 #[(0, .agg k.cs.toArray)]).run Try.prog w = .ok (.agg (k.cs ++ key0.cs).toArray) w := by
  obtain ⟨s, hs⟩ := k
  match s, hs with
  | [_, _, _, _, _, _, _, _, _, _, _, _, _, _, _, _], _ => exact run_build w 32 _ _ (by kernel_rfl)
theorem new_gcs (n : Nat) (k : Key) (w : World) : (Instr.build 56 #[(0, .int .i64 (n : Nat)), (1, .agg (k.cs ++ key0.cs).toArray)]).run Try.prog w = .ok (.agg (gcs n k key0 false false 0 0).toArray) w := by
  obtain ⟨s, hs⟩ := k
  match s, hs with
  | [_, _, _, _, _, _, _, _, _, _, _, _, _, _, _, _], _ => exact run_build w 56 _ _ (by kernel_rfl)
set_option maxRecDepth 100000 in
set_option maxHeartbeats 2000000 in
theorem new_bad (n : Int) (k : Key) (w : World) (h : ¬ (1 ≤ n ∧ n ≤ 64)) : Calls Try.prog 8 #[.int .i64 n, .agg k.cs.toArray] w (Ans (.tuple #[.pointer none, .int .i64 1]) w) := by
  have W1 : Hid (Below w.heap.size w (w.alloc (.cells k.cs.toArray 22))) := (Below.refl _ w).alloc (Nat.le_refl _) _
  by_cases h1 : n < 1
  · have hd : decide (n < 1) = true := by simp [h1]
    clear h
    go_enter Try.func8, Try.ntmps8
    go_wp2
    refine bodyPost_ret (v := .tuple #[.pointer none, .int .i64 1]) (by simp [results, Try.results8]) rfl ?_
    exact ⟨rfl, W1.out⟩
  · have h2 : 64 < n := by omega
    have hd : decide (n < 1) = false := by simp [h1]
    have hd2 : decide (64 < n) = true := by simp [h2]
    clear h
    go_enter Try.func8, Try.ntmps8
    go_wp2
    refine bodyPost_ret (v := .tuple #[.pointer none, .int .i64 1]) (by simp [results, Try.results8]) rfl ?_
    exact ⟨rfl, W1.out⟩
set_option maxRecDepth 100000 in
set_option maxHeartbeats 2000000 in
theorem new_good (n : Nat) (k : Key) (w : World) (h1 : 1 ≤ n) (h2 : n ≤ 64) : Calls Try.prog 8 #[.int .i64 (n : Nat), .agg k.cs.toArray] w fun e w' => e = .returned (.tuple #[.pointer (some ⟨w.heap.size + 1, 0, none⟩), .int .i64 0]) ∧ Blk w' (w.heap.size + 1) 56 (gcs n k key0 false false 0 0) ∧ Below w.heap.size w w' := by
  have Q1 := Lib.hid (Blk.new w 22 k.cs)
  have W1 : Hid (Below w.heap.size w (w.alloc (.cells k.cs.toArray 22))) := (Below.refl _ w).alloc (Nat.le_refl _) _
  have hz : (w.alloc (.cells k.cs.toArray 22)).heap.size = w.heap.size + 1 := by simp
  have i1 : decide ((n : Int) < 1) = false := by simp; omega
  have i2 : decide ((64 : Int) < (n : Int)) = false := by simp; omega
  have i3 : decide (64 < n) = false := by simp; omega
  go_enter Try.func8, Try.ntmps8
  go_upto_region 3 with fail
  clear i1 i2 i3
  generalize (w.alloc (.cells k.cs.toArray 22)) = x1 at *
  go_wp2_with (first
    | (refine wpList_key (by rfl) (.tmp 3) rfl _ 0 rfl k (whole_at Q1.out) ?_)
    | (refine wpList_build rfl 32 [(0, .tmp 13)] rfl [(0, .agg k.cs.toArray)] rfl (k.cs ++ key0.cs) (one_key k _) ?_)
    | (refine wpList_build rfl 56 [(0, .tmp 12), (1, .tmp 14)] rfl [(0, .int .i64 (n : Nat)), (1, .agg (k.cs ++ key0.cs).toArray)] rfl (gcs n k key0 false false 0 0) (new_gcs n k _) ?_))
  have K4 := Lib.hid (Blk.new x1 56 (gcs n k key0 false false 0 0))
  have W4 : Hid (Below w.heap.size w (x1.alloc (.cells (gcs n k key0 false false 0 0).toArray 56))) := Lib.hid (W1.out.alloc (by rw [hz]; omega) _)
  rw [hz] at K4
  refine bodyPost_ret (v := .tuple #[.pointer (some ⟨w.heap.size + 1, 0, none⟩), .int .i64 0]) (by simp [results, Try.results8]) rfl ?_
  exact ⟨rfl, K4.out, W4.out⟩
end Go.Proofs.Ytfhlgmmfknfamaa
