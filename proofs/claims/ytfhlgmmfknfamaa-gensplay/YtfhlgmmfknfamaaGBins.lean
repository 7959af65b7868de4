/- The program's gens: a flow's bins. Conditions: those of each theorem. -/
import Derived.Test.YtfhlgmmfknfamaaGCalls
namespace Go.Proofs.Ytfhlgmmfknfamaa
open Go.RowKit

set_option maxRecDepth 100000 in
set_option maxHeartbeats 2000000 in
theorem bins_none (g n : Nat) (p q : Key) (o v : Bool) (m e : Nat) (t : Int) (f : Flo) (l z : Int) (w : World) (h : Blk w g 56 (gcs n p q o v m e)) (hh : ∀ W, Blk W g 56 (gcs n p q o v m e) → Calls Try.prog 28 #[.pointer (some ⟨g, 0, none⟩), .int .i64 t] W fun e w' => e = .returned (.bool false) ∧ W = w') : Calls Try.prog 19 #[.pointer (some ⟨g, 0, none⟩), .int .i64 t, .agg f.cs.toArray, .int .i64 l, .int .i64 z] w (IRes [] w) := by
  have K1 := Lib.hid (h.alloc (.cells f.cs.toArray 45))
  have W1 : Hid (Below w.heap.size w (w.alloc (.cells f.cs.toArray 45))) := (Below.refl _ w).alloc (Nat.le_refl _) _
  have HH := Lib.hid hh
  clear h hh
  go_enter Try.func19, Try.ntmps19
  go_wp2_with (go_at_call 28; (with_reducible refine (HH.out _ K1.out).mono ?_); rintro e9 x9 ⟨rfl, rfl⟩)
  go_ret
  exact ⟨none, 0, rfl, Vals.none_, W1.out⟩
set_option maxRecDepth 100000 in
set_option maxHeartbeats 2000000 in
theorem bins_false (g n : Nat) (p q : Key) (o v : Bool) (m e : Nat) (f : Flo) (l z : Int) (w : World) (h : Blk w g 56 (gcs n p q o v m e)) (hh : ∀ W, Blk W g 56 (gcs n p q o v m e) → Calls Try.prog 28 #[.pointer (some ⟨g, 0, none⟩), .int .i64 0] W fun e w' => e = .returned (.bool true) ∧ W = w') (hk : (kof p q false).Ok) (hf : f.Ok) (hz : i64 z) : Calls Try.prog 19 #[.pointer (some ⟨g, 0, none⟩), .int .i64 0, .agg f.cs.toArray, .int .i64 l, .int .i64 z] w (IRes (kdKs.bi (kof p q false) f l z) w) := by
  have K1 := Lib.hid (h.alloc (.cells f.cs.toArray 45))
  have K2 := Lib.hid (Blk.new w 45 f.cs)
  have W1 : Hid (Below w.heap.size w (w.alloc (.cells f.cs.toArray 45))) := (Below.refl _ w).alloc (Nat.le_refl _) _
  have HH := Lib.hid hh
  have HB := Lib.hid (fun W => prog_bins (kof p q false) f l z W hk hf hz)
  generalize kdKs.bi (kof p q false) f l z = L at *
  clear h hk hf hz hh
  go_enter Try.func19, Try.ntmps19
  go_upto_region 3 with (go_at_call 28; (with_reducible refine (HH.out _ K1.out).mono ?_); rintro e9 x9 ⟨rfl, rfl⟩)
  generalize (w.alloc (.cells f.cs.toArray 45)) = x1 at *
  go_wp2_with fail
  have HS0 : Hid (Blk x1.drew g 56 (gcs n p q o v m e) ∧ Blk x1.drew w.heap.size 45 f.cs) := ⟨K1.out, K2.out⟩
  have W2 : Hid (Below w.heap.size w x1.drew) := W1.out.drew
  clear K1 K2 W1
  refine wp_region_held_drew (S := fun W => Blk W g 56 (gcs n p q o v m e) ∧ Blk W w.heap.size 45 f.cs) (by kernel_rfl) ?_ (fun _ => ?_)
  · exact HS0.out
  generalize x1.drew = x0 at *
  refine wpAnyH_take (i := 0) (oi := ⟨some 19, _, _, _, _, _⟩) (v := ?_) rfl (by kernel_rfl) (by kernel_rfl) (by kernel_rfl) (fun _ _ _ h => h) (Or.inl ⟨by rfl, ?_⟩) HS0.out ?_
  rotate_left
  · (intro W hSW; clear hSW; go_simp)
    first | done | (with_reducible rfl)
  try simp only [Act.put, List.setIfInBounds_toArray, List.set_cons_zero, List.set_cons_succ]
  refine wpAnyH_take (i := 1) (oi := ⟨some 20, _, _, _, _, _⟩) (v := ?_) rfl (by kernel_rfl) (by kernel_rfl) (by kernel_rfl) (fun _ _ _ h => h) (Or.inl ⟨by rfl, ?_⟩) HS0.out ?_
  rotate_left
  · (intro W hSW; clear hSW; go_simp)
    first | done | (with_reducible rfl)
  try simp only [Act.put, List.setIfInBounds_toArray, List.set_cons_zero, List.set_cons_succ]
  refine wpAnyH_take (i := 2) (oi := ⟨some 21, _, _, _, _, _⟩) (v := ?_) rfl (by kernel_rfl) (by kernel_rfl) (by kernel_rfl) (fun _ _ _ h => h) (Or.inl ⟨by rfl, ?_⟩) HS0.out ?_
  rotate_left
  · (intro W hSW; clear hSW; go_simp)
    first | done | (with_reducible rfl)
  try simp only [Act.put, List.setIfInBounds_toArray, List.set_cons_zero, List.set_cons_succ]
  refine wpAnyH_take (i := 3) (oi := ⟨some 22, _, _, _, _, _⟩) (v := ?_) rfl (by kernel_rfl) (by kernel_rfl) (by kernel_rfl) (fun _ _ _ h => h) (Or.inl ⟨by rfl, ?_⟩) HS0.out ?_
  rotate_left
  · (intro W hSW; clear hSW; go_simp)
    first | done | (with_reducible rfl)
  try simp only [Act.put, List.setIfInBounds_toArray, List.set_cons_zero, List.set_cons_succ]
  refine wpAnyH_take (i := 4) (oi := ⟨some 23, _, _, _, _, _⟩) (v := ?_) rfl (by kernel_rfl) (by kernel_rfl) (by kernel_rfl) (fun _ _ _ h => h) (Or.inl ⟨by rfl, ?_⟩) HS0.out ?_
  rotate_left
  · (intro W hSW; clear hSW; go_simp)
    first | done | (with_reducible rfl)
  try simp only [Act.put, List.setIfInBounds_toArray, List.set_cons_zero, List.set_cons_succ]
  refine wpAnyH_take (i := 5) (oi := ⟨some 24, _, _, _, _, _⟩) (v := .agg (kof p q false).cs.toArray) rfl (by kernel_rfl) (by kernel_rfl) (by kernel_rfl) (fun _ _ _ h => h) (yields_key (by rfl) (.tmp 23) rfl _ 1 rfl (kof p q false) (fun _ h => gkey h.1 false)) HS0.out ?_
  try simp only [Act.put, List.setIfInBounds_toArray, List.set_cons_zero, List.set_cons_succ]
  refine wpAnyH_take (i := 6) (oi := ⟨some 25, _, _, _, _, _⟩) (v := .agg f.cs.toArray) rfl (by kernel_rfl) (by kernel_rfl) (by kernel_rfl) (fun _ _ _ h => h) (yields_flo (by rfl) (.tmp 7) rfl _ 0 rfl f (fun _ h => whole_at h.2)) HS0.out ?_
  try simp only [Act.put, List.setIfInBounds_toArray, List.set_cons_zero, List.set_cons_succ]
  refine wpAnyH_take (i := 7) (oi := ⟨some 26, _, _, _, _, _⟩) (v := ?_) rfl (by kernel_rfl) (by kernel_rfl) (by kernel_rfl) (fun _ _ _ h => h) (Or.inl ⟨by rfl, ?_⟩) HS0.out ?_
  rotate_left
  · (intro W hSW; clear hSW; go_simp)
    first | done | (with_reducible rfl)
  try simp only [Act.put, List.setIfInBounds_toArray, List.set_cons_zero, List.set_cons_succ]
  refine wpAnyH_take (i := 8) (oi := ⟨some 27, _, _, _, _, _⟩) (v := ?_) rfl (by kernel_rfl) (by kernel_rfl) (by kernel_rfl) (fun _ _ _ h => h) (Or.inl ⟨by rfl, ?_⟩) HS0.out ?_
  rotate_left
  · (intro W hSW; clear hSW; go_simp)
    first | done | (with_reducible rfl)
  try simp only [Act.put, List.setIfInBounds_toArray, List.set_cons_zero, List.set_cons_succ]
  refine wpAnyH_ready (rs := [9]) (by kernel_rfl) (by simp) ?_
  refine AllReadyH.cons (o := ⟨some 28, _, _, _, _, _⟩) rfl (fun K hK => ?_) AllReadyH.nil
  go_simp
  refine (HB.out _).mono ?_
  rintro e x2 ⟨A, ca, rfl, hv, hb⟩
  have HS1 : Hid (Blk x2 g 56 (gcs n p q o v m e) ∧ Blk x2 w.heap.size 45 f.cs) := ⟨HS0.out.1.below hb, HS0.out.2.below hb⟩
  have W3 : Hid (Below w.heap.size w x2) := W2.out.trans (hb.mono W2.out.size)
  have V3 := Lib.hid hv
  clear hb hv W2 HS0
  go_simp
  refine hK.out _ _ ?_ (fun _ => ?_)
  · exact HS1.out
  clear hK K
  try simp only [Act.put, List.setIfInBounds_toArray, List.set_cons_zero, List.set_cons_succ]
  refine wpAnyH_take (i := 10) (oi := ⟨some 10, _, _, _, _, _⟩) (v := ?_) rfl (by kernel_rfl) (by kernel_rfl) (by kernel_rfl) (fun _ _ _ h => h) (Or.inl ⟨by rfl, ?_⟩) HS1.out ?_
  rotate_left
  · (intro W hSW; clear hSW; go_simp)
    first | done | (with_reducible rfl)
  try simp only [Act.put, List.setIfInBounds_toArray, List.set_cons_zero, List.set_cons_succ]
  refine wpAnyH_done (by kernel_rfl) ?_ _
  go_wp2_with fail
  go_ret
  exact ⟨A, ca, rfl, V3.out, W3.out⟩
set_option maxRecDepth 100000 in
set_option maxHeartbeats 2000000 in
theorem bins_true (g n : Nat) (p q : Key) (o v : Bool) (m e : Nat) (f : Flo) (l z : Int) (w : World) (h : Blk w g 56 (gcs n p q o v m e)) (hh : ∀ W, Blk W g 56 (gcs n p q o v m e) → Calls Try.prog 28 #[.pointer (some ⟨g, 0, none⟩), .int .i64 1] W fun e w' => e = .returned (.bool true) ∧ W = w') (hk : (kof p q true).Ok) (hf : f.Ok) (hz : i64 z) : Calls Try.prog 19 #[.pointer (some ⟨g, 0, none⟩), .int .i64 1, .agg f.cs.toArray, .int .i64 l, .int .i64 z] w (IRes (kdKs.bi (kof p q true) f l z) w) := by
  have K1 := Lib.hid (h.alloc (.cells f.cs.toArray 45))
  have K2 := Lib.hid (Blk.new w 45 f.cs)
  have W1 : Hid (Below w.heap.size w (w.alloc (.cells f.cs.toArray 45))) := (Below.refl _ w).alloc (Nat.le_refl _) _
  have HH := Lib.hid hh
  have HB := Lib.hid (fun W => prog_bins (kof p q true) f l z W hk hf hz)
  generalize kdKs.bi (kof p q true) f l z = L at *
  clear h hk hf hz hh
  go_enter Try.func19, Try.ntmps19
  go_upto_region 3 with (go_at_call 28; (with_reducible refine (HH.out _ K1.out).mono ?_); rintro e9 x9 ⟨rfl, rfl⟩)
  generalize (w.alloc (.cells f.cs.toArray 45)) = x1 at *
  go_wp2_with fail
  have HS0 : Hid (Blk x1.drew g 56 (gcs n p q o v m e) ∧ Blk x1.drew w.heap.size 45 f.cs) := ⟨K1.out, K2.out⟩
  have W2 : Hid (Below w.heap.size w x1.drew) := W1.out.drew
  clear K1 K2 W1
  refine wp_region_held_drew (S := fun W => Blk W g 56 (gcs n p q o v m e) ∧ Blk W w.heap.size 45 f.cs) (by kernel_rfl) ?_ (fun _ => ?_)
  · exact HS0.out
  generalize x1.drew = x0 at *
  refine wpAnyH_take (i := 0) (oi := ⟨some 19, _, _, _, _, _⟩) (v := ?_) rfl (by kernel_rfl) (by kernel_rfl) (by kernel_rfl) (fun _ _ _ h => h) (Or.inl ⟨by rfl, ?_⟩) HS0.out ?_
  rotate_left
  · (intro W hSW; clear hSW; go_simp)
    first | done | (with_reducible rfl)
  try simp only [Act.put, List.setIfInBounds_toArray, List.set_cons_zero, List.set_cons_succ]
  refine wpAnyH_take (i := 1) (oi := ⟨some 20, _, _, _, _, _⟩) (v := ?_) rfl (by kernel_rfl) (by kernel_rfl) (by kernel_rfl) (fun _ _ _ h => h) (Or.inl ⟨by rfl, ?_⟩) HS0.out ?_
  rotate_left
  · (intro W hSW; clear hSW; go_simp)
    first | done | (with_reducible rfl)
  try simp only [Act.put, List.setIfInBounds_toArray, List.set_cons_zero, List.set_cons_succ]
  refine wpAnyH_take (i := 2) (oi := ⟨some 21, _, _, _, _, _⟩) (v := ?_) rfl (by kernel_rfl) (by kernel_rfl) (by kernel_rfl) (fun _ _ _ h => h) (Or.inl ⟨by rfl, ?_⟩) HS0.out ?_
  rotate_left
  · (intro W hSW; clear hSW; go_simp)
    first | done | (with_reducible rfl)
  try simp only [Act.put, List.setIfInBounds_toArray, List.set_cons_zero, List.set_cons_succ]
  refine wpAnyH_take (i := 3) (oi := ⟨some 22, _, _, _, _, _⟩) (v := ?_) rfl (by kernel_rfl) (by kernel_rfl) (by kernel_rfl) (fun _ _ _ h => h) (Or.inl ⟨by rfl, ?_⟩) HS0.out ?_
  rotate_left
  · (intro W hSW; clear hSW; go_simp)
    first | done | (with_reducible rfl)
  try simp only [Act.put, List.setIfInBounds_toArray, List.set_cons_zero, List.set_cons_succ]
  refine wpAnyH_take (i := 4) (oi := ⟨some 23, _, _, _, _, _⟩) (v := ?_) rfl (by kernel_rfl) (by kernel_rfl) (by kernel_rfl) (fun _ _ _ h => h) (Or.inl ⟨by rfl, ?_⟩) HS0.out ?_
  rotate_left
  · (intro W hSW; clear hSW; go_simp)
    first | done | (with_reducible rfl)
  try simp only [Act.put, List.setIfInBounds_toArray, List.set_cons_zero, List.set_cons_succ]
  refine wpAnyH_take (i := 5) (oi := ⟨some 24, _, _, _, _, _⟩) (v := .agg (kof p q true).cs.toArray) rfl (by kernel_rfl) (by kernel_rfl) (by kernel_rfl) (fun _ _ _ h => h) (yields_key (by rfl) (.tmp 23) rfl _ 17 rfl (kof p q true) (fun _ h => gkey h.1 true)) HS0.out ?_
  try simp only [Act.put, List.setIfInBounds_toArray, List.set_cons_zero, List.set_cons_succ]
  refine wpAnyH_take (i := 6) (oi := ⟨some 25, _, _, _, _, _⟩) (v := .agg f.cs.toArray) rfl (by kernel_rfl) (by kernel_rfl) (by kernel_rfl) (fun _ _ _ h => h) (yields_flo (by rfl) (.tmp 7) rfl _ 0 rfl f (fun _ h => whole_at h.2)) HS0.out ?_
  try simp only [Act.put, List.setIfInBounds_toArray, List.set_cons_zero, List.set_cons_succ]
  refine wpAnyH_take (i := 7) (oi := ⟨some 26, _, _, _, _, _⟩) (v := ?_) rfl (by kernel_rfl) (by kernel_rfl) (by kernel_rfl) (fun _ _ _ h => h) (Or.inl ⟨by rfl, ?_⟩) HS0.out ?_
  rotate_left
  · (intro W hSW; clear hSW; go_simp)
    first | done | (with_reducible rfl)
  try simp only [Act.put, List.setIfInBounds_toArray, List.set_cons_zero, List.set_cons_succ]
  refine wpAnyH_take (i := 8) (oi := ⟨some 27, _, _, _, _, _⟩) (v := ?_) rfl (by kernel_rfl) (by kernel_rfl) (by kernel_rfl) (fun _ _ _ h => h) (Or.inl ⟨by rfl, ?_⟩) HS0.out ?_
  rotate_left
  · (intro W hSW; clear hSW; go_simp)
    first | done | (with_reducible rfl)
  try simp only [Act.put, List.setIfInBounds_toArray, List.set_cons_zero, List.set_cons_succ]
  refine wpAnyH_ready (rs := [9]) (by kernel_rfl) (by simp) ?_
  refine AllReadyH.cons (o := ⟨some 28, _, _, _, _, _⟩) rfl (fun K hK => ?_) AllReadyH.nil
  go_simp
  refine (HB.out _).mono ?_
  rintro e x2 ⟨A, ca, rfl, hv, hb⟩
  have HS1 : Hid (Blk x2 g 56 (gcs n p q o v m e) ∧ Blk x2 w.heap.size 45 f.cs) := ⟨HS0.out.1.below hb, HS0.out.2.below hb⟩
  have W3 : Hid (Below w.heap.size w x2) := W2.out.trans (hb.mono W2.out.size)
  have V3 := Lib.hid hv
  clear hb hv W2 HS0
  go_simp
  refine hK.out _ _ ?_ (fun _ => ?_)
  · exact HS1.out
  clear hK K
  try simp only [Act.put, List.setIfInBounds_toArray, List.set_cons_zero, List.set_cons_succ]
  refine wpAnyH_take (i := 10) (oi := ⟨some 10, _, _, _, _, _⟩) (v := ?_) rfl (by kernel_rfl) (by kernel_rfl) (by kernel_rfl) (fun _ _ _ h => h) (Or.inl ⟨by rfl, ?_⟩) HS1.out ?_
  rotate_left
  · (intro W hSW; clear hSW; go_simp)
    first | done | (with_reducible rfl)
  try simp only [Act.put, List.setIfInBounds_toArray, List.set_cons_zero, List.set_cons_succ]
  refine wpAnyH_done (by kernel_rfl) ?_ _
  go_wp2_with fail
  go_ret
  exact ⟨A, ca, rfl, V3.out, W3.out⟩
end Go.Proofs.Ytfhlgmmfknfamaa
