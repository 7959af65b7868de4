/- The document's Bins. Conditions: those of each theorem. -/
import Derived.Test.YtfhlgmmfknfamaaDocWhere
namespace Go.Proofs.Ytfhlgmmfknfamaa
open Go.RowKit

set_option maxRecDepth 100000 in
set_option maxHeartbeats 2000000 in
theorem dbins_own_false (K : Ks) (R : RefK K) (S : St) (f : Flo) (l n : Int) (w : World) (hS : S.Ok) (hf : f.Ok) (hl : i64 l) (hn : i64 n) (ho : S.o = false) : Calls Try.prog 25 #[.agg (dcs S).toArray, .int .i64 0, .agg f.cs.toArray, .int .i64 l, .int .i64 n] w (IRes (K.bi (S.key false) f l n) w) := by
  obtain ⟨n0, n1, n2⟩ := two_box (dcs S) f.cs 34 45 w
  have K1 := Lib.hid n0
  have K2 := Lib.hid n1
  have W1 := Lib.hid n2
  have HB := Lib.hid (fun W => R.bins (S.key false) f l n W (hS.key _) hf hl hn)
  generalize K.bi (S.key false) f l n = L at *
  clear n0 n1 n2 hS hf hl hn R
  go_enter Try.func25, Try.ntmps25
  go_upto_region 1 with fail
  generalize ((w.alloc (.cells (dcs S).toArray 34)).alloc (.cells f.cs.toArray 45)) = x1 at *
  obtain ⟨d0, d1, d2, d3⟩ := dcells K1.out
  rw [ho, show ((nm false : Nat) : Int) = 0 from rfl] at d1
  go_upto_region 2 with fail
  clear d0 d1 d2 d3
  have HS0 : Hid (Blk x1.drew w.heap.size 34 (dcs S) ∧ Blk x1.drew (w.heap.size + 1) 45 f.cs) := ⟨K1.out, K2.out⟩
  have W2 : Hid (Below w.heap.size w x1.drew) := W1.out.drew
  clear K1 K2 W1
  refine wp_region_held_drew (S := fun W => Blk W w.heap.size 34 (dcs S) ∧ Blk W (w.heap.size + 1) 45 f.cs) (by kernel_rfl) ?_ (fun _ => ?_)
  · exact HS0.out
  generalize x1.drew = x0 at *
  refine wpAnyH_take (i := 0) (oi := ⟨some 27, _, _, _, _, _⟩) (v := ?_) rfl (by kernel_rfl) (by kernel_rfl) (by kernel_rfl) (fun _ _ _ h => h) (Or.inl ⟨by rfl, ?_⟩) HS0.out ?_
  rotate_left
  · (intro W hSW; clear hSW; go_simp)
    first | done | (with_reducible rfl)
  try simp only [Act.put, List.setIfInBounds_toArray, List.set_cons_zero, List.set_cons_succ]
  refine wpAnyH_take (i := 1) (oi := ⟨some 28, _, _, _, _, _⟩) (v := ?_) rfl (by kernel_rfl) (by kernel_rfl) (by kernel_rfl) (fun _ _ _ h => h) (Or.inl ⟨by rfl, ?_⟩) HS0.out ?_
  rotate_left
  · (intro W hSW; clear hSW; go_simp)
    first | done | (with_reducible rfl)
  try simp only [Act.put, List.setIfInBounds_toArray, List.set_cons_zero, List.set_cons_succ]
  refine wpAnyH_take (i := 2) (oi := ⟨some 29, _, _, _, _, _⟩) (v := ?_) rfl (by kernel_rfl) (by kernel_rfl) (by kernel_rfl) (fun _ _ _ h => h) (Or.inl ⟨by rfl, ?_⟩) HS0.out ?_
  rotate_left
  · (intro W hSW; clear hSW; go_simp)
    first | done | (with_reducible rfl)
  try simp only [Act.put, List.setIfInBounds_toArray, List.set_cons_zero, List.set_cons_succ]
  refine wpAnyH_take (i := 3) (oi := ⟨some 30, _, _, _, _, _⟩) (v := .agg (S.key false).cs.toArray) rfl (by kernel_rfl) (by kernel_rfl) (by kernel_rfl) (fun _ _ _ h => h) (yields_key (by rfl) (.tmp 29) rfl _ 1 rfl (S.key false) (fun _ h => dkey h.1 false)) HS0.out ?_
  try simp only [Act.put, List.setIfInBounds_toArray, List.set_cons_zero, List.set_cons_succ]
  refine wpAnyH_take (i := 4) (oi := ⟨some 31, _, _, _, _, _⟩) (v := .agg f.cs.toArray) rfl (by kernel_rfl) (by kernel_rfl) (by kernel_rfl) (fun _ _ _ h => h) (yields_flo (by rfl) (.tmp 7) rfl _ 0 rfl f (fun _ h => whole_at h.2)) HS0.out ?_
  try simp only [Act.put, List.setIfInBounds_toArray, List.set_cons_zero, List.set_cons_succ]
  refine wpAnyH_take (i := 5) (oi := ⟨some 32, _, _, _, _, _⟩) (v := ?_) rfl (by kernel_rfl) (by kernel_rfl) (by kernel_rfl) (fun _ _ _ h => h) (Or.inl ⟨by rfl, ?_⟩) HS0.out ?_
  rotate_left
  · (intro W hSW; clear hSW; go_simp)
    first | done | (with_reducible rfl)
  try simp only [Act.put, List.setIfInBounds_toArray, List.set_cons_zero, List.set_cons_succ]
  refine wpAnyH_take (i := 6) (oi := ⟨some 33, _, _, _, _, _⟩) (v := ?_) rfl (by kernel_rfl) (by kernel_rfl) (by kernel_rfl) (fun _ _ _ h => h) (Or.inl ⟨by rfl, ?_⟩) HS0.out ?_
  rotate_left
  · (intro W hSW; clear hSW; go_simp)
    first | done | (with_reducible rfl)
  try simp only [Act.put, List.setIfInBounds_toArray, List.set_cons_zero, List.set_cons_succ]
  refine wpAnyH_ready (rs := [7]) (by kernel_rfl) (by simp) ?_
  refine AllReadyH.cons (o := ⟨some 34, _, _, _, _, _⟩) rfl (fun K hK => ?_) AllReadyH.nil
  go_simp
  refine (HB.out _).mono ?_
  rintro e x1 ⟨A, c, rfl, hE, hb⟩
  have HS1 : Hid (Blk x1 w.heap.size 34 (dcs S) ∧ Blk x1 (w.heap.size + 1) 45 f.cs) := ⟨HS0.out.1.below hb, HS0.out.2.below hb⟩
  have W3 : Hid (Below w.heap.size w x1) := W2.out.trans (hb.mono W2.out.size)
  have E1 := Lib.hid hE
  clear hb hE W2 HS0
  go_simp
  refine hK.out _ _ ?_ (fun _ => ?_)
  · exact HS1.out
  clear hK K
  try simp only [Act.put, List.setIfInBounds_toArray, List.set_cons_zero, List.set_cons_succ]
  refine wpAnyH_take (i := 8) (oi := ⟨some 10, _, _, _, _, _⟩) (v := ?_) rfl (by kernel_rfl) (by kernel_rfl) (by kernel_rfl) (fun _ _ _ h => h) (Or.inl ⟨by rfl, ?_⟩) HS1.out ?_
  rotate_left
  · (intro W hSW; clear hSW; go_simp)
    first | done | (with_reducible rfl)
  try simp only [Act.put, List.setIfInBounds_toArray, List.set_cons_zero, List.set_cons_succ]
  refine wpAnyH_done (by kernel_rfl) ?_ _
  go_wp2_with fail
  go_ret
  exact ⟨A, c, rfl, E1.out, W3.out⟩
set_option maxRecDepth 100000 in
set_option maxHeartbeats 2000000 in
theorem dbins_own_true (K : Ks) (R : RefK K) (S : St) (f : Flo) (l n : Int) (w : World) (hS : S.Ok) (hf : f.Ok) (hl : i64 l) (hn : i64 n) (ho : S.o = true) : Calls Try.prog 25 #[.agg (dcs S).toArray, .int .i64 1, .agg f.cs.toArray, .int .i64 l, .int .i64 n] w (IRes (K.bi (S.key true) f l n) w) := by
  obtain ⟨n0, n1, n2⟩ := two_box (dcs S) f.cs 34 45 w
  have K1 := Lib.hid n0
  have K2 := Lib.hid n1
  have W1 := Lib.hid n2
  have HB := Lib.hid (fun W => R.bins (S.key true) f l n W (hS.key _) hf hl hn)
  generalize K.bi (S.key true) f l n = L at *
  clear n0 n1 n2 hS hf hl hn R
  go_enter Try.func25, Try.ntmps25
  go_upto_region 1 with fail
  generalize ((w.alloc (.cells (dcs S).toArray 34)).alloc (.cells f.cs.toArray 45)) = x1 at *
  obtain ⟨d0, d1, d2, d3⟩ := dcells K1.out
  rw [ho, show ((nm true : Nat) : Int) = 1 from rfl] at d1
  go_upto_region 2 with fail
  clear d0 d1 d2 d3
  have HS0 : Hid (Blk x1.drew w.heap.size 34 (dcs S) ∧ Blk x1.drew (w.heap.size + 1) 45 f.cs) := ⟨K1.out, K2.out⟩
  have W2 : Hid (Below w.heap.size w x1.drew) := W1.out.drew
  clear K1 K2 W1
  refine wp_region_held_drew (S := fun W => Blk W w.heap.size 34 (dcs S) ∧ Blk W (w.heap.size + 1) 45 f.cs) (by kernel_rfl) ?_ (fun _ => ?_)
  · exact HS0.out
  generalize x1.drew = x0 at *
  refine wpAnyH_take (i := 0) (oi := ⟨some 27, _, _, _, _, _⟩) (v := ?_) rfl (by kernel_rfl) (by kernel_rfl) (by kernel_rfl) (fun _ _ _ h => h) (Or.inl ⟨by rfl, ?_⟩) HS0.out ?_
  rotate_left
  · (intro W hSW; clear hSW; go_simp)
    first | done | (with_reducible rfl)
  try simp only [Act.put, List.setIfInBounds_toArray, List.set_cons_zero, List.set_cons_succ]
  refine wpAnyH_take (i := 1) (oi := ⟨some 28, _, _, _, _, _⟩) (v := ?_) rfl (by kernel_rfl) (by kernel_rfl) (by kernel_rfl) (fun _ _ _ h => h) (Or.inl ⟨by rfl, ?_⟩) HS0.out ?_
  rotate_left
  · (intro W hSW; clear hSW; go_simp)
    first | done | (with_reducible rfl)
  try simp only [Act.put, List.setIfInBounds_toArray, List.set_cons_zero, List.set_cons_succ]
  refine wpAnyH_take (i := 2) (oi := ⟨some 29, _, _, _, _, _⟩) (v := ?_) rfl (by kernel_rfl) (by kernel_rfl) (by kernel_rfl) (fun _ _ _ h => h) (Or.inl ⟨by rfl, ?_⟩) HS0.out ?_
  rotate_left
  · (intro W hSW; clear hSW; go_simp)
    first | done | (with_reducible rfl)
  try simp only [Act.put, List.setIfInBounds_toArray, List.set_cons_zero, List.set_cons_succ]
  refine wpAnyH_take (i := 3) (oi := ⟨some 30, _, _, _, _, _⟩) (v := .agg (S.key true).cs.toArray) rfl (by kernel_rfl) (by kernel_rfl) (by kernel_rfl) (fun _ _ _ h => h) (yields_key (by rfl) (.tmp 29) rfl _ 17 rfl (S.key true) (fun _ h => dkey h.1 true)) HS0.out ?_
  try simp only [Act.put, List.setIfInBounds_toArray, List.set_cons_zero, List.set_cons_succ]
  refine wpAnyH_take (i := 4) (oi := ⟨some 31, _, _, _, _, _⟩) (v := .agg f.cs.toArray) rfl (by kernel_rfl) (by kernel_rfl) (by kernel_rfl) (fun _ _ _ h => h) (yields_flo (by rfl) (.tmp 7) rfl _ 0 rfl f (fun _ h => whole_at h.2)) HS0.out ?_
  try simp only [Act.put, List.setIfInBounds_toArray, List.set_cons_zero, List.set_cons_succ]
  refine wpAnyH_take (i := 5) (oi := ⟨some 32, _, _, _, _, _⟩) (v := ?_) rfl (by kernel_rfl) (by kernel_rfl) (by kernel_rfl) (fun _ _ _ h => h) (Or.inl ⟨by rfl, ?_⟩) HS0.out ?_
  rotate_left
  · (intro W hSW; clear hSW; go_simp)
    first | done | (with_reducible rfl)
  try simp only [Act.put, List.setIfInBounds_toArray, List.set_cons_zero, List.set_cons_succ]
  refine wpAnyH_take (i := 6) (oi := ⟨some 33, _, _, _, _, _⟩) (v := ?_) rfl (by kernel_rfl) (by kernel_rfl) (by kernel_rfl) (fun _ _ _ h => h) (Or.inl ⟨by rfl, ?_⟩) HS0.out ?_
  rotate_left
  · (intro W hSW; clear hSW; go_simp)
    first | done | (with_reducible rfl)
  try simp only [Act.put, List.setIfInBounds_toArray, List.set_cons_zero, List.set_cons_succ]
  refine wpAnyH_ready (rs := [7]) (by kernel_rfl) (by simp) ?_
  refine AllReadyH.cons (o := ⟨some 34, _, _, _, _, _⟩) rfl (fun K hK => ?_) AllReadyH.nil
  go_simp
  refine (HB.out _).mono ?_
  rintro e x1 ⟨A, c, rfl, hE, hb⟩
  have HS1 : Hid (Blk x1 w.heap.size 34 (dcs S) ∧ Blk x1 (w.heap.size + 1) 45 f.cs) := ⟨HS0.out.1.below hb, HS0.out.2.below hb⟩
  have W3 : Hid (Below w.heap.size w x1) := W2.out.trans (hb.mono W2.out.size)
  have E1 := Lib.hid hE
  clear hb hE W2 HS0
  go_simp
  refine hK.out _ _ ?_ (fun _ => ?_)
  · exact HS1.out
  clear hK K
  try simp only [Act.put, List.setIfInBounds_toArray, List.set_cons_zero, List.set_cons_succ]
  refine wpAnyH_take (i := 8) (oi := ⟨some 10, _, _, _, _, _⟩) (v := ?_) rfl (by kernel_rfl) (by kernel_rfl) (by kernel_rfl) (fun _ _ _ h => h) (Or.inl ⟨by rfl, ?_⟩) HS1.out ?_
  rotate_left
  · (intro W hSW; clear hSW; go_simp)
    first | done | (with_reducible rfl)
  try simp only [Act.put, List.setIfInBounds_toArray, List.set_cons_zero, List.set_cons_succ]
  refine wpAnyH_done (by kernel_rfl) ?_ _
  go_wp2_with fail
  go_ret
  exact ⟨A, c, rfl, E1.out, W3.out⟩
set_option maxRecDepth 100000 in
set_option maxHeartbeats 2000000 in
theorem dbins_new_false (K : Ks) (R : RefK K) (S : St) (f : Flo) (l n : Int) (w : World) (hS : S.Ok) (hf : f.Ok) (hl : i64 l) (hn : i64 n) (ho : S.o = false) (m : Nat) (hm : S.mv = some m) : Calls Try.prog 25 #[.agg (dcs S).toArray, .int .i64 1, .agg f.cs.toArray, .int .i64 l, .int .i64 n] w (IRes (K.bi (S.key true) f l n) w) := by
  obtain ⟨n0, n1, n2⟩ := two_box (dcs S) f.cs 34 45 w
  have K1 := Lib.hid n0
  have K2 := Lib.hid n1
  have W1 := Lib.hid n2
  have HB := Lib.hid (fun W => R.bins (S.key true) f l n W (hS.key _) hf hl hn)
  generalize K.bi (S.key true) f l n = L at *
  have e2 : mvI S = (m : Nat) := by unfold mvI; rw [hm]
  clear n0 n1 n2 hS hf hl hn R hm
  go_enter Try.func25, Try.ntmps25
  go_upto_region 1 with fail
  generalize ((w.alloc (.cells (dcs S).toArray 34)).alloc (.cells f.cs.toArray 45)) = x1 at *
  obtain ⟨d0, d1, d2, d3⟩ := dcells K1.out
  rw [ho, show ((nm false : Nat) : Int) = 0 from rfl] at d1
  rw [e2] at d2
  go_upto_region 2 with fail
  clear d0 d1 d2 d3
  have HS0 : Hid (Blk x1.drew w.heap.size 34 (dcs S) ∧ Blk x1.drew (w.heap.size + 1) 45 f.cs) := ⟨K1.out, K2.out⟩
  have W2 : Hid (Below w.heap.size w x1.drew) := W1.out.drew
  clear K1 K2 W1
  refine wp_region_held_drew (S := fun W => Blk W w.heap.size 34 (dcs S) ∧ Blk W (w.heap.size + 1) 45 f.cs) (by kernel_rfl) ?_ (fun _ => ?_)
  · exact HS0.out
  generalize x1.drew = x0 at *
  refine wpAnyH_take (i := 0) (oi := ⟨some 27, _, _, _, _, _⟩) (v := ?_) rfl (by kernel_rfl) (by kernel_rfl) (by kernel_rfl) (fun _ _ _ h => h) (Or.inl ⟨by rfl, ?_⟩) HS0.out ?_
  rotate_left
  · (intro W hSW; clear hSW; go_simp)
    first | done | (with_reducible rfl)
  try simp only [Act.put, List.setIfInBounds_toArray, List.set_cons_zero, List.set_cons_succ]
  refine wpAnyH_take (i := 1) (oi := ⟨some 28, _, _, _, _, _⟩) (v := ?_) rfl (by kernel_rfl) (by kernel_rfl) (by kernel_rfl) (fun _ _ _ h => h) (Or.inl ⟨by rfl, ?_⟩) HS0.out ?_
  rotate_left
  · (intro W hSW; clear hSW; go_simp)
    first | done | (with_reducible rfl)
  try simp only [Act.put, List.setIfInBounds_toArray, List.set_cons_zero, List.set_cons_succ]
  refine wpAnyH_take (i := 2) (oi := ⟨some 29, _, _, _, _, _⟩) (v := ?_) rfl (by kernel_rfl) (by kernel_rfl) (by kernel_rfl) (fun _ _ _ h => h) (Or.inl ⟨by rfl, ?_⟩) HS0.out ?_
  rotate_left
  · (intro W hSW; clear hSW; go_simp)
    first | done | (with_reducible rfl)
  try simp only [Act.put, List.setIfInBounds_toArray, List.set_cons_zero, List.set_cons_succ]
  refine wpAnyH_take (i := 3) (oi := ⟨some 30, _, _, _, _, _⟩) (v := .agg (S.key true).cs.toArray) rfl (by kernel_rfl) (by kernel_rfl) (by kernel_rfl) (fun _ _ _ h => h) (yields_key (by rfl) (.tmp 29) rfl _ 17 rfl (S.key true) (fun _ h => dkey h.1 true)) HS0.out ?_
  try simp only [Act.put, List.setIfInBounds_toArray, List.set_cons_zero, List.set_cons_succ]
  refine wpAnyH_take (i := 4) (oi := ⟨some 31, _, _, _, _, _⟩) (v := .agg f.cs.toArray) rfl (by kernel_rfl) (by kernel_rfl) (by kernel_rfl) (fun _ _ _ h => h) (yields_flo (by rfl) (.tmp 7) rfl _ 0 rfl f (fun _ h => whole_at h.2)) HS0.out ?_
  try simp only [Act.put, List.setIfInBounds_toArray, List.set_cons_zero, List.set_cons_succ]
  refine wpAnyH_take (i := 5) (oi := ⟨some 32, _, _, _, _, _⟩) (v := ?_) rfl (by kernel_rfl) (by kernel_rfl) (by kernel_rfl) (fun _ _ _ h => h) (Or.inl ⟨by rfl, ?_⟩) HS0.out ?_
  rotate_left
  · (intro W hSW; clear hSW; go_simp)
    first | done | (with_reducible rfl)
  try simp only [Act.put, List.setIfInBounds_toArray, List.set_cons_zero, List.set_cons_succ]
  refine wpAnyH_take (i := 6) (oi := ⟨some 33, _, _, _, _, _⟩) (v := ?_) rfl (by kernel_rfl) (by kernel_rfl) (by kernel_rfl) (fun _ _ _ h => h) (Or.inl ⟨by rfl, ?_⟩) HS0.out ?_
  rotate_left
  · (intro W hSW; clear hSW; go_simp)
    first | done | (with_reducible rfl)
  try simp only [Act.put, List.setIfInBounds_toArray, List.set_cons_zero, List.set_cons_succ]
  refine wpAnyH_ready (rs := [7]) (by kernel_rfl) (by simp) ?_
  refine AllReadyH.cons (o := ⟨some 34, _, _, _, _, _⟩) rfl (fun K hK => ?_) AllReadyH.nil
  go_simp
  refine (HB.out _).mono ?_
  rintro e x1 ⟨A, c, rfl, hE, hb⟩
  have HS1 : Hid (Blk x1 w.heap.size 34 (dcs S) ∧ Blk x1 (w.heap.size + 1) 45 f.cs) := ⟨HS0.out.1.below hb, HS0.out.2.below hb⟩
  have W3 : Hid (Below w.heap.size w x1) := W2.out.trans (hb.mono W2.out.size)
  have E1 := Lib.hid hE
  clear hb hE W2 HS0
  go_simp
  refine hK.out _ _ ?_ (fun _ => ?_)
  · exact HS1.out
  clear hK K
  try simp only [Act.put, List.setIfInBounds_toArray, List.set_cons_zero, List.set_cons_succ]
  refine wpAnyH_take (i := 8) (oi := ⟨some 10, _, _, _, _, _⟩) (v := ?_) rfl (by kernel_rfl) (by kernel_rfl) (by kernel_rfl) (fun _ _ _ h => h) (Or.inl ⟨by rfl, ?_⟩) HS1.out ?_
  rotate_left
  · (intro W hSW; clear hSW; go_simp)
    first | done | (with_reducible rfl)
  try simp only [Act.put, List.setIfInBounds_toArray, List.set_cons_zero, List.set_cons_succ]
  refine wpAnyH_done (by kernel_rfl) ?_ _
  go_wp2_with fail
  go_ret
  exact ⟨A, c, rfl, E1.out, W3.out⟩
set_option maxRecDepth 100000 in
set_option maxHeartbeats 2000000 in
theorem dbins_new_true (K : Ks) (R : RefK K) (S : St) (f : Flo) (l n : Int) (w : World) (hS : S.Ok) (hf : f.Ok) (hl : i64 l) (hn : i64 n) (ho : S.o = true) (m : Nat) (hm : S.mv = some m) : Calls Try.prog 25 #[.agg (dcs S).toArray, .int .i64 0, .agg f.cs.toArray, .int .i64 l, .int .i64 n] w (IRes (K.bi (S.key false) f l n) w) := by
  obtain ⟨n0, n1, n2⟩ := two_box (dcs S) f.cs 34 45 w
  have K1 := Lib.hid n0
  have K2 := Lib.hid n1
  have W1 := Lib.hid n2
  have HB := Lib.hid (fun W => R.bins (S.key false) f l n W (hS.key _) hf hl hn)
  generalize K.bi (S.key false) f l n = L at *
  have e2 : mvI S = (m : Nat) := by unfold mvI; rw [hm]
  clear n0 n1 n2 hS hf hl hn R hm
  go_enter Try.func25, Try.ntmps25
  go_upto_region 1 with fail
  generalize ((w.alloc (.cells (dcs S).toArray 34)).alloc (.cells f.cs.toArray 45)) = x1 at *
  obtain ⟨d0, d1, d2, d3⟩ := dcells K1.out
  rw [ho, show ((nm true : Nat) : Int) = 1 from rfl] at d1
  rw [e2] at d2
  go_upto_region 2 with fail
  clear d0 d1 d2 d3
  have HS0 : Hid (Blk x1.drew w.heap.size 34 (dcs S) ∧ Blk x1.drew (w.heap.size + 1) 45 f.cs) := ⟨K1.out, K2.out⟩
  have W2 : Hid (Below w.heap.size w x1.drew) := W1.out.drew
  clear K1 K2 W1
  refine wp_region_held_drew (S := fun W => Blk W w.heap.size 34 (dcs S) ∧ Blk W (w.heap.size + 1) 45 f.cs) (by kernel_rfl) ?_ (fun _ => ?_)
  · exact HS0.out
  generalize x1.drew = x0 at *
  refine wpAnyH_take (i := 0) (oi := ⟨some 27, _, _, _, _, _⟩) (v := ?_) rfl (by kernel_rfl) (by kernel_rfl) (by kernel_rfl) (fun _ _ _ h => h) (Or.inl ⟨by rfl, ?_⟩) HS0.out ?_
  rotate_left
  · (intro W hSW; clear hSW; go_simp)
    first | done | (with_reducible rfl)
  try simp only [Act.put, List.setIfInBounds_toArray, List.set_cons_zero, List.set_cons_succ]
  refine wpAnyH_take (i := 1) (oi := ⟨some 28, _, _, _, _, _⟩) (v := ?_) rfl (by kernel_rfl) (by kernel_rfl) (by kernel_rfl) (fun _ _ _ h => h) (Or.inl ⟨by rfl, ?_⟩) HS0.out ?_
  rotate_left
  · (intro W hSW; clear hSW; go_simp)
    first | done | (with_reducible rfl)
  try simp only [Act.put, List.setIfInBounds_toArray, List.set_cons_zero, List.set_cons_succ]
  refine wpAnyH_take (i := 2) (oi := ⟨some 29, _, _, _, _, _⟩) (v := ?_) rfl (by kernel_rfl) (by kernel_rfl) (by kernel_rfl) (fun _ _ _ h => h) (Or.inl ⟨by rfl, ?_⟩) HS0.out ?_
  rotate_left
  · (intro W hSW; clear hSW; go_simp)
    first | done | (with_reducible rfl)
  try simp only [Act.put, List.setIfInBounds_toArray, List.set_cons_zero, List.set_cons_succ]
  refine wpAnyH_take (i := 3) (oi := ⟨some 30, _, _, _, _, _⟩) (v := .agg (S.key false).cs.toArray) rfl (by kernel_rfl) (by kernel_rfl) (by kernel_rfl) (fun _ _ _ h => h) (yields_key (by rfl) (.tmp 29) rfl _ 1 rfl (S.key false) (fun _ h => dkey h.1 false)) HS0.out ?_
  try simp only [Act.put, List.setIfInBounds_toArray, List.set_cons_zero, List.set_cons_succ]
  refine wpAnyH_take (i := 4) (oi := ⟨some 31, _, _, _, _, _⟩) (v := .agg f.cs.toArray) rfl (by kernel_rfl) (by kernel_rfl) (by kernel_rfl) (fun _ _ _ h => h) (yields_flo (by rfl) (.tmp 7) rfl _ 0 rfl f (fun _ h => whole_at h.2)) HS0.out ?_
  try simp only [Act.put, List.setIfInBounds_toArray, List.set_cons_zero, List.set_cons_succ]
  refine wpAnyH_take (i := 5) (oi := ⟨some 32, _, _, _, _, _⟩) (v := ?_) rfl (by kernel_rfl) (by kernel_rfl) (by kernel_rfl) (fun _ _ _ h => h) (Or.inl ⟨by rfl, ?_⟩) HS0.out ?_
  rotate_left
  · (intro W hSW; clear hSW; go_simp)
    first | done | (with_reducible rfl)
  try simp only [Act.put, List.setIfInBounds_toArray, List.set_cons_zero, List.set_cons_succ]
  refine wpAnyH_take (i := 6) (oi := ⟨some 33, _, _, _, _, _⟩) (v := ?_) rfl (by kernel_rfl) (by kernel_rfl) (by kernel_rfl) (fun _ _ _ h => h) (Or.inl ⟨by rfl, ?_⟩) HS0.out ?_
  rotate_left
  · (intro W hSW; clear hSW; go_simp)
    first | done | (with_reducible rfl)
  try simp only [Act.put, List.setIfInBounds_toArray, List.set_cons_zero, List.set_cons_succ]
  refine wpAnyH_ready (rs := [7]) (by kernel_rfl) (by simp) ?_
  refine AllReadyH.cons (o := ⟨some 34, _, _, _, _, _⟩) rfl (fun K hK => ?_) AllReadyH.nil
  go_simp
  refine (HB.out _).mono ?_
  rintro e x1 ⟨A, c, rfl, hE, hb⟩
  have HS1 : Hid (Blk x1 w.heap.size 34 (dcs S) ∧ Blk x1 (w.heap.size + 1) 45 f.cs) := ⟨HS0.out.1.below hb, HS0.out.2.below hb⟩
  have W3 : Hid (Below w.heap.size w x1) := W2.out.trans (hb.mono W2.out.size)
  have E1 := Lib.hid hE
  clear hb hE W2 HS0
  go_simp
  refine hK.out _ _ ?_ (fun _ => ?_)
  · exact HS1.out
  clear hK K
  try simp only [Act.put, List.setIfInBounds_toArray, List.set_cons_zero, List.set_cons_succ]
  refine wpAnyH_take (i := 8) (oi := ⟨some 10, _, _, _, _, _⟩) (v := ?_) rfl (by kernel_rfl) (by kernel_rfl) (by kernel_rfl) (fun _ _ _ h => h) (Or.inl ⟨by rfl, ?_⟩) HS1.out ?_
  rotate_left
  · (intro W hSW; clear hSW; go_simp)
    first | done | (with_reducible rfl)
  try simp only [Act.put, List.setIfInBounds_toArray, List.set_cons_zero, List.set_cons_succ]
  refine wpAnyH_done (by kernel_rfl) ?_ _
  go_wp2_with fail
  go_ret
  exact ⟨A, c, rfl, E1.out, W3.out⟩
set_option maxRecDepth 100000 in
set_option maxHeartbeats 2000000 in
theorem dbins_none_false (S : St) (f : Flo) (l n : Int) (w : World) (ho : S.o = false) (hm : S.mv = none) : Calls Try.prog 25 #[.agg (dcs S).toArray, .int .i64 1, .agg f.cs.toArray, .int .i64 l, .int .i64 n] w (IRes [] w) := by
  obtain ⟨n0, n1, n2⟩ := two_box (dcs S) f.cs 34 45 w
  have K1 := Lib.hid n0
  have K2 := Lib.hid n1
  have W1 := Lib.hid n2
  have e2 : mvI S = -1 := by unfold mvI; rw [hm]
  clear n0 n1 n2 hm
  go_enter Try.func25, Try.ntmps25
  go_upto_region 1 with fail
  generalize ((w.alloc (.cells (dcs S).toArray 34)).alloc (.cells f.cs.toArray 45)) = x1 at *
  obtain ⟨d0, d1, d2, d3⟩ := dcells K1.out
  rw [ho, show ((nm false : Nat) : Int) = 0 from rfl] at d1
  rw [e2] at d2
  go_wp2_with fail
  go_ret
  exact ⟨none, 0, rfl, Vals.none_, W1.out⟩
set_option maxRecDepth 100000 in
set_option maxHeartbeats 2000000 in
theorem dbins_none_true (S : St) (f : Flo) (l n : Int) (w : World) (ho : S.o = true) (hm : S.mv = none) : Calls Try.prog 25 #[.agg (dcs S).toArray, .int .i64 0, .agg f.cs.toArray, .int .i64 l, .int .i64 n] w (IRes [] w) := by
  obtain ⟨n0, n1, n2⟩ := two_box (dcs S) f.cs 34 45 w
  have K1 := Lib.hid n0
  have K2 := Lib.hid n1
  have W1 := Lib.hid n2
  have e2 : mvI S = -1 := by unfold mvI; rw [hm]
  clear n0 n1 n2 hm
  go_enter Try.func25, Try.ntmps25
  go_upto_region 1 with fail
  generalize ((w.alloc (.cells (dcs S).toArray 34)).alloc (.cells f.cs.toArray 45)) = x1 at *
  obtain ⟨d0, d1, d2, d3⟩ := dcells K1.out
  rw [ho, show ((nm true : Nat) : Int) = 1 from rfl] at d1
  rw [e2] at d2
  go_wp2_with fail
  go_ret
  exact ⟨none, 0, rfl, Vals.none_, W1.out⟩
set_option maxRecDepth 100000 in
set_option maxHeartbeats 2000000 in
theorem dbins_off_false (S : St) (f : Flo) (l n : Int) (w : World) (ho : S.o = false) (t : Int) (h0 : ¬ t = 0) (h1 : ¬ t = 1) : Calls Try.prog 25 #[.agg (dcs S).toArray, .int .i64 t, .agg f.cs.toArray, .int .i64 l, .int .i64 n] w (IRes [] w) := by
  obtain ⟨n0, n1, n2⟩ := two_box (dcs S) f.cs 34 45 w
  have K1 := Lib.hid n0
  have K2 := Lib.hid n1
  have W1 := Lib.hid n2
  clear n0 n1 n2
  go_enter Try.func25, Try.ntmps25
  go_upto_region 1 with fail
  generalize ((w.alloc (.cells (dcs S).toArray 34)).alloc (.cells f.cs.toArray 45)) = x1 at *
  obtain ⟨d0, d1, d2, d3⟩ := dcells K1.out
  rw [ho, show ((nm false : Nat) : Int) = 0 from rfl] at d1
  go_wp2_with fail
  go_ret
  exact ⟨none, 0, rfl, Vals.none_, W1.out⟩
set_option maxRecDepth 100000 in
set_option maxHeartbeats 2000000 in
theorem dbins_off_true (S : St) (f : Flo) (l n : Int) (w : World) (ho : S.o = true) (t : Int) (h0 : ¬ t = 0) (h1 : ¬ t = 1) : Calls Try.prog 25 #[.agg (dcs S).toArray, .int .i64 t, .agg f.cs.toArray, .int .i64 l, .int .i64 n] w (IRes [] w) := by
  obtain ⟨n0, n1, n2⟩ := two_box (dcs S) f.cs 34 45 w
  have K1 := Lib.hid n0
  have K2 := Lib.hid n1
  have W1 := Lib.hid n2
  clear n0 n1 n2
  go_enter Try.func25, Try.ntmps25
  go_upto_region 1 with fail
  generalize ((w.alloc (.cells (dcs S).toArray 34)).alloc (.cells f.cs.toArray 45)) = x1 at *
  obtain ⟨d0, d1, d2, d3⟩ := dcells K1.out
  rw [ho, show ((nm true : Nat) : Int) = 1 from rfl] at d1
  go_wp2_with fail
  go_ret
  exact ⟨none, 0, rfl, Vals.none_, W1.out⟩
theorem dbins_ (K : Ks) (R : RefK K) (S : St) (t : Int) (f : Flo) (l n : Int) (w : World) (hS : S.Ok) (hf : f.Ok) (hl : i64 l) (hn : i64 n) : Calls Try.prog 25 #[.agg (dcs S).toArray, .int .i64 t, .agg f.cs.toArray, .int .i64 l, .int .i64 n] w (IRes (binS K S t f l n) w) := by
  rcases ho : S.o with _ | _
  · by_cases h0 : t = 0
    · subst h0
      have e : binS K S 0 f l n = K.bi (S.key false) f l n := by unfold binS; rw [ho, if_pos (.inl rfl)]; rfl
      rw [e]
      exact dbins_own_false K R S f l n w hS hf hl hn ho
    by_cases h1 : t = 1
    · subst h1
      rcases hm : S.mv with _ | m
      · have e : binS K S 1 f l n = [] := by unfold binS; rw [ho, hm, if_neg (by simp [nm])]
        rw [e]
        exact dbins_none_false S f l n w ho hm
      · have e : binS K S 1 f l n = K.bi (S.key true) f l n := by unfold binS; rw [ho, hm, if_pos (.inr ⟨rfl, rfl⟩)]; rfl
        rw [e]
        exact dbins_new_false K R S f l n w hS hf hl hn ho m hm
    · have e : binS K S t f l n = [] := by unfold binS; rw [ho, if_neg (by simp [nm, h0, h1])]
      rw [e]
      exact dbins_off_false S f l n w ho t h0 h1
  · by_cases h1 : t = 1
    · subst h1
      have e : binS K S 1 f l n = K.bi (S.key true) f l n := by unfold binS; rw [ho, if_pos (.inl rfl)]; rfl
      rw [e]
      exact dbins_own_true K R S f l n w hS hf hl hn ho
    by_cases h0 : t = 0
    · subst h0
      rcases hm : S.mv with _ | m
      · have e : binS K S 0 f l n = [] := by unfold binS; rw [ho, hm, if_neg (by simp [nm])]
        rw [e]
        exact dbins_none_true S f l n w ho hm
      · have e : binS K S 0 f l n = K.bi (S.key false) f l n := by unfold binS; rw [ho, hm, if_pos (.inr ⟨rfl, rfl⟩)]; rfl
        rw [e]
        exact dbins_new_true K R S f l n w hS hf hl hn ho m hm
    · have e : binS K S t f l n = [] := by unfold binS; rw [ho, if_neg (by simp [nm, h0, h1])]
      rw [e]
      exact dbins_off_true S f l n w ho t h0 h1
end Go.Proofs.Ytfhlgmmfknfamaa
