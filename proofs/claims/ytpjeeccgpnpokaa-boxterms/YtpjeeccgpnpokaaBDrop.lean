/- The contracts of box's Drop and All, and of nobody's In, All and Put. Conditions: those of each theorem. -/
import Derived.Test.YtpjeeccgpnpokaaBMem
namespace Go.Proofs.Ytpjeeccgpnpokaa
open Go.RowKit

set_option maxRecDepth 100000 in
set_option maxHeartbeats 2000000 in
theorem bdrop_ (f : Pre → Nat) (h q n g : Nat) (C : Cfg) (L : List Ent) (p : Pre) (x : Int) (w : World) (hb0 : BoxAt f h q n w g C L) (ho : POks L) (hp : p.Ok) :
    Calls Try.prog 16 #[.pointer (some ⟨g, 0, none⟩), .agg p.cs.toArray, .int .i64 x] w (BOut f h q n g C L (del (swp L x) p) (.bool (has (swp L x) p)) w) := by
  have hb1 : Below w.heap.size w (w.alloc (.cells p.cs.toArray 31)) := (Below.refl _ w).alloc (Nat.le_refl _) _
  have M1 : Hid (Inn w f h q n g C L p (w.alloc (.cells p.cs.toArray 31))) := Inn.start hb0 hb1 (Blk.new w 31 p.cs)
  have HAT : Hid (∀ W, BoxAt f h q n W g C L → Calls Try.prog 22 #[.pointer (some ⟨g, 0, none⟩), .int .i64 x] W (BAtOut f h q n g C (swp L x) W)) := fun W hW => bat_ f h q n g C L x W hW ho
  have HDEL : Hid (∀ W, BoxAt f h q n W g C (swp L x) → Calls Try.prog 33 #[.pointer (some ⟨h, 0, none⟩), .agg p.cs.toArray] W (ActT (kSt f) 85 91 h q n (del (swp L x) p) (.bool (has (swp L x) p)) W)) := fun W hW => delT_ f h q n _ p W hW.tab (fun e he => ho e (swp_mem e he)) hp
  clear hb0 ho hp hb1
  go_enter Try.func16, Try.ntmps16
  go_upto_region 1 with fail
  generalize (w.alloc (.cells p.cs.toArray 31)) = x1 at *
  have HS0 : Hid (Blk x1.drew w.heap.size 31 p.cs) := M1.out.pb
  have M2 := Lib.hid M1.out.drew
  clear M1
  refine wp_region_held_drew (S := fun W => Blk W w.heap.size 31 p.cs) (by kernel_rfl) ?_ (fun _ => ?_)
  · exact HS0.out
  generalize x1.drew = x0 at *
  refine wpAnyH_take (i := 0) (oi := ⟨some 7, _, _, _, _, _⟩) (v := ?_) rfl (by kernel_rfl) (by kernel_rfl) (by kernel_rfl) (fun _ _ _ h => h) (Or.inl ⟨by rfl, ?_⟩) HS0.out ?_
  rotate_left
  · (intro W hSW; clear hSW; go_simp)
    first | done | (with_reducible rfl)
  try simp only [Act.put, List.setIfInBounds_toArray, List.set_cons_zero, List.set_cons_succ]
  refine wpAnyH_take (i := 1) (oi := ⟨some 8, _, _, _, _, _⟩) (v := ?_) rfl (by kernel_rfl) (by kernel_rfl) (by kernel_rfl) (fun _ _ _ h => h) (Or.inl ⟨by rfl, ?_⟩) HS0.out ?_
  rotate_left
  · (intro W hSW; clear hSW; go_simp)
    first | done | (with_reducible rfl)
  try simp only [Act.put, List.setIfInBounds_toArray, List.set_cons_zero, List.set_cons_succ]
  refine wpAnyH_take (i := 3) (oi := ⟨some 10, _, _, _, _, _⟩) (v := .agg p.cs.toArray) rfl (by kernel_rfl) (by kernel_rfl) (by kernel_rfl) (fun _ _ _ h => h) (yields_pre (by rfl) (.tmp 4) rfl _ 0 rfl p (fun _ h => whole_at h)) HS0.out ?_
  try simp only [Act.put, List.setIfInBounds_toArray, List.set_cons_zero, List.set_cons_succ]
  refine wpAnyH_ready (rs := [2]) (by kernel_rfl) (by simp) ?_
  refine AllReadyH.cons (o := ⟨some 9, _, _, _, _, _⟩) rfl (fun K hK => ?_) AllReadyH.nil
  go_simp
  refine (HAT.out _ M2.out.box).mono ?_
  rintro e x1 ⟨rfl, hx, hf⟩
  have M3 := Lib.hid (M2.out.turn hx hf swp_mem)
  have HS1 : Hid (Blk x1 w.heap.size 31 p.cs) := M3.out.pb
  clear hx hf M2
  go_simp
  refine hK.out _ _ ?_ (fun _ => ?_)
  · exact HS1.out
  clear hK K
  try simp only [Act.put, List.setIfInBounds_toArray, List.set_cons_zero, List.set_cons_succ]
  refine wpAnyH_ready (rs := [4]) (by kernel_rfl) (by simp) ?_
  refine AllReadyH.cons (o := ⟨some 11, _, _, _, _, _⟩) rfl (fun K hK => ?_) AllReadyH.nil
  go_simp
  refine (HDEL.out _ M3.out.box).mono ?_
  rintro e x2 ⟨rfl, ht, hf⟩
  have M4 := Lib.hid (M3.out.turn (M3.out.box.turn ht hf del_mem) hf del_mem)
  have HS2 : Hid (Blk x2 w.heap.size 31 p.cs) := M4.out.pb
  clear ht hf M3
  go_simp
  refine hK.out _ _ ?_ (fun _ => ?_)
  · exact HS2.out
  clear hK K
  try simp only [Act.put, List.setIfInBounds_toArray, List.set_cons_zero, List.set_cons_succ]
  refine wpAnyH_take (i := 5) (oi := ⟨some 6, _, _, _, _, _⟩) (v := ?_) rfl (by kernel_rfl) (by kernel_rfl) (by kernel_rfl) (fun _ _ _ h => h) (Or.inl ⟨by rfl, ?_⟩) HS2.out ?_
  rotate_left
  · (intro W hSW; clear hSW; go_simp)
    first | done | (with_reducible rfl)
  try simp only [Act.put, List.setIfInBounds_toArray, List.set_cons_zero, List.set_cons_succ]
  refine wpAnyH_done (by kernel_rfl) ?_ _
  have FIN : Hid (BOut f h q n g C L (del (swp L x) p) (.bool (has (swp L x) p)) w (.returned (.bool (has (swp L x) p))) x2) := M4.out.out _
  clear M4 HS0 HS1 HS2
  go_wp2_with fail
  go_ret
  exact FIN.out
set_option maxRecDepth 100000 in
set_option maxHeartbeats 1000000 in
theorem ball_ (f : Pre → Nat) (h q n g : Nat) (C : Cfg) (L : List Ent) (x : Int) (w : World) (hb0 : BoxAt f h q n w g C L) (ho : POks L) :
    Calls Try.prog 10 #[.pointer (some ⟨g, 0, none⟩), .int .i64 x] w fun e w' => ∃ A c, Els kPre w' A (pres (swp L x)) ∧ (pres (swp L x)).length ≤ c ∧ BOut f h q n g C L (swp L x) (.slice A (pres (swp L x)).length c) w e w' := by
  have HAT := Lib.hid (bat_ f h q n g C L x w hb0 ho)
  have HAL : Hid (∀ W, BoxAt f h q n W g C (swp L x) → Calls Try.prog 26 #[.pointer (some ⟨h, 0, none⟩)] W (DResF kPre (pres (swp L x)) W)) := fun W hW => allF_ f h q n _ W hW.tab
  clear hb0 ho
  go_enter Try.func10, Try.ntmps10
  go_wp2_with (first | (go_at_call 22; (with_reducible refine HAT.out.mono ?_); rintro e x1 ⟨rfl, hx, hf⟩; have X1 := Lib.hid hx; have F1 := Lib.hid hf; clear hx hf) | (go_at_call 26; (with_reducible refine (HAL.out _ X1.out).mono ?_); rintro e x2 ⟨A, c, rfl, hc, hE, hB, -⟩; have X2 := Lib.hid (X1.out.below hB); have F2 : Hid (Far (boxB f h q g L) w x2) := (F1.out.mono fun _ e => boxB_two e).trans (Far.of_below hB _) (fun _ _ e => e); have E2 := Lib.hid hE; have C2 := Lib.hid hc; clear hE hc hB))
  go_ret
  exact ⟨A, c, E2.out, C2.out, rfl, X2.out, F2.out⟩
set_option maxHeartbeats 400000 in
theorem bat_nil (x : Int) (w : World) : Calls Try.prog 22 #[.pointer none, .int .i64 x] w (Ans (.pointer none) w) := by
  go_enter Try.func22, Try.ntmps22
  go_wp2
  go_ret
  exact ⟨rfl, Below.refl _ _⟩
set_option maxHeartbeats 400000 in
theorem ball_nil (x : Int) (w : World) : Calls Try.prog 10 #[.pointer none, .int .i64 x] w (DRes kPre [] w) := by
  have H1 := Lib.hid (bat_nil x w)
  go_enter Try.func10, Try.ntmps10
  go_wp2_with (first | (go_at_call 22; (with_reducible refine H1.out.mono ?_); rintro e x1 ⟨rfl, hb⟩; have B1 := Lib.hid hb; clear hb) | (go_at_call 26; (with_reducible refine (allT_nil _).mono ?_); rintro e x2 ⟨A, c, rfl, hc, hE, hB⟩; have B2 : Hid (Below w.heap.size w x2) := B1.out.trans (hB.mono B1.out.size); have E2 := Lib.hid hE; have C2 := Lib.hid hc; clear hE hc hB))
  go_ret
  exact ⟨A, c, rfl, C2.out, E2.out, B2.out⟩
set_option maxHeartbeats 400000 in
theorem bput_nil (p : Pre) (x : Int) (w : World) : Calls Try.prog 8 #[.pointer none, .agg p.cs.toArray, .int .i64 x] w (Ans (.int .i64 1) w) := by
  have hb1 : Below w.heap.size w (w.alloc (.cells p.cs.toArray 31)) := (Below.refl _ w).alloc (Nat.le_refl _) _
  have B1 := Lib.hid hb1
  go_enter Try.func8, Try.ntmps8
  go_wp2
  go_ret
  exact ⟨rfl, B1.out⟩
end Go.Proofs.Ytpjeeccgpnpokaa
