/- The walk of TableOrder. Conditions: the program's contracts. -/
import Derived.Test.YteddnbabgahhfaaAwake
namespace Go.Proofs.Yteddnbabgahhfaa
open Go.RowKit

/-- The law's three prefixes. -/
structure Trio (w : World) (p q r : Pre) (W : World) : Prop where
  p : Blk W w.heap.size 31 p.cs
  q : Blk W (w.heap.size + 1) 31 q.cs
  r : Blk W (w.heap.size + 2) 31 r.cs
  be : Below w.heap.size w W
theorem Trio.new (w : World) (p q r : Pre) : Trio w p q r (((w.alloc (.cells p.cs.toArray 31)).alloc (.cells q.cs.toArray 31)).alloc (.cells r.cs.toArray 31)) := by
  obtain ⟨h1, h2, h3⟩ := two_new p q w
  refine ⟨h1.alloc _, h2.alloc _, ?_, h3.alloc h3.size _⟩
  have := Blk.new ((w.alloc (.cells p.cs.toArray 31)).alloc (.cells q.cs.toArray 31)) 31 r.cs
  rwa [show ((w.alloc (.cells p.cs.toArray 31)).alloc (.cells q.cs.toArray 31)).heap.size = w.heap.size + 2 by simp] at this
theorem Trio.below {w W W' : World} {p q r : Pre} (h : Trio w p q r W) (hb : Below W.heap.size W W') : Trio w p q r W' := ⟨h.p.below hb, h.q.below hb, h.r.below hb, h.be.trans (hb.mono h.be.size)⟩
theorem Trio.drew {w W : World} {p q r : Pre} (h : Trio w p q r W) : Trio w p q r W.drew := ⟨h.p, h.q, h.r, h.be.drew⟩
set_option maxHeartbeats 2000000 in
theorem order_ (hA : ∀ W, Calls Try.prog 7 #[] W (Ans (.bool true) W)) (P : ProgL) (p q r : Pre) (hp : p.Ok) (hq : q.Ok) (hr : r.Ok) (w : World) :
    Calls Try.prog 4 #[.agg p.cs.toArray, .agg q.cs.toArray, .agg r.cs.toArray] w (Ans (.bool true) w) := by
  have HA := Lib.hid hA
  have S0 := Lib.hid (Trio.new w p q r)
  have HPQ := Lib.hid (fun W => P p q W hp hq)
  have HQR := Lib.hid (fun W => P q r W hq hr)
  have HPP := Lib.hid (fun W => P p p W hp hp)
  have HQP := Lib.hid (fun W => P q p W hq hp)
  have HPR := Lib.hid (fun W => P p r W hp hr)
  have HRF := Lib.hid (fun W => less_ p q W)
  have HQ := Lib.hid (fun W => eq_pre hp hq W)
  rw [ltP_no] at HPP
  have HTR := Lib.hid (fun (h : ltP p q = true) (h' : ltP q r = true) => ltP_trans h h')
  have HTI := Lib.hid (fun (h : p ≠ q) => ltP_tri h)
  have HNO := Lib.hid (ltP_no p)
  clear hA P hp hq hr
  go_enter Try.func4, Try.ntmps4
  go_upto_region 1 with fail
  generalize (((w.alloc (.cells p.cs.toArray 31)).alloc (.cells q.cs.toArray 31)).alloc (.cells r.cs.toArray 31)) = x at *
  go_upto_region 3 with (go_at_call 7; (with_reducible refine (HA.out _).mono ?_); rintro e w1 ⟨rfl, hb⟩; have S1 := Lib.hid (S0.out.below hb); clear hb)
  clear S0
  have HS0 : Hid (Trio w p q r w1.drew) := S1.out.drew
  refine wp_region_held_drew (S := fun W => Trio w p q r W) (by kernel_rfl) ?_ (fun _ => ?_)
  · exact HS0.out
  refine wpAnyH_take (i := 0) (oi := ⟨some 11, _, _, _, _, _⟩) (v := .agg p.cs.toArray) rfl (by kernel_rfl) (by kernel_rfl) (by kernel_rfl) (fun _ _ _ h => h) (yields_pre (by rfl) (.tmp 3) rfl (w.heap.size) 0 rfl p (fun _ h => whole_at h.p)) HS0.out ?_
  try simp only [Act.put, List.setIfInBounds_toArray, List.set_cons_zero, List.set_cons_succ]
  refine wpAnyH_take (i := 1) (oi := ⟨some 12, _, _, _, _, _⟩) (v := .agg q.cs.toArray) rfl (by kernel_rfl) (by kernel_rfl) (by kernel_rfl) (fun _ _ _ h => h) (yields_pre (by rfl) (.tmp 4) rfl (w.heap.size + 1) 0 rfl q (fun _ h => whole_at h.q)) HS0.out ?_
  try simp only [Act.put, List.setIfInBounds_toArray, List.set_cons_zero, List.set_cons_succ]
  refine wpAnyH_take (i := 3) (oi := ⟨some 14, _, _, _, _, _⟩) (v := .agg q.cs.toArray) rfl (by kernel_rfl) (by kernel_rfl) (by kernel_rfl) (fun _ _ _ h => h) (yields_pre (by rfl) (.tmp 4) rfl (w.heap.size + 1) 0 rfl q (fun _ h => whole_at h.q)) HS0.out ?_
  try simp only [Act.put, List.setIfInBounds_toArray, List.set_cons_zero, List.set_cons_succ]
  refine wpAnyH_take (i := 4) (oi := ⟨some 15, _, _, _, _, _⟩) (v := .agg r.cs.toArray) rfl (by kernel_rfl) (by kernel_rfl) (by kernel_rfl) (fun _ _ _ h => h) (yields_pre (by rfl) (.tmp 5) rfl (w.heap.size + 2) 0 rfl r (fun _ h => whole_at h.r)) HS0.out ?_
  try simp only [Act.put, List.setIfInBounds_toArray, List.set_cons_zero, List.set_cons_succ]
  refine wpAnyH_ready (rs := [2]) (by kernel_rfl) (by simp) ?_
  refine AllReadyH.cons (o := ⟨some 13, _, _, _, _, _⟩) rfl (fun K hK => ?_) AllReadyH.nil
  go_simp
  refine (HPQ.out _).mono ?_
  rintro e x1 ⟨rfl, hb⟩
  have HS1 : Hid (Trio w p q r x1) := HS0.out.below hb
  clear hb
  go_simp
  refine hK.out _ _ ?_ (fun _ => ?_)
  · exact HS1.out
  clear hK K
  try simp only [Act.put, List.setIfInBounds_toArray, List.set_cons_zero, List.set_cons_succ]
  refine wpAnyH_ready (rs := [5]) (by kernel_rfl) (by simp) ?_
  refine AllReadyH.cons (o := ⟨some 16, _, _, _, _, _⟩) rfl (fun K hK => ?_) AllReadyH.nil
  go_simp
  refine (HQR.out _).mono ?_
  rintro e x2 ⟨rfl, hb⟩
  have HS2 : Hid (Trio w p q r x2) := HS1.out.below hb
  clear hb
  go_simp
  refine hK.out _ _ ?_ (fun _ => ?_)
  · exact HS2.out
  clear hK K
  try simp only [Act.put, List.setIfInBounds_toArray, List.set_cons_zero, List.set_cons_succ]
  refine wpAnyH_take (i := 6) (oi := ⟨some 7, _, _, _, _, _⟩) (v := ?_) rfl (by kernel_rfl) (by kernel_rfl) (by kernel_rfl) (fun _ _ _ h => h) (Or.inl ⟨by rfl, ?_⟩) HS2.out ?_
  rotate_left
  · (intro W hSW; clear hSW; go_simp)
    first | done | (with_reducible rfl)
  try simp only [Act.put, List.setIfInBounds_toArray, List.set_cons_zero, List.set_cons_succ]
  refine wpAnyH_take (i := 7) (oi := ⟨some 8, _, _, _, _, _⟩) (v := ?_) rfl (by kernel_rfl) (by kernel_rfl) (by kernel_rfl) (fun _ _ _ h => h) (Or.inl ⟨by rfl, ?_⟩) HS2.out ?_
  rotate_left
  · (intro W hSW; clear hSW; go_simp)
    first | done | (with_reducible rfl)
  try simp only [Act.put, List.setIfInBounds_toArray, List.set_cons_zero, List.set_cons_succ]
  refine wpAnyH_done (by kernel_rfl) ?_ _
  have S9 := HS2
  clear S1 HS0 HS1 HS2 HPQ HQR HA
  generalize hx : ltP p q = X at *
  generalize hy : ltP q r = Y at *
  generalize hz : ltP p r = Z at *
  generalize hu : ltP q p = U at *
  rcases hd : decide (p = q) with _ | _
  · rw [hd] at HQ
    have hux : X = !U := HTI.out (of_decide_eq_false hd)
    clear hd HTI HNO hx hy hz hu
    subst hux
    rcases U with _ | _
    · rcases Y with _ | _
      · clear HTR
        go_wp2_with (first
          | (refine wpList_pre (by rfl) (.tmp 3) rfl _ _ rfl p (whole_at S9.out.p) ?_)
          | (refine wpList_pre (by rfl) (.tmp 4) rfl _ _ rfl q (whole_at S9.out.q) ?_)
          | (refine wpList_pre (by rfl) (.tmp 5) rfl _ _ rfl r (whole_at S9.out.r) ?_)
          | (go_at_call 20; (with_reducible refine (HRF.out _).mono ?_); rintro e w7 ⟨rfl, hb⟩; have S9 := Lib.hid (S9.out.below hb); clear hb)
          | (go_at_call 19; (with_reducible refine (HPP.out _).mono ?_); rintro e w7 ⟨rfl, hb⟩; have S9 := Lib.hid (S9.out.below hb); clear hb)
          | (go_at_call 19; (with_reducible refine (HQP.out _).mono ?_); rintro e w7 ⟨rfl, hb⟩; have S9 := Lib.hid (S9.out.below hb); clear hb)
          | (go_at_call 19; (with_reducible refine (HPR.out _).mono ?_); rintro e w7 ⟨rfl, hb⟩; have S9 := Lib.hid (S9.out.below hb); clear hb)
          | (refine wpList_eql (by rfl) 31 (by kernel_rfl) (.tmp 29) (.tmp 30) 31 rfl p.cs.toArray q.cs.toArray (by rfl) (by rfl) _ (HQ.out _) ?_))
        go_ret
        exact ⟨rfl, S9.out.be⟩
      · have hZ : Z = true := HTR.out rfl rfl
        subst hZ
        clear HTR
        go_wp2_with (first
          | (refine wpList_pre (by rfl) (.tmp 3) rfl _ _ rfl p (whole_at S9.out.p) ?_)
          | (refine wpList_pre (by rfl) (.tmp 4) rfl _ _ rfl q (whole_at S9.out.q) ?_)
          | (refine wpList_pre (by rfl) (.tmp 5) rfl _ _ rfl r (whole_at S9.out.r) ?_)
          | (go_at_call 20; (with_reducible refine (HRF.out _).mono ?_); rintro e w7 ⟨rfl, hb⟩; have S9 := Lib.hid (S9.out.below hb); clear hb)
          | (go_at_call 19; (with_reducible refine (HPP.out _).mono ?_); rintro e w7 ⟨rfl, hb⟩; have S9 := Lib.hid (S9.out.below hb); clear hb)
          | (go_at_call 19; (with_reducible refine (HQP.out _).mono ?_); rintro e w7 ⟨rfl, hb⟩; have S9 := Lib.hid (S9.out.below hb); clear hb)
          | (go_at_call 19; (with_reducible refine (HPR.out _).mono ?_); rintro e w7 ⟨rfl, hb⟩; have S9 := Lib.hid (S9.out.below hb); clear hb)
          | (refine wpList_eql (by rfl) 31 (by kernel_rfl) (.tmp 29) (.tmp 30) 31 rfl p.cs.toArray q.cs.toArray (by rfl) (by rfl) _ (HQ.out _) ?_))
        go_ret
        exact ⟨rfl, S9.out.be⟩
    · clear HTR
      go_wp2_with (first
        | (refine wpList_pre (by rfl) (.tmp 3) rfl _ _ rfl p (whole_at S9.out.p) ?_)
        | (refine wpList_pre (by rfl) (.tmp 4) rfl _ _ rfl q (whole_at S9.out.q) ?_)
        | (refine wpList_pre (by rfl) (.tmp 5) rfl _ _ rfl r (whole_at S9.out.r) ?_)
        | (go_at_call 20; (with_reducible refine (HRF.out _).mono ?_); rintro e w7 ⟨rfl, hb⟩; have S9 := Lib.hid (S9.out.below hb); clear hb)
        | (go_at_call 19; (with_reducible refine (HPP.out _).mono ?_); rintro e w7 ⟨rfl, hb⟩; have S9 := Lib.hid (S9.out.below hb); clear hb)
        | (go_at_call 19; (with_reducible refine (HQP.out _).mono ?_); rintro e w7 ⟨rfl, hb⟩; have S9 := Lib.hid (S9.out.below hb); clear hb)
        | (go_at_call 19; (with_reducible refine (HPR.out _).mono ?_); rintro e w7 ⟨rfl, hb⟩; have S9 := Lib.hid (S9.out.below hb); clear hb)
        | (refine wpList_eql (by rfl) 31 (by kernel_rfl) (.tmp 29) (.tmp 30) 31 rfl p.cs.toArray q.cs.toArray (by rfl) (by rfl) _ (HQ.out _) ?_))
      go_ret
      exact ⟨rfl, S9.out.be⟩
  · rw [hd] at HQ
    have hX : X = false := by rw [← hx, ← of_decide_eq_true hd]; exact HNO.out
    clear hd HTI HNO HTR hx hy hz hu
    subst hX
    go_wp2_with (first
      | (refine wpList_pre (by rfl) (.tmp 3) rfl _ _ rfl p (whole_at S9.out.p) ?_)
      | (refine wpList_pre (by rfl) (.tmp 4) rfl _ _ rfl q (whole_at S9.out.q) ?_)
      | (refine wpList_pre (by rfl) (.tmp 5) rfl _ _ rfl r (whole_at S9.out.r) ?_)
      | (go_at_call 20; (with_reducible refine (HRF.out _).mono ?_); rintro e w7 ⟨rfl, hb⟩; have S9 := Lib.hid (S9.out.below hb); clear hb)
      | (go_at_call 19; (with_reducible refine (HPP.out _).mono ?_); rintro e w7 ⟨rfl, hb⟩; have S9 := Lib.hid (S9.out.below hb); clear hb)
      | (go_at_call 19; (with_reducible refine (HQP.out _).mono ?_); rintro e w7 ⟨rfl, hb⟩; have S9 := Lib.hid (S9.out.below hb); clear hb)
      | (go_at_call 19; (with_reducible refine (HPR.out _).mono ?_); rintro e w7 ⟨rfl, hb⟩; have S9 := Lib.hid (S9.out.below hb); clear hb)
      | (refine wpList_eql (by rfl) 31 (by kernel_rfl) (.tmp 29) (.tmp 30) 31 rfl p.cs.toArray q.cs.toArray (by rfl) (by rfl) _ (HQ.out _) ?_))
    go_ret
    exact ⟨rfl, S9.out.be⟩
end Go.Proofs.Yteddnbabgahhfaa
