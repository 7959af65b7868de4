/- The walk of the law FrameKeys: for any flow it returns true and turns nothing that was there. -/
import Derived.Test.YtebpemknmcgamaaAwake
namespace Go.Proofs.Ytebpemknmcgamaa
open Go.RowKit

/-- A condition may be strengthened on the way. -/
theorem held_more {P : Program} {ops : Array Oper} {Q : Exit → Act → World → Prop} {md : Region.Mode} {S S' : World → Prop} (h : ∀ w, S' w → S w) : ∀ (n : Nat) (l : Array Bool) (a : Act) (w : World), wpAnyH P md ops Q S' n l a w → wpAnyH P md ops Q S n l a w
  | 0, _, _, _, H => H
  | n + 1, _, _, _, H => ⟨H.1, fun i hi => wpOp_mono (fun a' w' h' => ⟨h w' h'.1, held_more h n _ a' w' h'.2⟩) (H.2 i hi)⟩

/-- Are two structs the same, as an operation of a region that draws. -/
theorem yields_eql {ops : Array Oper} {S : World → Prop} {op : Oper} {a : Act} (hw : Region.wanted op (yielded ops a.tmps) = true) (t : TypeId) (hg : Try.prog.eqGuardType Try.prog.depth t = false) (x y : Operand) (u : TypeId) (ho : op.op = .binOp .eql t x y u)
    (X Y : Array Value) (hx : a.eval x = .agg X) (hy : a.eval y = .agg Y) (r : Bool) (h : ∀ w, (Op.equalIn 10000 t (.agg X) (.agg Y)).run Try.prog w = .ok r w) : YieldsIf Try.prog ops S op (.bool r) a :=
  .inl ⟨hw, fun w _ => by
    have h1 : (Op.equal t (.agg X) (.agg Y)).run Try.prog w = .ok r w := h w
    unfold execOp
    simp [ho, hx, hy, eqGuard, binOp, hg, h1]⟩

set_option maxRecDepth 100000 in
set_option maxHeartbeats 4000000 in
theorem keys_any (C : Prog) (v : Bool) (p : Int) (s d : List Int) (a b : Nat) (w : World) (hs : Sixteen s) (hd : Sixteen d) (os : Octs s) (od : Octs d) (hp : 0 ≤ p ∧ p ≤ 255) (ha : a ≤ 65535) (hb : b ≤ 65535) :
    Calls Try.prog 4 #[.agg (flo v p s d a b).toArray] w fun e w' => e = .returned (.bool true) ∧ Below w.heap.size w w' := by
  have L1 : Hid (Blk (w.alloc (.cells (flo v p s d a b).toArray 27)) w.heap.size 27 (flo v p s d a b)) := Blk.new w 27 _
  have W1 : Hid (Below w.heap.size w (w.alloc (.cells (flo v p s d a b).toArray 27))) := (Below.refl _ w).alloc (Nat.le_refl _) _
  have LF : Hid ((flo v p s d a b).length = 36) := flo_length hs hd
  have CK := Lib.hid (fun W => C.key v p s d a b W hs hd os od hp ha hb)
  have CR := Lib.hid (fun W => refKey_any v p s d a b W hs hd ha hb)
  have CP := Lib.hid (fun W => C.pref v p s d a b W hs hd os od hp ha hb)
  have CQ := Lib.hid (fun W => refPrefix_any v p s d a b W hs)
  have HE : Hid (∀ W, (Op.equalIn 10000 30 (.agg (prx v s).toArray) (.agg (prx v s).toArray)).run Try.prog W = .ok true W) := fun W => by
    have := eq_prx (v := v) (v' := v) hs os hs os W
    simpa using this
  have CA := Lib.hid (awake_any C)
  clear hs hd os od hp ha hb C
  go_enter Try.func4, Try.ntmps4
  go_upto_region 1 with (fail)
  generalize (w.alloc (.cells (flo v p s d a b).toArray 27)) = w1 at *
  refine wp_region_held_drew (S := fun W => Blk W w.heap.size 27 (flo v p s d a b)) (by kernel_rfl) ?_ (fun _ => ?_)
  · exact L1.out
  refine wpAnyH_ready (rs := [0]) (by kernel_rfl) (by simp) ?_
  refine AllReadyH.cons (o := ⟨some 3, _, _, _, _, _⟩) rfl (fun K hK => ?_) AllReadyH.nil
  go_simp
  refine (CA.out _).mono ?_
  rintro e x1 ⟨rfl, hb⟩
  have HS0 : Hid (Blk x1 w.heap.size 27 (flo v p s d a b)) := kept (w := w1.drew) L1.out hb
  have V1 : Hid (Below w.heap.size w x1) := W1.out.drew.trans (hb.mono W1.out.size)
  clear hb
  go_simp
  refine hK.out _ _ ?_ (fun _ => ?_)
  · exact HS0.out
  clear hK K
  try simp only [Act.put, List.setIfInBounds_toArray, List.set_cons_zero, List.set_cons_succ]
  refine wpAnyH_take (i := 1) (oi := ⟨some 4, _, _, _, _, _⟩) (v := ?_) rfl (by kernel_rfl) (by kernel_rfl) (by kernel_rfl) (fun _ _ _ h => h) (Or.inl ⟨by rfl, ?_⟩) HS0.out ?_
  rotate_left
  · (intro W hSW; go_simp)
    first | done | (with_reducible rfl)
  try simp only [Act.put, List.setIfInBounds_toArray, List.set_cons_zero, List.set_cons_succ]
  refine wpAnyH_take (i := 2) (oi := ⟨some 5, _, _, _, _, _⟩) (v := .agg (flo v p s d a b).toArray) rfl (by kernel_rfl) (by kernel_rfl) (by kernel_rfl) (fun _ _ _ h => h) (yieldsIf_load_mid (by rfl) 27 (.tmp 1) rfl w.heap.size 0 rfl (flo v p s d a b) _ (fun _ hW => whole_at hW) Try.underlying27 rfl (by rw [LF.out]; exact sizeOfflow)) HS0.out ?_
  try simp only [Act.put, List.setIfInBounds_toArray, List.set_cons_zero, List.set_cons_succ]
  refine wpAnyH_take (i := 5) (oi := ⟨some 8, _, _, _, _, _⟩) (v := .agg (flo v p s d a b).toArray) rfl (by kernel_rfl) (by kernel_rfl) (by kernel_rfl) (fun _ _ _ h => h) (yieldsIf_load_mid (by rfl) 27 (.tmp 1) rfl w.heap.size 0 rfl (flo v p s d a b) _ (fun _ hW => whole_at hW) Try.underlying27 rfl (by rw [LF.out]; exact sizeOfflow)) HS0.out ?_
  try simp only [Act.put, List.setIfInBounds_toArray, List.set_cons_zero, List.set_cons_succ]
  refine wpAnyH_ready (rs := [3]) (by kernel_rfl) (by simp) ?_
  refine AllReadyH.cons (o := ⟨some 6, _, _, _, _, _⟩) rfl (fun K hK => ?_) AllReadyH.nil
  go_simp
  refine (CK.out _).mono ?_
  rintro e x2 ⟨A2, c2, rfl, hb, hy⟩
  have HS1 : Hid (Blk x2 w.heap.size 27 (flo v p s d a b)) := kept HS0.out hb
  have V2 : Hid (Below w.heap.size w x2) := V1.out.trans (hb.mono V1.out.size)
  have Y2 := Lib.hid hy
  clear hb hy
  go_simp
  refine hK.out _ _ ?_ (fun _ => ?_)
  · exact HS1.out
  clear hK K
  try simp only [Act.put, List.setIfInBounds_toArray, List.set_cons_zero, List.set_cons_succ]
  refine held_more (S' := fun W => Blk W w.heap.size 27 (flo v p s d a b) ∧ Byts W A2 (key v p s d a b).length (key v p s d a b)) (fun _ h => h.1) _ _ _ _ ?_
  have HS2 : Hid (Blk x2 w.heap.size 27 (flo v p s d a b) ∧ Byts x2 A2 (key v p s d a b).length (key v p s d a b)) := ⟨HS1.out, Y2.out⟩
  refine wpAnyH_take (i := 4) (oi := ⟨some 7, _, _, _, _, _⟩) (v := .string (strOfNums (key v p s d a b))) rfl (by kernel_rfl) (by kernel_rfl) (by kernel_rfl) (fun _ _ _ h => h) (Or.inl ⟨by rfl, ?_⟩) HS2.out ?_
  · intro W hSW
    have ht := run_text (P := Try.prog) W 22 5 9 A2 (key v p s d a b).length c2 (key v p s d a b) Try.underlying22 Try.underlying5 Try.underlying9 hSW.2
    clear hSW
    go_simp
  try simp only [Act.put, List.setIfInBounds_toArray, List.set_cons_zero, List.set_cons_succ]
  refine wpAnyH_ready (rs := [6]) (by kernel_rfl) (by simp) ?_
  refine AllReadyH.cons (o := ⟨some 9, _, _, _, _, _⟩) rfl (fun K hK => ?_) AllReadyH.nil
  go_simp
  refine (CR.out _).mono ?_
  rintro e x3 ⟨A3, c3, rfl, hb, hy⟩
  have HS3 : Hid (Blk x3 w.heap.size 27 (flo v p s d a b) ∧ Byts x3 A2 (key v p s d a b).length (key v p s d a b)) := ⟨kept HS1.out hb, Y2.out.below hb⟩
  have V3 : Hid (Below w.heap.size w x3) := V2.out.trans (hb.mono V2.out.size)
  have Y3 := Lib.hid (Byts.of_own hy)
  clear hb hy
  go_simp
  refine hK.out _ _ ?_ (fun _ => ?_)
  · exact HS3.out
  clear hK K
  try simp only [Act.put, List.setIfInBounds_toArray, List.set_cons_zero, List.set_cons_succ]
  refine held_more (S' := fun W => Blk W w.heap.size 27 (flo v p s d a b) ∧ Byts W A3 (key v p s d a b).length (key v p s d a b) ∧ Byts W A2 (key v p s d a b).length (key v p s d a b)) (fun _ h => ⟨h.1, h.2.2⟩) _ _ _ _ ?_
  have HS4 : Hid (Blk x3 w.heap.size 27 (flo v p s d a b) ∧ Byts x3 A3 (key v p s d a b).length (key v p s d a b) ∧ Byts x3 A2 (key v p s d a b).length (key v p s d a b)) := ⟨HS3.out.1, Y3.out, HS3.out.2⟩
  refine wpAnyH_take (i := 7) (oi := ⟨some 10, _, _, _, _, _⟩) (v := .string (strOfNums (key v p s d a b))) rfl (by kernel_rfl) (by kernel_rfl) (by kernel_rfl) (fun _ _ _ h => h) (Or.inl ⟨by rfl, ?_⟩) HS4.out ?_
  · intro W hSW
    have ht := run_text (P := Try.prog) W 22 5 9 A3 (key v p s d a b).length c3 (key v p s d a b) Try.underlying22 Try.underlying5 Try.underlying9 hSW.2.1
    clear hSW
    go_simp
  try simp only [Act.put, List.setIfInBounds_toArray, List.set_cons_zero, List.set_cons_succ]
  refine wpAnyH_take (i := 8) (oi := ⟨some 11, _, _, _, _, _⟩) (v := .bool true) rfl (by kernel_rfl) (by kernel_rfl) (by kernel_rfl) (fun _ _ _ h => h) (Or.inl ⟨by rfl, ?_⟩) HS4.out ?_
  · (intro W hSW; clear hSW; go_simp)
  try simp only [Act.put, List.setIfInBounds_toArray, List.set_cons_zero, List.set_cons_succ]
  refine wpAnyH_take (i := 9) (oi := ⟨some 12, _, _, _, _, _⟩) (v := ?_) rfl (by kernel_rfl) (by kernel_rfl) (by kernel_rfl) (fun _ _ _ h => h) (Or.inl ⟨by rfl, ?_⟩) HS4.out ?_
  rotate_left
  · (intro W hSW; go_simp)
    first | done | (with_reducible rfl)
  try simp only [Act.put, List.setIfInBounds_toArray, List.set_cons_zero, List.set_cons_succ]
  refine wpAnyH_take (i := 10) (oi := ⟨some 13, _, _, _, _, _⟩) (v := ?_) rfl (by kernel_rfl) (by kernel_rfl) (by kernel_rfl) (fun _ _ _ h => h) (Or.inl ⟨by rfl, ?_⟩) HS4.out ?_
  rotate_left
  · (intro W hSW; go_simp)
    first | done | (with_reducible rfl)
  try simp only [Act.put, List.setIfInBounds_toArray, List.set_cons_zero, List.set_cons_succ]
  refine wpAnyH_take (i := 11) (oi := ⟨some 14, _, _, _, _, _⟩) (v := .agg (flo v p s d a b).toArray) rfl (by kernel_rfl) (by kernel_rfl) (by kernel_rfl) (fun _ _ _ h => h) (yieldsIf_load_mid (by rfl) 27 (.tmp 1) rfl w.heap.size 0 rfl (flo v p s d a b) _ (fun _ hW => whole_at hW.1) Try.underlying27 rfl (by rw [LF.out]; exact sizeOfflow)) HS4.out ?_
  try simp only [Act.put, List.setIfInBounds_toArray, List.set_cons_zero, List.set_cons_succ]
  refine wpAnyH_take (i := 13) (oi := ⟨some 16, _, _, _, _, _⟩) (v := .agg (flo v p s d a b).toArray) rfl (by kernel_rfl) (by kernel_rfl) (by kernel_rfl) (fun _ _ _ h => h) (yieldsIf_load_mid (by rfl) 27 (.tmp 1) rfl w.heap.size 0 rfl (flo v p s d a b) _ (fun _ hW => whole_at hW.1) Try.underlying27 rfl (by rw [LF.out]; exact sizeOfflow)) HS4.out ?_
  try simp only [Act.put, List.setIfInBounds_toArray, List.set_cons_zero, List.set_cons_succ]
  refine wpAnyH_ready (rs := [12]) (by kernel_rfl) (by simp) ?_
  refine AllReadyH.cons (o := ⟨some 15, _, _, _, _, _⟩) rfl (fun K hK => ?_) AllReadyH.nil
  go_simp
  refine (CP.out _).mono ?_
  rintro e x4 ⟨rfl, hb⟩
  have HS5 : Hid (Blk x4 w.heap.size 27 (flo v p s d a b) ∧ Byts x4 A3 (key v p s d a b).length (key v p s d a b) ∧ Byts x4 A2 (key v p s d a b).length (key v p s d a b)) := ⟨kept HS4.out.1 hb, HS4.out.2.1.below hb, HS4.out.2.2.below hb⟩
  have V4 : Hid (Below w.heap.size w x4) := V3.out.trans (hb.mono V3.out.size)
  clear hb
  go_simp
  refine hK.out _ _ ?_ (fun _ => ?_)
  · exact HS5.out
  clear hK K
  try simp only [Act.put, List.setIfInBounds_toArray, List.set_cons_zero, List.set_cons_succ]
  refine wpAnyH_ready (rs := [14]) (by kernel_rfl) (by simp) ?_
  refine AllReadyH.cons (o := ⟨some 17, _, _, _, _, _⟩) rfl (fun K hK => ?_) AllReadyH.nil
  go_simp
  refine (CQ.out _).mono ?_
  rintro e x5 ⟨rfl, hb⟩
  have HS6 : Hid (Blk x5 w.heap.size 27 (flo v p s d a b) ∧ Byts x5 A3 (key v p s d a b).length (key v p s d a b) ∧ Byts x5 A2 (key v p s d a b).length (key v p s d a b)) := ⟨kept HS5.out.1 hb, HS5.out.2.1.below hb, HS5.out.2.2.below hb⟩
  have V5 : Hid (Below w.heap.size w x5) := V4.out.trans (hb.mono V4.out.size)
  clear hb
  go_simp
  refine hK.out _ _ ?_ (fun _ => ?_)
  · exact HS6.out
  clear hK K
  try simp only [Act.put, List.setIfInBounds_toArray, List.set_cons_zero, List.set_cons_succ]
  refine wpAnyH_take (i := 15) (oi := ⟨some 18, _, _, _, _, _⟩) (v := .bool true) rfl (by kernel_rfl) (by kernel_rfl) (by kernel_rfl) (fun _ _ _ h => h) (yields_eql (by rfl) 30 (by kernel_rfl) (.tmp 15) (.tmp 17) 30 rfl (prx v s).toArray (prx v s).toArray (by rfl) (by rfl) true HE.out) HS6.out ?_
  try simp only [Act.put, List.setIfInBounds_toArray, List.set_cons_zero, List.set_cons_succ]
  refine wpAnyH_take (i := 16) (oi := ⟨some 19, _, _, _, _, _⟩) (v := ?_) rfl (by kernel_rfl) (by kernel_rfl) (by kernel_rfl) (fun _ _ _ h => h) (Or.inl ⟨by rfl, ?_⟩) HS6.out ?_
  rotate_left
  · (intro W hSW; go_simp)
    first | done | (with_reducible rfl)
  try simp only [Act.put, List.setIfInBounds_toArray, List.set_cons_zero, List.set_cons_succ]
  refine wpAnyH_take (i := 17) (oi := ⟨some 2, _, _, _, _, _⟩) (v := ?_) rfl (by kernel_rfl) (by kernel_rfl) (by kernel_rfl) (fun _ _ _ h => h) (Or.inl ⟨by rfl, ?_⟩) HS6.out ?_
  rotate_left
  · (intro W hSW; go_simp)
    first | done | (with_reducible rfl)
  try simp only [Act.put, List.setIfInBounds_toArray, List.set_cons_zero, List.set_cons_succ]
  refine wpAnyH_done (by kernel_rfl) ?_ _
  go_wp2
  go_ret
  exact ⟨rfl, V5.out⟩
end Go.Proofs.Ytebpemknmcgamaa
