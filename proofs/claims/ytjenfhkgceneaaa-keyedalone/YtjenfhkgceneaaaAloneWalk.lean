/- The walk of the law KeyedAlone: for any key and flow it returns true and turns nothing that was there. -/
import Derived.Test.YtjenfhkgceneaaaRefBins
namespace Go.Proofs.Ytjenfhkgceneaaa
open Go.RowKit

theorem fl_one (k : List Nat) (bs : List Int) (l : Nat) : fl k bs l 1 = 0 := by
  have := fl_bd (k := k) (bs := bs) (l := l) (n := 1) (by decide)
  omega
theorem bns_one (k : List Nat) (bs : List Int) : bns k bs 1 (lvl 4) = [0, 0, 0, 0] := by
  have e : lvl 4 = 4 := rfl
  rw [e]
  simp [bns, fl_one, List.range, List.range.loop]
/-- Four noughts at an address. -/
def Noughts (ad : Addr) (W : World) : Prop := W.cell? ad = some (.int .i64 0) ∧ W.cell? ⟨ad.block, ad.off + 1, none⟩ = some (.int .i64 0) ∧ W.cell? ⟨ad.block, ad.off + 2, none⟩ = some (.int .i64 0) ∧ W.cell? ⟨ad.block, ad.off + 3, none⟩ = some (.int .i64 0)
theorem Noughts.below {ad : Addr} {w x : World} (h : Noughts ad w) (hb : Below w.heap.size w x) : Noughts ad x := ⟨keep9 hb h.1, keep9 hb h.2.1, keep9 hb h.2.2.1, keep9 hb h.2.2.2⟩
theorem noughts_of {A : Option Addr} {w : World} (h : summ.Vals w A 4 (ints [0, 0, 0, 0])) : ∃ ad, A = some ad ∧ Noughts ad w := by
  obtain ⟨ad, e, hc⟩ := h.2 (by decide)
  have h0 := hc 0 (.int .i64 0) rfl
  have e0 : ad.add 0 = ad := by unfold Addr.add; simp
  rw [e0] at h0
  have en : ∀ j, j ≠ 0 → ad.add j = ⟨ad.block, ad.off + j, none⟩ := fun j hj => by unfold Addr.add; simp [hj]
  have h1 := hc 1 (.int .i64 0) rfl
  have h2 := hc 2 (.int .i64 0) rfl
  have h3 := hc 3 (.int .i64 0) rfl
  rw [en _ (by decide)] at h1 h2 h3
  exact ⟨ad, e, h0, h1, h2, h3⟩

set_option maxRecDepth 100000 in
set_option maxHeartbeats 4000000 in
theorem alone_any (k : List Nat) (f : Flo) (w : World) (hk : summ.Octs k) (h16 : k.length = 16) (hf : f.Ok) :
    Calls Try.prog 5 #[.agg (summ.cel k).toArray, .agg f.cells.toArray] w fun e w' => e = .returned (.bool true) ∧ Below w.heap.size w w' := by
  have T1 : Hid (Two w.heap.size (w.heap.size + 1) k f ((w.alloc (.cells (summ.cel k).toArray 22)).alloc (.cells f.cells.toArray 25))) := Two.new w k f
  have V0 : Hid (Below w.heap.size w ((w.alloc (.cells (summ.cel k).toArray 22)).alloc (.cells f.cells.toArray 25))) := below_two w _ _
  have LF := Lib.hid hf.cells_length
  have H16 := Lib.hid h16
  have CA := Lib.hid awake_any
  have C1 := Lib.hid (fun W => progBucket_any k f 1 W hk h16 hf (by decide))
  have C3 := Lib.hid (fun W => progBins_any k f 4 1 W hk h16 hf (by decide))
  rw [fl_one] at C1
  rw [bns_one] at C3
  clear hf hk h16
  go_enter Try.func5, Try.ntmps5
  go_upto_region 1 with (fail)
  generalize ((w.alloc (.cells (summ.cel k).toArray 22)).alloc (.cells f.cells.toArray 25)) = w1 at *
  go_upto_region 2 with (first | (refine wpList_key rfl (.tmp 2) rfl w.heap.size rfl k T1.out.1 H16.out ?_) | (refine wpList_flo rfl (.tmp 3) rfl (w.heap.size + 1) rfl f T1.out.2 LF.out ?_) | (go_at_call 11; (with_reducible refine (C3.out _).mono ?_); rintro e w2 ⟨A, c, rfl, hb, hy⟩; obtain ⟨ad, rfl, hz⟩ := noughts_of hy; have S2 : Hid (Two w.heap.size (w.heap.size + 1) k f w2 ∧ Noughts ad w2) := ⟨T1.out.below hb, hz⟩; have V2 : Hid (Below w.heap.size w w2) := V0.out.trans (hb.mono V0.out.size); clear hb hy hz))
  clear T1 V0 C3
  refine wp_region_held_drew (S := fun W => Two w.heap.size (w.heap.size + 1) k f W ∧ Noughts ad W) (by kernel_rfl) ?_ (fun _ => ?_)
  · exact S2.out
  have HS0 : Hid (Two w.heap.size (w.heap.size + 1) k f w2.drew ∧ Noughts ad w2.drew) := S2.out
  have X0 : Hid (Below w.heap.size w w2.drew) := V2.out.drew
  generalize w2.drew = x0 at *
  refine wpAnyH_ready (rs := [0]) (by kernel_rfl) (by simp) ?_
  refine AllReadyH.cons (o := ⟨some 9, _, _, _, _, _⟩) rfl (fun K hK => ?_) AllReadyH.nil
  go_simp
  refine (CA.out _).mono ?_
  rintro e x1 ⟨rfl, hb⟩
  have HS1 : Hid (Two w.heap.size (w.heap.size + 1) k f x1 ∧ Noughts ad x1) := ⟨HS0.out.1.below hb, HS0.out.2.below hb⟩
  have X1 : Hid (Below w.heap.size w x1) := X0.out.trans (hb.mono X0.out.size)
  clear hb
  go_simp
  refine hK.out _ _ ?_ (fun _ => ?_)
  · exact HS1.out
  clear hK K
  try simp only [Act.put, List.setIfInBounds_toArray, List.set_cons_zero, List.set_cons_succ]
  refine wpAnyH_take (i := 1) (oi := ⟨some 10, _, _, _, _, _⟩) (v := ?_) rfl (by kernel_rfl) (by kernel_rfl) (by kernel_rfl) (fun _ _ _ h => h) (Or.inl ⟨by rfl, ?_⟩) HS1.out ?_
  rotate_left
  · (intro W hSW; clear hSW; go_simp)
    first | done | (with_reducible rfl)
  try simp only [Act.put, List.setIfInBounds_toArray, List.set_cons_zero, List.set_cons_succ]
  refine wpAnyH_take (i := 2) (oi := ⟨some 11, _, _, _, _, _⟩) (v := .agg (summ.cel k).toArray) rfl (by kernel_rfl) (by kernel_rfl) (by kernel_rfl) (fun _ _ _ h => h) (yields_key (by rfl) (.tmp 2) rfl (w.heap.size) rfl k H16.out (fun _ h => h.1.1)) HS1.out ?_
  try simp only [Act.put, List.setIfInBounds_toArray, List.set_cons_zero, List.set_cons_succ]
  refine wpAnyH_take (i := 3) (oi := ⟨some 12, _, _, _, _, _⟩) (v := .agg f.cells.toArray) rfl (by kernel_rfl) (by kernel_rfl) (by kernel_rfl) (fun _ _ _ h => h) (yields_flow (by rfl) (.tmp 3) rfl (w.heap.size + 1) rfl f LF.out (fun _ h => h.1.2)) HS1.out ?_
  try simp only [Act.put, List.setIfInBounds_toArray, List.set_cons_zero, List.set_cons_succ]
  refine wpAnyH_ready (rs := [4]) (by kernel_rfl) (by simp) ?_
  refine AllReadyH.cons (o := ⟨some 13, _, _, _, _, _⟩) rfl (fun K hK => ?_) AllReadyH.nil
  go_simp
  refine (C1.out _).mono ?_
  rintro e x2 ⟨rfl, hb⟩
  have HS2 : Hid (Two w.heap.size (w.heap.size + 1) k f x2 ∧ Noughts ad x2) := ⟨HS1.out.1.below hb, HS1.out.2.below hb⟩
  have X2 : Hid (Below w.heap.size w x2) := X1.out.trans (hb.mono X1.out.size)
  clear hb
  go_simp
  refine hK.out _ _ ?_ (fun _ => ?_)
  · exact HS2.out
  clear hK K
  try simp only [Act.put, List.setIfInBounds_toArray, List.set_cons_zero, List.set_cons_succ]
  refine wpAnyH_take (i := 5) (oi := ⟨some 14, _, _, _, _, _⟩) (v := ?_) rfl (by kernel_rfl) (by kernel_rfl) (by kernel_rfl) (fun _ _ _ h => h) (Or.inl ⟨by rfl, ?_⟩) HS2.out ?_
  rotate_left
  · (intro W hSW; clear hSW; go_simp)
    first | done | (with_reducible rfl)
  try simp only [Act.put, List.setIfInBounds_toArray, List.set_cons_zero, List.set_cons_succ]
  refine wpAnyH_take (i := 6) (oi := ⟨some 15, _, _, _, _, _⟩) (v := ?_) rfl (by kernel_rfl) (by kernel_rfl) (by kernel_rfl) (fun _ _ _ h => h) (Or.inl ⟨by rfl, ?_⟩) HS2.out ?_
  rotate_left
  · (intro W hSW; clear hSW; go_simp)
    first | done | (with_reducible rfl)
  try simp only [Act.put, List.setIfInBounds_toArray, List.set_cons_zero, List.set_cons_succ]
  refine wpAnyH_take (i := 7) (oi := ⟨some 16, _, _, _, _, _⟩) (v := ?_) rfl (by kernel_rfl) (by kernel_rfl) (by kernel_rfl) (fun _ _ _ h => h) (Or.inl ⟨by rfl, ?_⟩) HS2.out ?_
  rotate_left
  · (intro W hSW; clear hSW; go_simp)
    first | done | (with_reducible rfl)
  try simp only [Act.put, List.setIfInBounds_toArray, List.set_cons_zero, List.set_cons_succ]
  refine wpAnyH_take (i := 8) (oi := ⟨some 17, _, _, _, _, _⟩) (v := ?_) rfl (by kernel_rfl) (by kernel_rfl) (by kernel_rfl) (fun _ _ _ h => h) (Or.inl ⟨by rfl, ?_⟩) HS2.out ?_
  rotate_left
  · (intro W hSW; clear hSW; go_simp)
    first | done | (with_reducible rfl)
  try simp only [Act.put, List.setIfInBounds_toArray, List.set_cons_zero, List.set_cons_succ]
  refine wpAnyH_take (i := 9) (oi := ⟨some 18, _, _, _, _, _⟩) (v := ?_) rfl (by kernel_rfl) (by kernel_rfl) (by kernel_rfl) (fun _ _ _ h => h) (Or.inl ⟨by rfl, ?_⟩) HS2.out ?_
  rotate_left
  · (intro W hSW; clear hSW; go_simp)
    first | done | (with_reducible rfl)
  try simp only [Act.put, List.setIfInBounds_toArray, List.set_cons_zero, List.set_cons_succ]
  refine wpAnyH_take (i := 10) (oi := ⟨some 19, _, _, _, _, _⟩) (v := ?_) rfl (by kernel_rfl) (by kernel_rfl) (by kernel_rfl) (fun _ _ _ h => h) (Or.inl ⟨by rfl, ?_⟩) HS2.out ?_
  rotate_left
  · (intro W hSW; clear hSW; go_simp)
    first | done | (with_reducible rfl)
  try simp only [Act.put, List.setIfInBounds_toArray, List.set_cons_zero, List.set_cons_succ]
  refine wpAnyH_take (i := 11) (oi := ⟨some 20, _, _, _, _, _⟩) (v := ?_) rfl (by kernel_rfl) (by kernel_rfl) (by kernel_rfl) (fun _ _ _ h => h) (Or.inl ⟨by rfl, ?_⟩) HS2.out ?_
  rotate_left
  · (intro W hSW; clear hSW; go_simp)
    first | done | (with_reducible rfl)
  try simp only [Act.put, List.setIfInBounds_toArray, List.set_cons_zero, List.set_cons_succ]
  refine wpAnyH_take (i := 12) (oi := ⟨some 21, _, _, _, _, _⟩) (v := ?_) rfl (by kernel_rfl) (by kernel_rfl) (by kernel_rfl) (fun _ _ _ h => h) (Or.inl ⟨by rfl, ?_⟩) HS2.out ?_
  rotate_left
  · (intro W hSW; clear hSW; go_simp)
    first | done | (with_reducible rfl)
  try simp only [Act.put, List.setIfInBounds_toArray, List.set_cons_zero, List.set_cons_succ]
  refine wpAnyH_take (i := 13) (oi := ⟨some 22, _, _, _, _, _⟩) (v := ?_) rfl (by kernel_rfl) (by kernel_rfl) (by kernel_rfl) (fun _ _ _ h => h) (Or.inl ⟨by rfl, ?_⟩) HS2.out ?_
  rotate_left
  · (intro W hSW; clear hSW; go_simp)
    first | done | (with_reducible rfl)
  try simp only [Act.put, List.setIfInBounds_toArray, List.set_cons_zero, List.set_cons_succ]
  refine wpAnyH_take (i := 14) (oi := ⟨some 23, _, _, _, _, _⟩) (v := ?_) rfl (by kernel_rfl) (by kernel_rfl) (by kernel_rfl) (fun _ _ _ h => h) (Or.inl ⟨by rfl, ?_⟩) HS2.out ?_
  rotate_left
  · (intro W hSW; clear hSW; go_simp)
    first | done | (with_reducible rfl)
  try simp only [Act.put, List.setIfInBounds_toArray, List.set_cons_zero, List.set_cons_succ]
  refine wpAnyH_take (i := 15) (oi := ⟨some 24, _, _, _, _, _⟩) (v := .int .i64 0) rfl (by kernel_rfl) (by kernel_rfl) (by kernel_rfl) (fun _ _ _ h => h) (Or.inl ⟨by rfl, ?_⟩) HS2.out ?_
  · (intro W hSW; have c0 := hSW.2.1; have c1 := hSW.2.2.1; have c2 := hSW.2.2.2.1; have c3 := hSW.2.2.2.2; clear hSW; go_simp)
  try simp only [Act.put, List.setIfInBounds_toArray, List.set_cons_zero, List.set_cons_succ]
  refine wpAnyH_take (i := 16) (oi := ⟨some 25, _, _, _, _, _⟩) (v := ?_) rfl (by kernel_rfl) (by kernel_rfl) (by kernel_rfl) (fun _ _ _ h => h) (Or.inl ⟨by rfl, ?_⟩) HS2.out ?_
  rotate_left
  · (intro W hSW; clear hSW; go_simp)
    first | done | (with_reducible rfl)
  try simp only [Act.put, List.setIfInBounds_toArray, List.set_cons_zero, List.set_cons_succ]
  refine wpAnyH_take (i := 17) (oi := ⟨some 26, _, _, _, _, _⟩) (v := ?_) rfl (by kernel_rfl) (by kernel_rfl) (by kernel_rfl) (fun _ _ _ h => h) (Or.inl ⟨by rfl, ?_⟩) HS2.out ?_
  rotate_left
  · (intro W hSW; clear hSW; go_simp)
    first | done | (with_reducible rfl)
  try simp only [Act.put, List.setIfInBounds_toArray, List.set_cons_zero, List.set_cons_succ]
  refine wpAnyH_take (i := 18) (oi := ⟨some 27, _, _, _, _, _⟩) (v := .int .i64 0) rfl (by kernel_rfl) (by kernel_rfl) (by kernel_rfl) (fun _ _ _ h => h) (Or.inl ⟨by rfl, ?_⟩) HS2.out ?_
  · (intro W hSW; have c0 := hSW.2.1; have c1 := hSW.2.2.1; have c2 := hSW.2.2.2.1; have c3 := hSW.2.2.2.2; clear hSW; go_simp)
  try simp only [Act.put, List.setIfInBounds_toArray, List.set_cons_zero, List.set_cons_succ]
  refine wpAnyH_take (i := 19) (oi := ⟨some 28, _, _, _, _, _⟩) (v := .int .i64 0) rfl (by kernel_rfl) (by kernel_rfl) (by kernel_rfl) (fun _ _ _ h => h) (Or.inl ⟨by rfl, ?_⟩) HS2.out ?_
  · (intro W hSW; clear hSW; go_simp)
    rfl
  try simp only [Act.put, List.setIfInBounds_toArray, List.set_cons_zero, List.set_cons_succ]
  refine wpAnyH_take (i := 20) (oi := ⟨some 29, _, _, _, _, _⟩) (v := ?_) rfl (by kernel_rfl) (by kernel_rfl) (by kernel_rfl) (fun _ _ _ h => h) (Or.inl ⟨by rfl, ?_⟩) HS2.out ?_
  rotate_left
  · (intro W hSW; clear hSW; go_simp)
    first | done | (with_reducible rfl)
  try simp only [Act.put, List.setIfInBounds_toArray, List.set_cons_zero, List.set_cons_succ]
  refine wpAnyH_take (i := 21) (oi := ⟨some 30, _, _, _, _, _⟩) (v := ?_) rfl (by kernel_rfl) (by kernel_rfl) (by kernel_rfl) (fun _ _ _ h => h) (Or.inl ⟨by rfl, ?_⟩) HS2.out ?_
  rotate_left
  · (intro W hSW; clear hSW; go_simp)
    first | done | (with_reducible rfl)
  try simp only [Act.put, List.setIfInBounds_toArray, List.set_cons_zero, List.set_cons_succ]
  refine wpAnyH_take (i := 22) (oi := ⟨some 31, _, _, _, _, _⟩) (v := .int .i64 0) rfl (by kernel_rfl) (by kernel_rfl) (by kernel_rfl) (fun _ _ _ h => h) (Or.inl ⟨by rfl, ?_⟩) HS2.out ?_
  · (intro W hSW; have c0 := hSW.2.1; have c1 := hSW.2.2.1; have c2 := hSW.2.2.2.1; have c3 := hSW.2.2.2.2; clear hSW; go_simp)
  try simp only [Act.put, List.setIfInBounds_toArray, List.set_cons_zero, List.set_cons_succ]
  refine wpAnyH_take (i := 23) (oi := ⟨some 32, _, _, _, _, _⟩) (v := .int .i64 0) rfl (by kernel_rfl) (by kernel_rfl) (by kernel_rfl) (fun _ _ _ h => h) (Or.inl ⟨by rfl, ?_⟩) HS2.out ?_
  · (intro W hSW; clear hSW; go_simp)
    rfl
  try simp only [Act.put, List.setIfInBounds_toArray, List.set_cons_zero, List.set_cons_succ]
  refine wpAnyH_take (i := 24) (oi := ⟨some 33, _, _, _, _, _⟩) (v := ?_) rfl (by kernel_rfl) (by kernel_rfl) (by kernel_rfl) (fun _ _ _ h => h) (Or.inl ⟨by rfl, ?_⟩) HS2.out ?_
  rotate_left
  · (intro W hSW; clear hSW; go_simp)
    first | done | (with_reducible rfl)
  try simp only [Act.put, List.setIfInBounds_toArray, List.set_cons_zero, List.set_cons_succ]
  refine wpAnyH_take (i := 25) (oi := ⟨some 34, _, _, _, _, _⟩) (v := ?_) rfl (by kernel_rfl) (by kernel_rfl) (by kernel_rfl) (fun _ _ _ h => h) (Or.inl ⟨by rfl, ?_⟩) HS2.out ?_
  rotate_left
  · (intro W hSW; clear hSW; go_simp)
    first | done | (with_reducible rfl)
  try simp only [Act.put, List.setIfInBounds_toArray, List.set_cons_zero, List.set_cons_succ]
  refine wpAnyH_take (i := 26) (oi := ⟨some 35, _, _, _, _, _⟩) (v := .int .i64 0) rfl (by kernel_rfl) (by kernel_rfl) (by kernel_rfl) (fun _ _ _ h => h) (Or.inl ⟨by rfl, ?_⟩) HS2.out ?_
  · (intro W hSW; have c0 := hSW.2.1; have c1 := hSW.2.2.1; have c2 := hSW.2.2.2.1; have c3 := hSW.2.2.2.2; clear hSW; go_simp)
  try simp only [Act.put, List.setIfInBounds_toArray, List.set_cons_zero, List.set_cons_succ]
  refine wpAnyH_take (i := 27) (oi := ⟨some 36, _, _, _, _, _⟩) (v := .int .i64 0) rfl (by kernel_rfl) (by kernel_rfl) (by kernel_rfl) (fun _ _ _ h => h) (Or.inl ⟨by rfl, ?_⟩) HS2.out ?_
  · (intro W hSW; clear hSW; go_simp)
    rfl
  try simp only [Act.put, List.setIfInBounds_toArray, List.set_cons_zero, List.set_cons_succ]
  refine wpAnyH_take (i := 28) (oi := ⟨some 37, _, _, _, _, _⟩) (v := .bool true) rfl (by kernel_rfl) (by kernel_rfl) (by kernel_rfl) (fun _ _ _ h => h) (Or.inl ⟨by rfl, ?_⟩) HS2.out ?_
  · (intro W hSW; clear hSW; go_simp)
  try simp only [Act.put, List.setIfInBounds_toArray, List.set_cons_zero, List.set_cons_succ]
  refine wpAnyH_take (i := 29) (oi := ⟨some 38, _, _, _, _, _⟩) (v := ?_) rfl (by kernel_rfl) (by kernel_rfl) (by kernel_rfl) (fun _ _ _ h => h) (Or.inl ⟨by rfl, ?_⟩) HS2.out ?_
  rotate_left
  · (intro W hSW; clear hSW; go_simp)
    first | done | (with_reducible rfl)
  try simp only [Act.put, List.setIfInBounds_toArray, List.set_cons_zero, List.set_cons_succ]
  refine wpAnyH_take (i := 30) (oi := ⟨some 4, _, _, _, _, _⟩) (v := ?_) rfl (by kernel_rfl) (by kernel_rfl) (by kernel_rfl) (fun _ _ _ h => h) (Or.inl ⟨by rfl, ?_⟩) HS2.out ?_
  rotate_left
  · (intro W hSW; clear hSW; go_simp)
    first | done | (with_reducible rfl)
  try simp only [Act.put, List.setIfInBounds_toArray, List.set_cons_zero, List.set_cons_succ]
  refine wpAnyH_done (by kernel_rfl) ?_ _
  go_wp2
  go_ret
  exact ⟨rfl, X2.out⟩
end Go.Proofs.Ytjenfhkgceneaaa
