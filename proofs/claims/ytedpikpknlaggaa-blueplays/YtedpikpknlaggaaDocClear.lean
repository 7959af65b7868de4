/- The contract of the document's Clear. Conditions: those of each theorem. -/
import Derived.Test.YtedpikpknlaggaaDocBase
namespace Go.Proofs.Ytedpikpknlaggaa
open Go.RowKit

set_option maxHeartbeats 2000000 in
theorem refClear_ (b : Nat → Prop) (A : Option Addr) (n m c t h u d : Nat) (B : Bins) (w : World) (hd : DocAt b w A n m B) (hn : 1 ≤ n ∧ n ≤ 4) (hm : m ≤ 64) (hbw : ∀ k, w.heap.size ≤ k → b k) :
    Calls Try.prog 20 #[dval A n c t h u d] w (DocRes b n m t h u d (fun _ _ => bin0) w) := by
  have T2 := Lib.hid (Two5.start w A n c t h u d)
  obtain ⟨s, q, cp, rfl, hr⟩ := hd.reads
  have HL0 := Lib.hid (fun W hW => (hr W hW).1 0 hn.1)
  have HN := Lib.hid (fun W => refNew_ n m t h u d (n : Nat) (m : Nat) (t : Nat) (h : Nat) (u : Nat) (d : Nat) W rfl rfl rfl rfl rfl rfl hn.1 hn.2 hm)
  have HW := Lib.hid hbw
  have hn1 := hn.1
  clear hd hr hbw
  go_enter Try.func20, Try.ntmps20
  go_wp2_with fail
  generalize (w.alloc (dbox (some ⟨s, 0, none⟩) n c t h u d)).alloc noneOf = w2 at *
  refine til_begin (fun W => Below w.heap.size w W ∧ Blk W w.heap.size 36 (dcs (some ⟨s, 0, none⟩) n c t h u d)) 17 (by kernel_rfl) ?_
  have D0 := Lib.hid ((⟨T2.out.be.drew, T2.out.box⟩ : Below w.heap.size w w2.drew ∧ Blk w2.drew w.heap.size 36 (dcs (some ⟨s, 0, none⟩) n c t h u d)))
  refine til_take (i := 0) (oi := ⟨some 3, _, _, _, _, _⟩) (v := ?_) rfl (by kernel_rfl) (by kernel_rfl) (by kernel_rfl) (by decide) (by kernel_rfl) (by kernel_rfl) (fun _ _ _ h => h) (Or.inl ⟨by rfl, ?_⟩) D0.out ?_
  rotate_left
  · (intro W hSW; clear hSW; go_simp)
    first | done | (with_reducible rfl)
  try simp only [Act.put, List.setIfInBounds_toArray, List.set_cons_zero, List.set_cons_succ]
  refine til_take (i := 1) (oi := ⟨some 4, _, _, _, _, _⟩) (v := .slice (some ⟨s, 0, none⟩) n c) rfl (by kernel_rfl) (by kernel_rfl) (by kernel_rfl) (by decide) (by kernel_rfl) (by kernel_rfl) (fun _ _ _ h => h) (Or.inl ⟨by rfl, ?_⟩) D0.out ?_
  · (intro W hSW; have g0 := hSW.2.cell 0; have g1 := hSW.2.cell 1; have g2 := hSW.2.cell 2; have g3 := hSW.2.cell 3; have g4 := hSW.2.cell 4; have g5 := HL0.out W hSW.1; clear hSW; go_simp)
  try simp only [Act.put, List.setIfInBounds_toArray, List.set_cons_zero, List.set_cons_succ]
  refine til_take (i := 2) (oi := ⟨some 5, _, _, _, _, _⟩) (v := .int .i64 (n : Nat)) rfl (by kernel_rfl) (by kernel_rfl) (by kernel_rfl) (by decide) (by kernel_rfl) (by kernel_rfl) (fun _ _ _ h => h) (Or.inl ⟨by rfl, ?_⟩) D0.out ?_
  · (intro W hSW; clear hSW; go_simp)
  try simp only [Act.put, List.setIfInBounds_toArray, List.set_cons_zero, List.set_cons_succ]
  refine til_take (i := 3) (oi := ⟨some 6, _, _, _, _, _⟩) (v := ?_) rfl (by kernel_rfl) (by kernel_rfl) (by kernel_rfl) (by decide) (by kernel_rfl) (by kernel_rfl) (fun _ _ _ h => h) (Or.inl ⟨by rfl, ?_⟩) D0.out ?_
  rotate_left
  · (intro W hSW; clear hSW; go_simp)
    first | done | (with_reducible rfl)
  try simp only [Act.put, List.setIfInBounds_toArray, List.set_cons_zero, List.set_cons_succ]
  refine til_take (i := 4) (oi := ⟨some 7, _, _, _, _, _⟩) (v := .slice (some ⟨s, 0, none⟩) n c) rfl (by kernel_rfl) (by kernel_rfl) (by kernel_rfl) (by decide) (by kernel_rfl) (by kernel_rfl) (fun _ _ _ h => h) (Or.inl ⟨by rfl, ?_⟩) D0.out ?_
  · (intro W hSW; have g0 := hSW.2.cell 0; have g1 := hSW.2.cell 1; have g2 := hSW.2.cell 2; have g3 := hSW.2.cell 3; have g4 := hSW.2.cell 4; have g5 := HL0.out W hSW.1; clear hSW; go_simp)
  try simp only [Act.put, List.setIfInBounds_toArray, List.set_cons_zero, List.set_cons_succ]
  refine til_take (i := 5) (oi := ⟨some 8, _, _, _, _, _⟩) (v := .pointer (some ⟨s, 0, none⟩)) rfl (by kernel_rfl) (by kernel_rfl) (by kernel_rfl) (by decide) (by kernel_rfl) (by kernel_rfl) (fun _ _ _ h => h) (Or.inl ⟨by rfl, ?_⟩) D0.out ?_
  · (intro W hSW; clear hSW; go_simp)
    (intro h0; omega)
  try simp only [Act.put, List.setIfInBounds_toArray, List.set_cons_zero, List.set_cons_succ]
  refine til_take (i := 6) (oi := ⟨some 9, _, _, _, _, _⟩) (v := .slice (some ⟨q 0, 0, none⟩) m (cp 0)) rfl (by kernel_rfl) (by kernel_rfl) (by kernel_rfl) (by decide) (by kernel_rfl) (by kernel_rfl) (fun _ _ _ h => h) (Or.inl ⟨by rfl, ?_⟩) D0.out ?_
  · (intro W hSW; have g0 := hSW.2.cell 0; have g1 := hSW.2.cell 1; have g2 := hSW.2.cell 2; have g3 := hSW.2.cell 3; have g4 := hSW.2.cell 4; have g5 := HL0.out W hSW.1; clear hSW; go_simp)
  try simp only [Act.put, List.setIfInBounds_toArray, List.set_cons_zero, List.set_cons_succ]
  refine til_take (i := 7) (oi := ⟨some 10, _, _, _, _, _⟩) (v := .int .i64 (m : Nat)) rfl (by kernel_rfl) (by kernel_rfl) (by kernel_rfl) (by decide) (by kernel_rfl) (by kernel_rfl) (fun _ _ _ h => h) (Or.inl ⟨by rfl, ?_⟩) D0.out ?_
  · (intro W hSW; clear hSW; go_simp)
  try simp only [Act.put, List.setIfInBounds_toArray, List.set_cons_zero, List.set_cons_succ]
  refine til_take (i := 8) (oi := ⟨some 11, _, _, _, _, _⟩) (v := ?_) rfl (by kernel_rfl) (by kernel_rfl) (by kernel_rfl) (by decide) (by kernel_rfl) (by kernel_rfl) (fun _ _ _ h => h) (Or.inl ⟨by rfl, ?_⟩) D0.out ?_
  rotate_left
  · (intro W hSW; clear hSW; go_simp)
    first | done | (with_reducible rfl)
  try simp only [Act.put, List.setIfInBounds_toArray, List.set_cons_zero, List.set_cons_succ]
  refine til_take (i := 9) (oi := ⟨some 12, _, _, _, _, _⟩) (v := .int .i64 (t : Nat)) rfl (by kernel_rfl) (by kernel_rfl) (by kernel_rfl) (by decide) (by kernel_rfl) (by kernel_rfl) (fun _ _ _ h => h) (Or.inl ⟨by rfl, ?_⟩) D0.out ?_
  · (intro W hSW; have g0 := hSW.2.cell 0; have g1 := hSW.2.cell 1; have g2 := hSW.2.cell 2; have g3 := hSW.2.cell 3; have g4 := hSW.2.cell 4; have g5 := HL0.out W hSW.1; clear hSW; go_simp)
  try simp only [Act.put, List.setIfInBounds_toArray, List.set_cons_zero, List.set_cons_succ]
  refine til_take (i := 10) (oi := ⟨some 13, _, _, _, _, _⟩) (v := ?_) rfl (by kernel_rfl) (by kernel_rfl) (by kernel_rfl) (by decide) (by kernel_rfl) (by kernel_rfl) (fun _ _ _ h => h) (Or.inl ⟨by rfl, ?_⟩) D0.out ?_
  rotate_left
  · (intro W hSW; clear hSW; go_simp)
    first | done | (with_reducible rfl)
  try simp only [Act.put, List.setIfInBounds_toArray, List.set_cons_zero, List.set_cons_succ]
  refine til_take (i := 11) (oi := ⟨some 14, _, _, _, _, _⟩) (v := .int .i64 (h : Nat)) rfl (by kernel_rfl) (by kernel_rfl) (by kernel_rfl) (by decide) (by kernel_rfl) (by kernel_rfl) (fun _ _ _ h => h) (Or.inl ⟨by rfl, ?_⟩) D0.out ?_
  · (intro W hSW; have g0 := hSW.2.cell 0; have g1 := hSW.2.cell 1; have g2 := hSW.2.cell 2; have g3 := hSW.2.cell 3; have g4 := hSW.2.cell 4; have g5 := HL0.out W hSW.1; clear hSW; go_simp)
  try simp only [Act.put, List.setIfInBounds_toArray, List.set_cons_zero, List.set_cons_succ]
  refine til_take (i := 12) (oi := ⟨some 15, _, _, _, _, _⟩) (v := ?_) rfl (by kernel_rfl) (by kernel_rfl) (by kernel_rfl) (by decide) (by kernel_rfl) (by kernel_rfl) (fun _ _ _ h => h) (Or.inl ⟨by rfl, ?_⟩) D0.out ?_
  rotate_left
  · (intro W hSW; clear hSW; go_simp)
    first | done | (with_reducible rfl)
  try simp only [Act.put, List.setIfInBounds_toArray, List.set_cons_zero, List.set_cons_succ]
  refine til_take (i := 13) (oi := ⟨some 16, _, _, _, _, _⟩) (v := .int .i64 (u : Nat)) rfl (by kernel_rfl) (by kernel_rfl) (by kernel_rfl) (by decide) (by kernel_rfl) (by kernel_rfl) (fun _ _ _ h => h) (Or.inl ⟨by rfl, ?_⟩) D0.out ?_
  · (intro W hSW; have g0 := hSW.2.cell 0; have g1 := hSW.2.cell 1; have g2 := hSW.2.cell 2; have g3 := hSW.2.cell 3; have g4 := hSW.2.cell 4; have g5 := HL0.out W hSW.1; clear hSW; go_simp)
  try simp only [Act.put, List.setIfInBounds_toArray, List.set_cons_zero, List.set_cons_succ]
  refine til_take (i := 14) (oi := ⟨some 17, _, _, _, _, _⟩) (v := ?_) rfl (by kernel_rfl) (by kernel_rfl) (by kernel_rfl) (by decide) (by kernel_rfl) (by kernel_rfl) (fun _ _ _ h => h) (Or.inl ⟨by rfl, ?_⟩) D0.out ?_
  rotate_left
  · (intro W hSW; clear hSW; go_simp)
    first | done | (with_reducible rfl)
  try simp only [Act.put, List.setIfInBounds_toArray, List.set_cons_zero, List.set_cons_succ]
  refine til_take (i := 15) (oi := ⟨some 18, _, _, _, _, _⟩) (v := .int .i64 (d : Nat)) rfl (by kernel_rfl) (by kernel_rfl) (by kernel_rfl) (by decide) (by kernel_rfl) (by kernel_rfl) (fun _ _ _ h => h) (Or.inl ⟨by rfl, ?_⟩) D0.out ?_
  · (intro W hSW; have g0 := hSW.2.cell 0; have g1 := hSW.2.cell 1; have g2 := hSW.2.cell 2; have g3 := hSW.2.cell 3; have g4 := hSW.2.cell 4; have g5 := HL0.out W hSW.1; clear hSW; go_simp)
  try simp only [Act.put, List.setIfInBounds_toArray, List.set_cons_zero, List.set_cons_succ]
  refine til_one (i := 16) (o := ⟨some 19, _, _, _, _, _⟩) (by kernel_rfl) rfl (fun K hK => ?_)
  go_simp
  refine (HN.out w2.drew).mono ?_
  rintro e w9 ⟨⟨A9, c9, rfl, hd9⟩, hb9⟩
  have B9 : Hid (Below w2.heap.size w2 w9) := ⟨hb9.os, hb9.tape, hb9.output, hb9.size, hb9.block⟩
  have T9 := Lib.hid (T2.out.below B9.out)
  have D9 : Hid (DocAt (fun k => w2.heap.size ≤ k) w9 A9 n m fun _ _ => bin0) := hd9
  obtain ⟨r0, r1, r2, r3, r4, f0, f1, f2, f3, f4⟩ := T9.out.room
  clear hd9 hb9
  go_simp
  refine hK.out _ _ (fun _ => ⟨T9.out.be, T9.out.box⟩) ?_
  clear hK K
  try simp only [Act.put, List.setIfInBounds_toArray, List.set_cons_zero, List.set_cons_succ]
  refine til_one (i := 17) (o := ⟨none, _, _, _, _, _⟩) (by kernel_rfl) rfl (fun K hK => ?_)
  go_simp
  refine hK.out _ _ (past (by kernel_rfl)) ?_
  clear hK K
  try simp only [Act.put]
  refine til_done (by kernel_rfl) ?_ _
  go_wp2_with fail
  refine bodyPost_ret (v := dval A9 n c9 t h u d) (by simp [results, Try.results20, go_sem, r0, r1, r2, r3, r4]) rfl ?_
  have F5 := far_res w9 (w.heap.size + 1) A9 n c9 t h u d
  have h1 := T2.out.res.lt
  refine ⟨⟨A9, c9, rfl, ?_⟩, ?_⟩
  · exact ((D9.out.far F5 (fun i hi e => by have : i = w.heap.size + 1 := e; have : w2.heap.size ≤ i := hi; omega)).weak (fun i hi => HW.out i (by have : w2.heap.size ≤ i := hi; omega)))
  · exact below_res (T2.out.be.trans (B9.out.mono T2.out.be.size)) A9 n c9 t h u d (Nat.le_succ _)
end Go.Proofs.Ytedpikpknlaggaa
