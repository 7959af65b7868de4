/- The contract of the program's Prefix. Conditions: those of each theorem. -/
import Derived.Test.YtebpemknmcgamaaRefPrefix
import Derived.Test.YtebpemknmcgamaaProgKey
import Derived.Laws.CopyOwn
namespace Go.Proofs.Ytebpemknmcgamaa
open Go.RowKit

/-- Bytes into a part of a block. -/
theorem step_copy {ops : Array Oper} {o : Oper} {a : Act} {w : World} {K : Act → World → Prop} {Q : Exit → Act → World → Prop} {E : Prop} (hgd : o.guard = none) (x y : Operand)
    (ho : o.op = .call { callee := .builtin .copy, args := #[x, y], argTypes := #[22, 22] }) (g off m k : Nat) (hx : a.eval x = .slice (some ⟨g, off, none⟩) m m) (Z : Option Addr) (c : Nat) (hy : a.eval y = .slice Z k c) (h0 : 0 < k) (hm : k ≤ m)
    (t : TypeId) (cs : List Value) (l : List Int) (hb : Blk w g t cs) (hz : Byts w Z k l) (hl : off + k ≤ cs.length)
    (h : ∀ w', Hid (Blk w' g t (cs.take off ++ (cel l ++ cs.drop (off + k)))) → Hid (Far (only g) w w') → K (a.put o.dst (goInt k)) w') : if Region.wanted o (yielded ops a.tmps) = true then Oper.wp Try.prog o a w K Q else E := by
  have hw : Region.wanted o (yielded ops a.tmps) = true := by simp [Region.wanted, hgd]
  rw [if_pos hw]
  obtain ⟨ad, rfl, hc⟩ := hz.2 h0
  have hr := run_copy_row (P := Try.prog) w 22 22 o.type 5 g off m m ad k c cs.toArray t (cel l) Try.underlying22 size5 hb (by rw [cel_length, hz.1]; exact (Nat.min_eq_left hm).symm) (hz.news rfl) (by rw [cel_length, hz.1]; simpa using hl) (cel_one l)
  rw [cel_length, hz.1] at hr
  unfold Oper.wp
  simp [execOp, ho, resolve, invoke, builtin, hx, hy, hr, Result.andThen]
  exact h _ (setRow_blk hb _) (setRow_far w g _)

set_option maxRecDepth 100000 in
set_option maxHeartbeats 2000000 in
theorem progPrefix_false (p : Int) (s d : List Int) (a b : Nat) (w : World) (hs : Sixteen s) :
    Calls Try.prog 14 #[.agg (flo false p s d a b).toArray] w fun e w' => e = .returned (.agg (prx false s).toArray) ∧ Below w.heap.size w w' := by
  have L1 : Hid (Blk ((w.alloc (.cells (flo false p s d a b).toArray 27)).alloc (.cells #[.bool false, .int .u8 0, .int .u8 0, .int .u8 0, .int .u8 0, .int .u8 0, .int .u8 0, .int .u8 0] 30)) w.heap.size 27 (flo false p s d a b)) := (Blk.new w 27 _).alloc _
  have R1 : Hid (Blk ((w.alloc (.cells (flo false p s d a b).toArray 27)).alloc (.cells #[.bool false, .int .u8 0, .int .u8 0, .int .u8 0, .int .u8 0, .int .u8 0, .int .u8 0, .int .u8 0] 30)) (w.heap.size + 1) 30 (prx false zz)) := by
    have := Blk.new (w.alloc (.cells (flo false p s d a b).toArray 27)) 30 (prx false zz)
    rwa [show (w.alloc (.cells (flo false p s d a b).toArray 27)).heap.size = w.heap.size + 1 by simp] at this
  have W1 : Hid (Below w.heap.size w ((w.alloc (.cells (flo false p s d a b).toArray 27)).alloc (.cells #[.bool false, .int .u8 0, .int .u8 0, .int .u8 0, .int .u8 0, .int .u8 0, .int .u8 0, .int .u8 0] 30))) := ((Below.refl _ w).alloc (Nat.le_refl _) _).alloc (by simp) _
  have HS := Lib.hid hs
  clear hs
  go_enter Try.func14, Try.ntmps14
  go_upto_region 1 with (fail)
  generalize ((w.alloc (.cells (flo false p s d a b).toArray 27)).alloc (.cells #[.bool false, .int .u8 0, .int .u8 0, .int .u8 0, .int .u8 0, .int .u8 0, .int .u8 0, .int .u8 0] 30)) = w1 at *
  have c0 : w1.cell? ⟨w.heap.size, 0, none⟩ = some (.bool false) := (L1.out.cell 0).trans flo_0
  go_upto_region 5 with (refine wpList_prefix_ rfl (.tmp 4) (.tmp 9) rfl w1 (.bool false :: cel (List.replicate 7 0)) rfl rfl rfl (one_all (bool_each false _)) ?_; intro w2 P2 hb2; have W2 : Hid (Below w.heap.size w w2) := W1.out.trans (hb2.out.mono W1.out.size); have L2 := Lib.hid (L1.out.far (Far.of_below hb2.out nobody) (fun e => e)); have R2 := Lib.hid (R1.out.far (Far.of_below hb2.out nobody) (fun e => e)); clear hb2)
  have hg1 : w.heap.size + 2 ≤ w1.heap.size := by have := R1.out.lt; omega
  clear c0 L1 R1
  obtain ⟨G, hG⟩ : ∃ G, w1.heap.size = G := ⟨_, rfl⟩
  rw [hG] at P2 hg1 ⊢
  clear W1 hG
  have HB : Hid (Byts w2.drew (some ⟨w.heap.size, 2, none⟩) 3 (s.take 3)) := (Byts.of_range (flo_src (w := w2.drew) L2.out) HS.out).upto (by omega)
  go_region_law (refine step_copy rfl (.tmp 11) (.tmp 14) rfl G 1 7 3 rfl _ 16 rfl (by decide) (by decide) 30 _ (s.take 3) P2.out HB.out (by decide) ?_; intro w3 P3 F3)
  have PE : (.bool false :: cel (List.replicate 7 0) : List Value).take 1 ++ (cel (s.take 3) ++ (.bool false :: cel (List.replicate 7 0) : List Value).drop (1 + 3)) = prx false s := by
    simp [prx, pre, cel]
  rw [PE] at P3
  have L3 := Lib.hid (L2.out.far (w := w2.drew) F3.out (fun e => by have e2 : w.heap.size = G := e; omega))
  have R3 := Lib.hid (R2.out.far (w := w2.drew) F3.out (fun e => by have e2 : w.heap.size + 1 = G := e; omega))
  have W3 : Hid (Below w.heap.size w w3) := below_only W2.out.drew F3.out (by omega) W2.out.size
  clear PE HB P2 L2 R2 W2
  go_wp2_with (first | (refine wpList_whole_prefix (by rfl) (.tmp 4) rfl G rfl (prx false s) P3.out (prx_length HS.out) ?_) | (refine wpList_lay rfl 30 8 sizeOfprefix_ (.tmp 2) (.tmp 16) rfl (w.heap.size + 1) (prx false s) rfl rfl 30 (prx false zz) R3.out rfl (prx_length HS.out) (one_all prx_each) ?_; intro w4 R4 F4))
  refine bodyPost_ret (v := .agg (prx false s).toArray) (by simp [results, Try.results14, asAddr, Act.put, load_prefix R4.out (prx_length HS.out)]) rfl ⟨rfl, below_only W3.out F4.out (by omega) W3.out.size⟩

set_option maxRecDepth 100000 in
set_option maxHeartbeats 2000000 in
theorem progPrefix_true (p : Int) (s d : List Int) (a b : Nat) (w : World) (hs : Sixteen s) :
    Calls Try.prog 14 #[.agg (flo true p s d a b).toArray] w fun e w' => e = .returned (.agg (prx true s).toArray) ∧ Below w.heap.size w w' := by
  have L1 : Hid (Blk ((w.alloc (.cells (flo true p s d a b).toArray 27)).alloc (.cells #[.bool false, .int .u8 0, .int .u8 0, .int .u8 0, .int .u8 0, .int .u8 0, .int .u8 0, .int .u8 0] 30)) w.heap.size 27 (flo true p s d a b)) := (Blk.new w 27 _).alloc _
  have R1 : Hid (Blk ((w.alloc (.cells (flo true p s d a b).toArray 27)).alloc (.cells #[.bool false, .int .u8 0, .int .u8 0, .int .u8 0, .int .u8 0, .int .u8 0, .int .u8 0, .int .u8 0] 30)) (w.heap.size + 1) 30 (prx false zz)) := by
    have := Blk.new (w.alloc (.cells (flo true p s d a b).toArray 27)) 30 (prx false zz)
    rwa [show (w.alloc (.cells (flo true p s d a b).toArray 27)).heap.size = w.heap.size + 1 by simp] at this
  have W1 : Hid (Below w.heap.size w ((w.alloc (.cells (flo true p s d a b).toArray 27)).alloc (.cells #[.bool false, .int .u8 0, .int .u8 0, .int .u8 0, .int .u8 0, .int .u8 0, .int .u8 0, .int .u8 0] 30))) := ((Below.refl _ w).alloc (Nat.le_refl _) _).alloc (by simp) _
  have HS := Lib.hid hs
  clear hs
  go_enter Try.func14, Try.ntmps14
  go_upto_region 1 with (fail)
  generalize ((w.alloc (.cells (flo true p s d a b).toArray 27)).alloc (.cells #[.bool false, .int .u8 0, .int .u8 0, .int .u8 0, .int .u8 0, .int .u8 0, .int .u8 0, .int .u8 0] 30)) = w1 at *
  have c0 : w1.cell? ⟨w.heap.size, 0, none⟩ = some (.bool true) := (L1.out.cell 0).trans flo_0
  go_upto_region 5 with (refine wpList_prefix_ rfl (.tmp 4) (.tmp 9) rfl w1 (.bool true :: cel (List.replicate 7 0)) rfl rfl rfl (one_all (bool_each true _)) ?_; intro w2 P2 hb2; have W2 : Hid (Below w.heap.size w w2) := W1.out.trans (hb2.out.mono W1.out.size); have L2 := Lib.hid (L1.out.far (Far.of_below hb2.out nobody) (fun e => e)); have R2 := Lib.hid (R1.out.far (Far.of_below hb2.out nobody) (fun e => e)); clear hb2)
  have hg1 : w.heap.size + 2 ≤ w1.heap.size := by have := R1.out.lt; omega
  clear c0 L1 R1
  obtain ⟨G, hG⟩ : ∃ G, w1.heap.size = G := ⟨_, rfl⟩
  rw [hG] at P2 hg1 ⊢
  clear W1 hG
  have HB : Hid (Byts w2.drew (some ⟨w.heap.size, 2, none⟩) 7 (s.take 7)) := (Byts.of_range (flo_src (w := w2.drew) L2.out) HS.out).upto (by omega)
  go_region_law (refine step_copy rfl (.tmp 11) (.tmp 14) rfl G 1 7 7 rfl _ 16 rfl (by decide) (by decide) 30 _ (s.take 7) P2.out HB.out (by decide) ?_; intro w3 P3 F3)
  have PE : (.bool true :: cel (List.replicate 7 0) : List Value).take 1 ++ (cel (s.take 7) ++ (.bool true :: cel (List.replicate 7 0) : List Value).drop (1 + 7)) = prx true s := by
    simp [prx, pre, cel]
  rw [PE] at P3
  have L3 := Lib.hid (L2.out.far (w := w2.drew) F3.out (fun e => by have e2 : w.heap.size = G := e; omega))
  have R3 := Lib.hid (R2.out.far (w := w2.drew) F3.out (fun e => by have e2 : w.heap.size + 1 = G := e; omega))
  have W3 : Hid (Below w.heap.size w w3) := below_only W2.out.drew F3.out (by omega) W2.out.size
  clear PE HB P2 L2 R2 W2
  go_wp2_with (first | (refine wpList_whole_prefix (by rfl) (.tmp 4) rfl G rfl (prx true s) P3.out (prx_length HS.out) ?_) | (refine wpList_lay rfl 30 8 sizeOfprefix_ (.tmp 2) (.tmp 16) rfl (w.heap.size + 1) (prx true s) rfl rfl 30 (prx false zz) R3.out rfl (prx_length HS.out) (one_all prx_each) ?_; intro w4 R4 F4))
  refine bodyPost_ret (v := .agg (prx true s).toArray) (by simp [results, Try.results14, asAddr, Act.put, load_prefix R4.out (prx_length HS.out)]) rfl ⟨rfl, below_only W3.out F4.out (by omega) W3.out.size⟩

theorem progPrefix_any (v : Bool) (p : Int) (s d : List Int) (a b : Nat) (w : World) (hs : Sixteen s) :
    Calls Try.prog 14 #[.agg (flo v p s d a b).toArray] w fun e w' => e = .returned (.agg (prx v s).toArray) ∧ Below w.heap.size w w' := by
  cases v
  · exact progPrefix_false p s d a b w hs
  · exact progPrefix_true p s d a b w hs
end Go.Proofs.Ytebpemknmcgamaa
