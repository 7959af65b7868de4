/- The walk of the law KeyedFour: for any key, flow, numbers and twelve bytes it returns true and turns nothing that was there. -/
import Derived.Test.YtjenfhkgceneaaaRefBins
import Derived.Laws.CopyOwn
namespace Go.Proofs.Ytjenfhkgceneaaa
open Go.RowKit

/-- Bytes into a part of a block. -/
theorem step_copy {ops : Array Oper} {o : Oper} {a : Act} {w : World} {K : Act → World → Prop} {Q : Exit → Act → World → Prop} {E : Prop} (hgd : o.guard = none) (x y : Operand)
    (ho : o.op = .call { callee := .builtin .copy, args := #[x, y], argTypes := #[35, 35] }) (g off m k : Nat) (hx : a.eval x = .slice (some ⟨g, off, none⟩) m m) (Z : Option Addr) (c : Nat) (hy : a.eval y = .slice Z k c) (h0 : 0 < k) (hm : k ≤ m)
    (t : TypeId) (cs : List Value) (l : List Int) (hb : Blk w g t cs) (hz : Byts w Z k l) (hl : off + k ≤ cs.length)
    (h : ∀ w', Hid (Blk w' g t (cs.take off ++ (cel l ++ cs.drop (off + k)))) → Hid (Far (only g) w w') → K (a.put o.dst (goInt k)) w') : if Region.wanted o (yielded ops a.tmps) = true then Oper.wp Try.prog o a w K Q else E := by
  have hw : Region.wanted o (yielded ops a.tmps) = true := by simp [Region.wanted, hgd]
  rw [if_pos hw]
  obtain ⟨ad, rfl, hc⟩ := hz.2 h0
  have hr := run_copy_row (P := Try.prog) w 35 35 o.type 5 g off m m ad k c cs.toArray t (cel l) Try.underlying35 size5 hb (by rw [cel_length, hz.1]; exact (Nat.min_eq_left hm).symm) (hz.news rfl) (by rw [cel_length, hz.1]; simpa using hl) (cel_one l)
  rw [cel_length, hz.1] at hr
  unfold Oper.wp
  simp [execOp, ho, resolve, invoke, builtin, hx, hy, hr, Result.andThen]
  exact h _ (setRow_blk hb _) (setRow_far w g _)

/-- The flow as one of IPv4; the same with other bytes behind its addresses' first four, behind the first address's alone. -/
def Flo.four (f : Flo) : Flo := ⟨false, f.p, f.s, f.d, f.a, f.b⟩
def Flo.half (f : Flo) (m : List Int) : Flo := ⟨false, f.p, f.s.take 4 ++ m, f.d, f.a, f.b⟩
def Flo.other (f : Flo) (m : List Int) : Flo := ⟨false, f.p, f.s.take 4 ++ m, f.d.take 4 ++ m, f.a, f.b⟩
theorem sixteen_of {s m : List Int} (hs : Sixteen s) (hm : m.length = 12) : Sixteen (s.take 4 ++ m) := by
  unfold Sixteen at *
  simp [hs, hm]
theorem Flo.Ok.four {f : Flo} (h : f.Ok) : f.four.Ok := ⟨h.hs, h.hd, h.os, h.od, h.hp, h.ha, h.hb⟩
theorem Flo.Ok.half {f : Flo} (h : f.Ok) {m : List Int} (hm : m.length = 12) (om : Octs m) : (f.half m).Ok := ⟨sixteen_of h.hs hm, h.hd, (h.os.take 4).app om, h.od, h.hp, h.ha, h.hb⟩
theorem Flo.Ok.other {f : Flo} (h : f.Ok) {m : List Int} (hm : m.length = 12) (om : Octs m) : (f.other m).Ok := ⟨sixteen_of h.hs hm, sixteen_of h.hd hm, (h.os.take 4).app om, (h.od.take 4).app om, h.hp, h.ha, h.hb⟩
theorem four_cells (f : Flo) : f.cells.set 0 (.bool false) = f.four.cells := rfl
theorem half_cells {f : Flo} (h : f.Ok) {m : List Int} : f.four.cells.take 6 ++ (cel m ++ f.four.cells.drop (6 + 12)) = (f.half m).cells := by
  obtain ⟨v, p, s, d, a, b⟩ := f
  obtain ⟨x0, x1, x2, x3, x4, x5, x6, x7, x8, x9, x10, x11, x12, x13, x14, x15, rfl⟩ := sixteen_ex h.hs
  simp [Flo.four, Flo.half, Flo.cells, flo, cel]
theorem other_cells {f : Flo} (h : f.Ok) {m : List Int} (hm : m.length = 12) : (f.half m).cells.take 22 ++ (cel m ++ (f.half m).cells.drop (22 + 12)) = (f.other m).cells := by
  obtain ⟨v, p, s, d, a, b⟩ := f
  obtain ⟨y0, y1, y2, y3, y4, y5, y6, y7, y8, y9, y10, y11, y12, y13, y14, y15, rfl⟩ := sixteen_ex h.hd
  have h2 := sixteen_of h.hs hm
  unfold Flo.half Flo.other Flo.cells flo
  dsimp only at h2 ⊢
  obtain ⟨x0, x1, x2, x3, x4, x5, x6, x7, x8, x9, x10, x11, x12, x13, x14, x15, hx⟩ := sixteen_ex h2
  rw [hx]
  simp [cel]
theorem other_key {f : Flo} (h : f.Ok) (m : List Int) : (f.other m).key = f.four.key := by
  have e : ∀ s : List Int, Sixteen s → (s.take 4 ++ m).take 4 = s.take 4 := fun s hs => by
    unfold Sixteen at hs
    rw [List.take_append_of_le_length (by simp [hs]), List.take_take]
    simp
  simp [Flo.other, Flo.four, Flo.key, key, e _ h.hs, e _ h.hd]

/-- A key, and two flows, in their blocks. -/
def Three (g h i : Nat) (k : List Nat) (f f' : Flo) (W : World) : Prop := Blk W g 22 (summ.cel k) ∧ Blk W h 25 f.cells ∧ Blk W i 25 f'.cells
theorem Three.below {g h i : Nat} {k : List Nat} {f f' : Flo} {w x : World} (t : Three g h i k f f' w) (hb : Below w.heap.size w x) : Three g h i k f f' x := ⟨kept t.1 hb, kept t.2.1 hb, kept t.2.2 hb⟩
theorem cells_one (f : Flo) : f.cells.toArray.all (·.oneCell') = true := one_all flo_each

set_option maxRecDepth 100000 in
set_option maxHeartbeats 8000000 in
theorem four_any (k : List Nat) (f : Flo) (z n : Int) (m : List Int) (w : World) (hk : summ.Octs k) (h16 : k.length = 16) (hf : f.Ok) (hn : n ≤ 9223372036854775807) (hm : m.length = 12) (om : Octs m) :
    Calls Try.prog 6 #[.agg (summ.cel k).toArray, .agg f.cells.toArray, .int .i64 z, .int .i64 n, .agg (cel m).toArray] w fun e w' => e = .returned (.bool true) ∧ Below w.heap.size w w' := by
  have B0 : Hid (Blk (((w.alloc (.cells (summ.cel k).toArray 22)).alloc (.cells f.cells.toArray 25)).alloc (.cells (cel m).toArray 34)) w.heap.size 22 (summ.cel k)) := ((Blk.new w 22 _).alloc _).alloc _
  have B1 : Hid (Blk (((w.alloc (.cells (summ.cel k).toArray 22)).alloc (.cells f.cells.toArray 25)).alloc (.cells (cel m).toArray 34)) (w.heap.size + 1) 25 f.cells) := (Two.new w k f).2.alloc _
  have B2 : Hid (Blk (((w.alloc (.cells (summ.cel k).toArray 22)).alloc (.cells f.cells.toArray 25)).alloc (.cells (cel m).toArray 34)) (w.heap.size + 2) 34 (cel m)) := by
    have := Blk.new ((w.alloc (.cells (summ.cel k).toArray 22)).alloc (.cells f.cells.toArray 25)) 34 (cel m)
    rwa [show ((w.alloc (.cells (summ.cel k).toArray 22)).alloc (.cells f.cells.toArray 25)).heap.size = w.heap.size + 2 by simp] at this
  have V0 : Hid (Below w.heap.size w (((w.alloc (.cells (summ.cel k).toArray 22)).alloc (.cells f.cells.toArray 25)).alloc (.cells (cel m).toArray 34))) := (below_two w _ _).alloc (by simp; omega) _
  have LF := Lib.hid hf.cells_length
  have L1 := Lib.hid hf.four.cells_length
  have L2 := Lib.hid (hf.half hm om).cells_length
  have L3 := Lib.hid (hf.other hm om).cells_length
  have E1 := Lib.hid (four_cells f)
  have E2 := Lib.hid (half_cells hf (m := m))
  have E3 := Lib.hid (other_cells hf hm)
  have H16 := Lib.hid h16
  have HM := Lib.hid hm
  have CA := Lib.hid awake_any
  have C1 := Lib.hid (fun W => progBucket_any k f.four n W hk h16 hf.four hn)
  have C2 := Lib.hid (fun W => progBucket_any k (f.other m) n W hk h16 (hf.other hm om) hn)
  have C3 := Lib.hid (fun W => progBins_any k f.four z n W hk h16 hf.four hn)
  have C4 := Lib.hid (fun W => progBins_any k (f.other m) z n W hk h16 (hf.other hm om) hn)
  rw [other_key hf m] at C2 C4
  have HL : Hid ((bns k f.four.key n (lvl z)).length ≤ 1000) := (by rw [bns_length]; have := lvl_le z; omega : (bns k f.four.key n (lvl z)).length ≤ 1000)
  clear hf hk h16 hn om hm
  generalize bns k f.four.key n (lvl z) = zs at *
  generalize fl k f.four.key 0 n = b at *
  generalize f.four = fa at *
  generalize f.half m = fb at *
  generalize f.other m = fc at *
  go_enter Try.func6, Try.ntmps6
  go_upto_region 1 with (fail)
  generalize (((w.alloc (.cells (summ.cel k).toArray 22)).alloc (.cells f.cells.toArray 25)).alloc (.cells (cel m).toArray 34)) = w1 at *
  go_upto_region 2 with (first | (refine wpList_flo rfl (.tmp 6) rfl (w.heap.size + 1) rfl f B1.out LF.out ?_) | (refine wpList_flow rfl (.tmp 11) (.tmp 13) rfl w1 f.cells rfl rfl LF.out (cells_one f) ?_; intro w2 P2 hb2; have O0 := Lib.hid (kept B0.out hb2.out); have O2 := Lib.hid (kept B2.out hb2.out); have V2 : Hid (Below w.heap.size w w2) := V0.out.trans (hb2.out.mono V0.out.size); clear hb2))
  have hg1 : w.heap.size + 3 ≤ w1.heap.size := by have := B2.out.lt; omega
  clear B0 B1 B2 V0
  obtain ⟨G, hG⟩ : ∃ G, w1.heap.size = G := ⟨_, rfl⟩
  rw [hG] at P2 hg1 ⊢
  clear hG
  have c0 : w2.cell? ⟨G, 0, none⟩ = some (.bool f.v) := (P2.out.cell 0).trans flo_0
  have f0 := P2.out.frozen 0
  go_upto_region 3 with (fail)
  have FA : Hid (Far (only G) w2 (w2.setCell ⟨G, 0, none⟩ (.bool false))) := Far.set_ (S := only G) (p := ⟨G, 0, none⟩) (Far.refl _ _) (fun _ => rfl) _
  have P3 : Hid (Blk (w2.setCell ⟨G, 0, none⟩ (.bool false)) G 25 fa.cells) := by
    have := P2.out.set_ 0 (.bool false)
    rwa [E1.out] at this
  have O03 := Lib.hid (O0.out.far FA.out (fun e => by have e2 : w.heap.size = G := e; omega))
  have O23 := Lib.hid (O2.out.far FA.out (fun e => by have e2 : w.heap.size + 2 = G := e; omega))
  have V3 : Hid (Below w.heap.size w (w2.setCell ⟨G, 0, none⟩ (.bool false))) := below_only V2.out FA.out (by omega) V2.out.size
  clear FA P2 O0 O2 V2 c0 f0
  generalize w2.setCell ⟨G, 0, none⟩ (.bool false) = w3 at *
  go_upto_region 4 with (first | (refine wpList_flo rfl (.tmp 11) rfl G rfl fa P3.out L1.out ?_) | (refine wpList_flow rfl (.tmp 12) (.tmp 15) rfl w3 fa.cells rfl rfl L1.out (cells_one fa) ?_; intro w4 Q4 hb4; have O04 := Lib.hid (kept O03.out hb4.out); have O24 := Lib.hid (kept O23.out hb4.out); have P4 := Lib.hid (kept P3.out hb4.out); have V4 : Hid (Below w.heap.size w w4) := V3.out.trans (hb4.out.mono V3.out.size); clear hb4))
  have hg2 : G + 1 ≤ w3.heap.size := by have := P3.out.lt; omega
  clear O03 O23 P3 V3
  obtain ⟨H, hH⟩ : ∃ H, w3.heap.size = H := ⟨_, rfl⟩
  rw [hH] at Q4 hg2 ⊢
  clear hH
  have HB : Hid (Byts w4.drew (some ⟨w.heap.size + 2, 0, none⟩) 12 m) := Byts.of_all (w := w4.drew) O24.out HM.out
  go_region_law (refine step_copy rfl (.tmp 17) (.tmp 18) rfl H 6 12 12 rfl _ 12 rfl (by decide) (by decide) 25 _ m Q4.out HB.out (by rw [L1.out]; decide) ?_; intro w5 Q5 F5)
  rw [E2.out] at Q5
  have O05 := Lib.hid (O04.out.far (w := w4.drew) F5.out (fun e => by have e2 : w.heap.size = H := e; omega))
  have O25 := Lib.hid (O24.out.far (w := w4.drew) F5.out (fun e => by have e2 : w.heap.size + 2 = H := e; omega))
  have P5 := Lib.hid (P4.out.far (w := w4.drew) F5.out (fun e => by have e2 : G = H := e; omega))
  have V5 : Hid (Below w.heap.size w w5) := below_only V4.out.drew F5.out (by omega) V4.out.size
  clear HB Q4 O04 O24 P4 V4 F5
  go_upto_region 5 with (fail)
  have HB : Hid (Byts w5.drew (some ⟨w.heap.size + 2, 0, none⟩) 12 m) := Byts.of_all (w := w5.drew) O25.out HM.out
  go_region_law (refine step_copy rfl (.tmp 21) (.tmp 22) rfl H 22 12 12 rfl _ 12 rfl (by decide) (by decide) 25 _ m Q5.out HB.out (by rw [L2.out]; decide) ?_; intro w6 Q6 F6)
  rw [E3.out] at Q6
  have T6 : Hid (Three w.heap.size G H k fa fc w6) := ⟨O05.out.far (w := w5.drew) F6.out (fun e => by have e2 : w.heap.size = H := e; omega), P5.out.far (w := w5.drew) F6.out (fun e => by have e2 : G = H := e; omega), Q6.out⟩
  have V6 : Hid (Below w.heap.size w w6) := below_only V5.out.drew F6.out (by omega) V5.out.size
  clear HB Q5 Q6 O05 O25 P5 V5 F6
  go_upto_region 6 with (fail)
  refine wp_region_held_drew (S := fun W => Three w.heap.size G H k fa fc W) (by kernel_rfl) ?_ (fun _ => ?_)
  · exact T6.out
  have HS0 : Hid (Three w.heap.size G H k fa fc w6.drew) := T6.out
  have X0 : Hid (Below w.heap.size w w6.drew) := V6.out.drew
  generalize w6.drew = x0 at *
  refine wpAnyH_ready (rs := [0]) (by kernel_rfl) (by simp) ?_
  refine AllReadyH.cons (o := ⟨some 24, _, _, _, _, _⟩) rfl (fun K hK => ?_) AllReadyH.nil
  go_simp
  refine (CA.out _).mono ?_
  rintro e x1 ⟨rfl, hb⟩
  have HS1 : Hid (Three w.heap.size G H k fa fc x1) := HS0.out.below hb
  have X1 : Hid (Below w.heap.size w x1) := X0.out.trans (hb.mono X0.out.size)
  clear hb
  go_simp
  refine hK.out _ _ ?_ (fun _ => ?_)
  · exact HS1.out
  clear hK K
  try simp only [Act.put, List.setIfInBounds_toArray, List.set_cons_zero, List.set_cons_succ]
  refine wpAnyH_take (i := 1) (oi := ⟨some 25, _, _, _, _, _⟩) (v := ?_) rfl (by kernel_rfl) (by kernel_rfl) (by kernel_rfl) (fun _ _ _ h => h) (Or.inl ⟨by rfl, ?_⟩) HS1.out ?_
  rotate_left
  · (intro W hSW; clear hSW; go_simp)
    first | done | (with_reducible rfl)
  try simp only [Act.put, List.setIfInBounds_toArray, List.set_cons_zero, List.set_cons_succ]
  refine wpAnyH_take (i := 2) (oi := ⟨some 26, _, _, _, _, _⟩) (v := .agg (summ.cel k).toArray) rfl (by kernel_rfl) (by kernel_rfl) (by kernel_rfl) (fun _ _ _ h => h) (yields_key (by rfl) (.tmp 5) rfl (w.heap.size) rfl k H16.out (fun _ h => h.1)) HS1.out ?_
  try simp only [Act.put, List.setIfInBounds_toArray, List.set_cons_zero, List.set_cons_succ]
  refine wpAnyH_take (i := 3) (oi := ⟨some 27, _, _, _, _, _⟩) (v := .agg fa.cells.toArray) rfl (by kernel_rfl) (by kernel_rfl) (by kernel_rfl) (fun _ _ _ h => h) (yields_flow (by rfl) (.tmp 11) rfl G rfl fa L1.out (fun _ h => h.2.1)) HS1.out ?_
  try simp only [Act.put, List.setIfInBounds_toArray, List.set_cons_zero, List.set_cons_succ]
  refine wpAnyH_take (i := 4) (oi := ⟨some 28, _, _, _, _, _⟩) (v := ?_) rfl (by kernel_rfl) (by kernel_rfl) (by kernel_rfl) (fun _ _ _ h => h) (Or.inl ⟨by rfl, ?_⟩) HS1.out ?_
  rotate_left
  · (intro W hSW; clear hSW; go_simp)
    first | done | (with_reducible rfl)
  try simp only [Act.put, List.setIfInBounds_toArray, List.set_cons_zero, List.set_cons_succ]
  refine wpAnyH_take (i := 6) (oi := ⟨some 30, _, _, _, _, _⟩) (v := .agg (summ.cel k).toArray) rfl (by kernel_rfl) (by kernel_rfl) (by kernel_rfl) (fun _ _ _ h => h) (yields_key (by rfl) (.tmp 5) rfl (w.heap.size) rfl k H16.out (fun _ h => h.1)) HS1.out ?_
  try simp only [Act.put, List.setIfInBounds_toArray, List.set_cons_zero, List.set_cons_succ]
  refine wpAnyH_take (i := 7) (oi := ⟨some 31, _, _, _, _, _⟩) (v := .agg fc.cells.toArray) rfl (by kernel_rfl) (by kernel_rfl) (by kernel_rfl) (fun _ _ _ h => h) (yields_flow (by rfl) (.tmp 12) rfl H rfl fc L3.out (fun _ h => h.2.2)) HS1.out ?_
  try simp only [Act.put, List.setIfInBounds_toArray, List.set_cons_zero, List.set_cons_succ]
  refine wpAnyH_take (i := 8) (oi := ⟨some 32, _, _, _, _, _⟩) (v := ?_) rfl (by kernel_rfl) (by kernel_rfl) (by kernel_rfl) (fun _ _ _ h => h) (Or.inl ⟨by rfl, ?_⟩) HS1.out ?_
  rotate_left
  · (intro W hSW; clear hSW; go_simp)
    first | done | (with_reducible rfl)
  try simp only [Act.put, List.setIfInBounds_toArray, List.set_cons_zero, List.set_cons_succ]
  refine wpAnyH_ready (rs := [5]) (by kernel_rfl) (by simp) ?_
  refine AllReadyH.cons (o := ⟨some 29, _, _, _, _, _⟩) rfl (fun K hK => ?_) AllReadyH.nil
  go_simp
  refine (C1.out _).mono ?_
  rintro e x2 ⟨rfl, hb⟩
  have HS2 : Hid (Three w.heap.size G H k fa fc x2) := HS1.out.below hb
  have X2 : Hid (Below w.heap.size w x2) := X1.out.trans (hb.mono X1.out.size)
  clear hb
  go_simp
  refine hK.out _ _ ?_ (fun _ => ?_)
  · exact HS2.out
  clear hK K
  try simp only [Act.put, List.setIfInBounds_toArray, List.set_cons_zero, List.set_cons_succ]
  refine wpAnyH_ready (rs := [9]) (by kernel_rfl) (by simp) ?_
  refine AllReadyH.cons (o := ⟨some 33, _, _, _, _, _⟩) rfl (fun K hK => ?_) AllReadyH.nil
  go_simp
  refine (C2.out _).mono ?_
  rintro e x3 ⟨rfl, hb⟩
  have HS3 : Hid (Three w.heap.size G H k fa fc x3) := HS2.out.below hb
  have X3 : Hid (Below w.heap.size w x3) := X2.out.trans (hb.mono X2.out.size)
  clear hb
  go_simp
  refine hK.out _ _ ?_ (fun _ => ?_)
  · exact HS3.out
  clear hK K
  try simp only [Act.put, List.setIfInBounds_toArray, List.set_cons_zero, List.set_cons_succ]
  refine wpAnyH_take (i := 10) (oi := ⟨some 34, _, _, _, _, _⟩) (v := .bool true) rfl (by kernel_rfl) (by kernel_rfl) (by kernel_rfl) (fun _ _ _ h => h) (Or.inl ⟨by rfl, ?_⟩) HS3.out ?_
  · (intro W hSW; clear hSW; go_simp)
  try simp only [Act.put, List.setIfInBounds_toArray, List.set_cons_zero, List.set_cons_succ]
  refine wpAnyH_take (i := 11) (oi := ⟨some 35, _, _, _, _, _⟩) (v := ?_) rfl (by kernel_rfl) (by kernel_rfl) (by kernel_rfl) (fun _ _ _ h => h) (Or.inl ⟨by rfl, ?_⟩) HS3.out ?_
  rotate_left
  · (intro W hSW; clear hSW; go_simp)
    first | done | (with_reducible rfl)
  try simp only [Act.put, List.setIfInBounds_toArray, List.set_cons_zero, List.set_cons_succ]
  refine wpAnyH_take (i := 12) (oi := ⟨some 36, _, _, _, _, _⟩) (v := ?_) rfl (by kernel_rfl) (by kernel_rfl) (by kernel_rfl) (fun _ _ _ h => h) (Or.inl ⟨by rfl, ?_⟩) HS3.out ?_
  rotate_left
  · (intro W hSW; clear hSW; go_simp)
    first | done | (with_reducible rfl)
  try simp only [Act.put, List.setIfInBounds_toArray, List.set_cons_zero, List.set_cons_succ]
  refine wpAnyH_take (i := 13) (oi := ⟨some 37, _, _, _, _, _⟩) (v := .agg (summ.cel k).toArray) rfl (by kernel_rfl) (by kernel_rfl) (by kernel_rfl) (fun _ _ _ h => h) (yields_key (by rfl) (.tmp 5) rfl (w.heap.size) rfl k H16.out (fun _ h => h.1)) HS3.out ?_
  try simp only [Act.put, List.setIfInBounds_toArray, List.set_cons_zero, List.set_cons_succ]
  refine wpAnyH_take (i := 14) (oi := ⟨some 38, _, _, _, _, _⟩) (v := .agg fa.cells.toArray) rfl (by kernel_rfl) (by kernel_rfl) (by kernel_rfl) (fun _ _ _ h => h) (yields_flow (by rfl) (.tmp 11) rfl G rfl fa L1.out (fun _ h => h.2.1)) HS3.out ?_
  try simp only [Act.put, List.setIfInBounds_toArray, List.set_cons_zero, List.set_cons_succ]
  refine wpAnyH_take (i := 15) (oi := ⟨some 39, _, _, _, _, _⟩) (v := ?_) rfl (by kernel_rfl) (by kernel_rfl) (by kernel_rfl) (fun _ _ _ h => h) (Or.inl ⟨by rfl, ?_⟩) HS3.out ?_
  rotate_left
  · (intro W hSW; clear hSW; go_simp)
    first | done | (with_reducible rfl)
  try simp only [Act.put, List.setIfInBounds_toArray, List.set_cons_zero, List.set_cons_succ]
  refine wpAnyH_take (i := 16) (oi := ⟨some 40, _, _, _, _, _⟩) (v := ?_) rfl (by kernel_rfl) (by kernel_rfl) (by kernel_rfl) (fun _ _ _ h => h) (Or.inl ⟨by rfl, ?_⟩) HS3.out ?_
  rotate_left
  · (intro W hSW; clear hSW; go_simp)
    first | done | (with_reducible rfl)
  try simp only [Act.put, List.setIfInBounds_toArray, List.set_cons_zero, List.set_cons_succ]
  refine wpAnyH_take (i := 18) (oi := ⟨some 42, _, _, _, _, _⟩) (v := .agg (summ.cel k).toArray) rfl (by kernel_rfl) (by kernel_rfl) (by kernel_rfl) (fun _ _ _ h => h) (yields_key (by rfl) (.tmp 5) rfl (w.heap.size) rfl k H16.out (fun _ h => h.1)) HS3.out ?_
  try simp only [Act.put, List.setIfInBounds_toArray, List.set_cons_zero, List.set_cons_succ]
  refine wpAnyH_take (i := 19) (oi := ⟨some 43, _, _, _, _, _⟩) (v := .agg fc.cells.toArray) rfl (by kernel_rfl) (by kernel_rfl) (by kernel_rfl) (fun _ _ _ h => h) (yields_flow (by rfl) (.tmp 12) rfl H rfl fc L3.out (fun _ h => h.2.2)) HS3.out ?_
  try simp only [Act.put, List.setIfInBounds_toArray, List.set_cons_zero, List.set_cons_succ]
  refine wpAnyH_take (i := 20) (oi := ⟨some 44, _, _, _, _, _⟩) (v := ?_) rfl (by kernel_rfl) (by kernel_rfl) (by kernel_rfl) (fun _ _ _ h => h) (Or.inl ⟨by rfl, ?_⟩) HS3.out ?_
  rotate_left
  · (intro W hSW; clear hSW; go_simp)
    first | done | (with_reducible rfl)
  try simp only [Act.put, List.setIfInBounds_toArray, List.set_cons_zero, List.set_cons_succ]
  refine wpAnyH_take (i := 21) (oi := ⟨some 45, _, _, _, _, _⟩) (v := ?_) rfl (by kernel_rfl) (by kernel_rfl) (by kernel_rfl) (fun _ _ _ h => h) (Or.inl ⟨by rfl, ?_⟩) HS3.out ?_
  rotate_left
  · (intro W hSW; clear hSW; go_simp)
    first | done | (with_reducible rfl)
  try simp only [Act.put, List.setIfInBounds_toArray, List.set_cons_zero, List.set_cons_succ]
  refine wpAnyH_ready (rs := [17]) (by kernel_rfl) (by simp) ?_
  refine AllReadyH.cons (o := ⟨some 41, _, _, _, _, _⟩) rfl (fun K hK => ?_) AllReadyH.nil
  go_simp
  refine (C3.out _).mono ?_
  rintro e x4 ⟨A, c, rfl, hb, hy⟩
  have HS4 : Hid (Three w.heap.size G H k fa fc x4) := HS3.out.below hb
  have X4 : Hid (Below w.heap.size w x4) := X3.out.trans (hb.mono X3.out.size)
  have Y4 := Lib.hid hy
  clear hb hy
  go_simp
  refine hK.out _ _ ?_ (fun _ => ?_)
  · exact HS4.out
  clear hK K
  try simp only [Act.put, List.setIfInBounds_toArray, List.set_cons_zero, List.set_cons_succ]
  refine wpAnyH_ready (rs := [22]) (by kernel_rfl) (by simp) ?_
  refine AllReadyH.cons (o := ⟨some 46, _, _, _, _, _⟩) rfl (fun K hK => ?_) AllReadyH.nil
  go_simp
  refine (C4.out _).mono ?_
  rintro e x5 ⟨A2, c2, rfl, hb, hy⟩
  have HS5 : Hid (Three w.heap.size G H k fa fc x5) := HS4.out.below hb
  have X5 : Hid (Below w.heap.size w x5) := X4.out.trans (hb.mono X4.out.size)
  have Y5 := Lib.hid hy
  have Z5 := Lib.hid (Y4.out.below hb)
  clear hb hy
  go_simp
  refine hK.out _ _ ?_ (fun _ => ?_)
  · exact HS5.out
  clear hK K
  try simp only [Act.put, List.setIfInBounds_toArray, List.set_cons_zero, List.set_cons_succ]
  refine wpAnyH_ready (rs := [23]) (by kernel_rfl) (by simp) ?_
  refine AllReadyH.cons (o := ⟨some 47, _, _, _, _, _⟩) rfl (fun K hK => ?_) AllReadyH.nil
  go_simp
  refine (ints_alike A A2 zs.length c c2 zs _ HL.out Z5.out Y5.out).mono ?_
  rintro e x6 ⟨rfl, hb⟩
  have HS6 : Hid (Three w.heap.size G H k fa fc x6) := HS5.out.below hb
  have X6 : Hid (Below w.heap.size w x6) := X5.out.trans (hb.mono X5.out.size)
  clear hb
  go_simp
  refine hK.out _ _ ?_ (fun _ => ?_)
  · exact HS6.out
  clear hK K
  try simp only [Act.put, List.setIfInBounds_toArray, List.set_cons_zero, List.set_cons_succ]
  refine wpAnyH_take (i := 24) (oi := ⟨some 48, _, _, _, _, _⟩) (v := ?_) rfl (by kernel_rfl) (by kernel_rfl) (by kernel_rfl) (fun _ _ _ h => h) (Or.inl ⟨by rfl, ?_⟩) HS6.out ?_
  rotate_left
  · (intro W hSW; clear hSW; go_simp)
    first | done | (with_reducible rfl)
  try simp only [Act.put, List.setIfInBounds_toArray, List.set_cons_zero, List.set_cons_succ]
  refine wpAnyH_take (i := 25) (oi := ⟨some 10, _, _, _, _, _⟩) (v := ?_) rfl (by kernel_rfl) (by kernel_rfl) (by kernel_rfl) (fun _ _ _ h => h) (Or.inl ⟨by rfl, ?_⟩) HS6.out ?_
  rotate_left
  · (intro W hSW; clear hSW; go_simp)
    first | done | (with_reducible rfl)
  try simp only [Act.put, List.setIfInBounds_toArray, List.set_cons_zero, List.set_cons_succ]
  refine wpAnyH_done (by kernel_rfl) ?_ _
  go_wp2
  go_ret
  exact ⟨rfl, X6.out⟩
end Go.Proofs.Ytjenfhkgceneaaa
