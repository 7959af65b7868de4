/- The contract of table's Put of one who isn't there. Conditions: those of each theorem. -/
import Derived.Test.YtpjeeccgpnpokaaGetT
namespace Go.Proofs.Ytpjeeccgpnpokaa
open Go.RowKit

theorem bldT (f : Pre → Nat) (s : Ent) (w : World) : (Instr.build 91 [(0, .agg s.p.cs.toArray), (1, .agg (sv f s).toArray)].toArray).run Try.prog w = .ok (.agg (((kSt f)).cs s).toArray) w := run_build w 91 _ _ (by kernel_rfl)
theorem run_oneET (f : Pre → Nat) (x : Ent) (w : World) : (Instr.buildSlice 83 1 #[(0, .agg (((kSt f)).cs x).toArray)]).run Try.prog w = .ok (.slice (some ⟨w.heap.size, 0, none⟩) 1 1) (w.alloc (.cells (((kSt f)).cs x).toArray 91)) := by
  obtain ⟨i, hi, hh⟩ := Option.map_eq_some_iff.1 (infoET f )
  simp only [Prod.mk.injEq] at hh
  have e1 : ∀ W : World, (sizeOf 91).run Try.prog W = .ok 10 W := seT
  have e2 : ∀ W : World, (zeroValue 91).run Try.prog W = .ok (.agg (pre0.cs ++ [Value.int .i64 0, Value.pointer none]).toArray) W := fun W => by simp [zeroValue, typeInfo, hi, hh.1]
  obtain ⟨⟨v, a, b, c, d, e, f', g⟩, u, l, m⟩ := x
  have e3 : (((kSt f)).cs ⟨⟨v, a, b, c, d, e, f', g⟩, u, l, m⟩) = [.bool v, .int .u8 a, .int .u8 b, .int .u8 c, .int .u8 d, .int .u8 e, .int .u8 f', .int .u8 g, .int .i64 u, .pointer (if u = 0 then none else some ⟨f ⟨v, a, b, c, d, e, f', g⟩, 0, none⟩)] := rfl
  rw [e3]
  generalize (if u = 0 then none else some (⟨f ⟨v, a, b, c, d, e, f', g⟩, 0, none⟩ : Addr)) = z
  simp [go_sem, Instr.buildSlice, run_underlying usT, e1, e2, Pre.cs, Pre.bs, cel, pre0]
theorem step_oneET (f : Pre → Nat) {ops : Array Oper} {o : Oper} {a : Act} {w : World} {K : Act → World → Prop} {Q : Exit → Act → World → Prop} {E : Prop} (hw : Region.wanted o (yielded ops a.tmps) = true) (x : Operand) (ho : o.op = .buildSlice 83 1 #[(0, x)]) (e : Ent) (hx : a.eval x = .agg (((kSt f)).cs e).toArray)
    (hK : K (a.put o.dst (.slice (some ⟨w.heap.size, 0, none⟩) 1 1)) (w.alloc (.cells (((kSt f)).cs e).toArray 91))) : if Region.wanted o (yielded ops a.tmps) = true then Oper.wp Try.prog o a w K Q else E := by
  rw [if_pos hw]
  unfold Oper.wp
  have hrun := run_oneET f e w
  simp [execOp, ho, hx, hrun, Result.andThen, Oper.upon]
  exact hK
/-- Two boxes more: a prefix, its stay. -/
theorem box_sv (f : Pre → Nat) (s : Ent) (w : World) : Blk ((w.alloc (.cells s.p.cs.toArray 31)).alloc (.cells (sv f s).toArray 60)) w.heap.size 31 s.p.cs ∧ Blk ((w.alloc (.cells s.p.cs.toArray 31)).alloc (.cells (sv f s).toArray 60)) (w.heap.size + 1) 60 (sv f s) ∧ Below w.heap.size w ((w.alloc (.cells s.p.cs.toArray 31)).alloc (.cells (sv f s).toArray 60)) := by
  refine ⟨(Blk.new w 31 s.p.cs).alloc _, ?_, ((Below.refl _ w).alloc (Nat.le_refl _) _).alloc (by simp) _⟩
  have := Blk.new (w.alloc (.cells s.p.cs.toArray 31)) 60 (sv f s)
  rwa [show (w.alloc (.cells s.p.cs.toArray 31)).heap.size = w.heap.size + 1 by simp] at this
set_option maxHeartbeats 1000000 in
theorem putT_full (f : Pre → Nat) (g q n : Nat) (L : List Ent) (s : Ent) (w : World) (h : TbAt (kSt f) 85 91 w g q n L) (ho : POks L) (hp : s.p.Ok) (hh : has L s.p = false) (hr : n ≤ L.length) :
    Calls Try.prog 24 #[.pointer (some ⟨g, 0, none⟩), .agg s.p.cs.toArray, .agg (sv f s).toArray] w (ActT (kSt f) 85 91 g q n L (.bool false) w) := by
  obtain ⟨n0, n1, n2⟩ := box_sv f s w
  have P1 := Lib.hid n0
  have W1 := Lib.hid n2
  have HF := Lib.hid (fun W (hW : Below w.heap.size w W) => findT_ f g q n L s.p W (h.below hW) ho hp)
  have HT := Lib.hid (fun W (hW : Below w.heap.size w W) => h.below hW)
  have hfit := h.fit
  have hle := h.le
  rw [hh] at HF
  have hd : decide ((n : Int) ≤ (L.length : Int)) = true := by simp; omega
  clear h ho hp hh n0 n1 n2
  generalize plc L s.p = m at *
  generalize s.p = p at *
  generalize sv f s = vs at *
  go_enter Try.func24, Try.ntmps24
  go_upto_region 1 with fail
  generalize ((w.alloc (.cells p.cs.toArray 31)).alloc (.cells vs.toArray 60)) = x1 at *
  go_upto_region 5 with (first | (refine wpList_pre (by rfl) (.tmp 4) rfl _ _ rfl p (whole_at P1.out) ?_) | (go_at_call 34; (with_reducible refine (HF.out _ W1.out).mono ?_); rintro e x2 ⟨rfl, hb⟩; have W2 : Hid (Below w.heap.size w x2) := W1.out.trans (hb.mono W1.out.size); clear hb))
  have c0 : ∀ N, (x2.drewN N).cell? ⟨g, 0, none⟩ = some (.slice (some ⟨q, 0, none⟩) (L.length : Nat) n) := fun N => (HT.out _ W2.out).cells.1
  have c1 : ∀ N, (x2.drewN N).cell? ⟨g, 1, none⟩ = some (.int .i64 (n : Nat)) := fun N => (HT.out _ W2.out).cells.2.1
  have FIN : Hid (∀ N, ActT (kSt f) 85 91 g q n L (.bool false) w (.returned (.bool false)) (x2.drewN N)) := fun N => ⟨rfl, HT.out _ (below_drewN W2.out N), Far.of_below (below_drewN W2.out N) _⟩
  generalize L.length = l at *
  go_quiet (fail)
  go_wp2
  go_ret
  exact FIN.out _
set_option maxRecDepth 100000 in
set_option maxHeartbeats 1000000 in
theorem putT_room (f : Pre → Nat) (g q n : Nat) (L : List Ent) (s : Ent) (w : World) (h : TbAt (kSt f) 85 91 w g q n L) (ho : POks L) (hp : s.p.Ok) (hh : has L s.p = false) (hr : ¬ n ≤ L.length) :
    Calls Try.prog 24 #[.pointer (some ⟨g, 0, none⟩), .agg s.p.cs.toArray, .agg (sv f s).toArray] w (ActT (kSt f) 85 91 g q n (ins L (plc L s.p) s) (.bool true) w) := by
  obtain ⟨n0, n1, n2⟩ := box_sv f s w
  have P1 := Lib.hid n0
  have V1 := Lib.hid n1
  have W1 := Lib.hid n2
  have HF := Lib.hid (fun W (hW : Below w.heap.size w W) => findT_ f g q n L s.p W (h.below hW) ho hp)
  have HT := Lib.hid (fun W (hW : Below w.heap.size w W) => h.below hW)
  have hlt := h.lt
  have hfit := h.fit
  have hle := h.le
  rw [hh] at HF
  have HS := Lib.hid (h.srt.ins_ rfl hh)
  have hpl := plc_le (L := L) (p := s.p)
  have hil := ins_length (s := s) hpl
  have hd : decide (n ≤ L.length) = false := by simp; omega
  have HI := Lib.hid (fun q2 W hb hx hq => insT_ f q q2 (plc L s.p) n L s W hb hx hq hpl (by omega) hle)
  have HN : Hid ((ins L (plc L s.p) s).length ≤ n) := by show _ ≤ _; omega
  clear h ho hp hh hpl n0 n1 n2
  generalize ins L (plc L s.p) s = L' at *
  generalize plc L s.p = m at *
  obtain ⟨l, hl⟩ : ∃ l, L.length = l := ⟨_, rfl⟩
  rw [hl] at HI hd hil
  have HL := Lib.hid hl
  clear hl
  go_enter Try.func24, Try.ntmps24
  go_upto_region 1 with fail
  generalize ((w.alloc (.cells s.p.cs.toArray 31)).alloc (.cells (sv f s).toArray 60)) = x1 at *
  go_upto_region 5 with (first | (refine wpList_pre (by rfl) (.tmp 4) rfl _ _ rfl s.p (whole_at P1.out) ?_) | (go_at_call 34; (with_reducible refine (HF.out _ W1.out).mono ?_); rintro e x2 ⟨rfl, hb⟩; have W2 : Hid (Below w.heap.size w x2) := W1.out.trans (hb.mono W1.out.size); have P2 := Lib.hid (P1.out.below hb); have V2 := Lib.hid (V1.out.below hb); clear hb))
  have c0 : ∀ N, (x2.drewN N).cell? ⟨g, 0, none⟩ = some (.slice (some ⟨q, 0, none⟩) (l : Nat) n) := fun N => HL.out ▸ (HT.out _ W2.out).cells.1
  have c1 : ∀ N, (x2.drewN N).cell? ⟨g, 1, none⟩ = some (.int .i64 (n : Nat)) := fun N => (HT.out _ W2.out).cells.2.1
  go_quiet (fail)
  clear c0 c1
  have T2 := Lib.hid (HT.out _ (below_drewN W2.out nq).drew)
  have P3 : Hid (Blk (x2.drewN nq).drew w.heap.size 31 s.p.cs) := P2.out
  have V3 : Hid (Blk (x2.drewN nq).drew (w.heap.size + 1) 60 (sv f s)) := V2.out
  have W3 : Hid (Below w.heap.size w (x2.drewN nq).drew) := (below_drewN W2.out nq).drew
  clear W2 P2 V2 HT P1 V1 W1 HF
  have HG0 : Hid ((x2.drewN nq).drew.cell? ⟨g, 0, none⟩ = some (.slice (some ⟨q, 0, none⟩) (l : Nat) n) ∧ (x2.drewN nq).drew.rangeAt w.heap.size 0 s.p.cs ∧ (x2.drewN nq).drew.rangeAt (w.heap.size + 1) 0 (sv f s)) := ⟨HL.out ▸ T2.out.cells.1, whole_at P3.out, whole_at V3.out⟩
  go_wp2_with fail
  refine til_begin (fun W => W.cell? ⟨g, 0, none⟩ = some (.slice (some ⟨q, 0, none⟩) (l : Nat) n) ∧ W.rangeAt w.heap.size 0 s.p.cs ∧ W.rangeAt (w.heap.size + 1) 0 (sv f s)) 11 (by kernel_rfl) ?_
  clear HG0
  generalize (x2.drewN nq).drew = x3 at *
  have HG : Hid (x3.cell? ⟨g, 0, none⟩ = some (.slice (some ⟨q, 0, none⟩) (l : Nat) n) ∧ x3.rangeAt w.heap.size 0 s.p.cs ∧ x3.rangeAt (w.heap.size + 1) 0 (sv f s)) := ⟨HL.out ▸ T2.out.cells.1, whole_at P3.out, whole_at V3.out⟩
  have hz3 := T2.out.lt.2
  have hB4 : Below x3.heap.size x3 (x3.alloc (.cells (((kSt f)).cs s).toArray 91)) := (Below.refl _ _).alloc (Nat.le_refl _) _
  have T4 := Lib.hid (T2.out.below hB4)
  have P4 := P3.out.below hB4
  have V4 := V3.out.below hB4
  have W4 : Hid (Below w.heap.size w (x3.alloc (.cells (((kSt f)).cs s).toArray 91))) := W3.out.trans (hB4.mono W3.out.size)
  have HI4 := Lib.hid (HI.out x3.heap.size _ (HL.out ▸ T4.out.row) (Blk.new x3 91 _) (by omega))
  have HG4 : Hid ((x3.alloc (.cells (((kSt f)).cs s).toArray 91)).cell? ⟨g, 0, none⟩ = some (.slice (some ⟨q, 0, none⟩) (l : Nat) n) ∧ (x3.alloc (.cells (((kSt f)).cs s).toArray 91)).rangeAt w.heap.size 0 s.p.cs ∧ (x3.alloc (.cells (((kSt f)).cs s).toArray 91)).rangeAt (w.heap.size + 1) 0 (sv f s)) := ⟨HL.out ▸ T4.out.cells.1, whole_at P4, whole_at V4⟩
  have HX5 : Hid (∀ x5, Blk x5 q 91 (((kSt f)).flat (L' ++ zs (n - L'.length))) → Far (only q) (x3.alloc (.cells (((kSt f)).cs s).toArray 91)) x5 → x5.cell? ⟨g, 0, none⟩ = some (.slice (some ⟨q, 0, none⟩) (l : Nat) n) ∧ x5.frozen? ⟨g, 0, none⟩ = false ∧ x5.rangeAt w.heap.size 0 s.p.cs ∧ x5.rangeAt (w.heap.size + 1) 0 (sv f s) ∧
      ActT (kSt f) 85 91 g q n L' (.bool true) w (.returned (.bool true)) (x5.setCell ⟨g, 0, none⟩ (.slice (some ⟨q, 0, none⟩) (l + 1 : Nat) n)) ∧ True) := fun x5 hb5 hf5 => by
    have hg5 := T4.out.head.far hf5 T4.out.ne
    have hp5 := P4.far hf5 (fun e => by have e' : w.heap.size = q := e; omega)
    have hv5 := V4.far hf5 (fun e => by have e' : w.heap.size + 1 = q := e; omega)
    have hnx := T4.out.next hb5 hf5 HN.out HS.out
    rw [hil] at hnx
    refine ⟨HL.out ▸ hg5.cell 0, hg5.frozen 0, whole_at hp5, whole_at hv5, ⟨rfl, hnx.1, (Far.of_below W4.out _).trans hnx.2 (fun _ _ e => e)⟩, trivial⟩
  clear T2 P3 V3 W3 T4 P4 V4 W4 hB4 HI HS HN HL
  have D0 : Hid (x3.cell? ⟨g, 0, none⟩ = some (.slice (some ⟨q, 0, none⟩) (l : Nat) n) ∧ x3.rangeAt w.heap.size 0 s.p.cs ∧ x3.rangeAt (w.heap.size + 1) 0 (sv f s)) := ⟨HG.out.1, HG.out.2.1, HG.out.2.2⟩
  refine til_take (i := 0) (oi := ⟨some 38, _, _, _, _, _⟩) (v := ?_) rfl (by kernel_rfl) (by kernel_rfl) (by kernel_rfl) (by decide) (by kernel_rfl) (by kernel_rfl) (fun _ _ _ h => h) (Or.inl ⟨by rfl, ?_⟩) D0.out ?_
  rotate_left
  · (intro W hSW; clear hSW; go_simp)
    first | done | (with_reducible rfl)
  try simp only [Act.put, List.setIfInBounds_toArray, List.set_cons_zero, List.set_cons_succ]
  refine til_take (i := 1) (oi := ⟨some 39, _, _, _, _, _⟩) (v := ?_) rfl (by kernel_rfl) (by kernel_rfl) (by kernel_rfl) (by decide) (by kernel_rfl) (by kernel_rfl) (fun _ _ _ h => h) (Or.inl ⟨by rfl, ?_⟩) D0.out ?_
  rotate_left
  · (intro W hSW; clear hSW; go_simp)
    first | done | (with_reducible rfl)
  try simp only [Act.put, List.setIfInBounds_toArray, List.set_cons_zero, List.set_cons_succ]
  refine til_take (i := 2) (oi := ⟨some 40, _, _, _, _, _⟩) (v := ?_) rfl (by kernel_rfl) (by kernel_rfl) (by kernel_rfl) (by decide) (by kernel_rfl) (by kernel_rfl) (fun _ _ _ h => h) (Or.inl ⟨by rfl, ?_⟩) D0.out ?_
  rotate_left
  · (intro W hSW; clear hSW; go_simp)
    first | done | (with_reducible rfl)
  try simp only [Act.put, List.setIfInBounds_toArray, List.set_cons_zero, List.set_cons_succ]
  refine til_take (i := 3) (oi := ⟨some 41, _, _, _, _, _⟩) (v := ?_) rfl (by kernel_rfl) (by kernel_rfl) (by kernel_rfl) (by decide) (by kernel_rfl) (by kernel_rfl) (fun _ _ _ h => h) (Or.inl ⟨by rfl, ?_⟩) D0.out ?_
  rotate_left
  · (intro W hSW; clear hSW; go_simp)
    first | done | (with_reducible rfl)
  try simp only [Act.put, List.setIfInBounds_toArray, List.set_cons_zero, List.set_cons_succ]
  refine til_take (i := 4) (oi := ⟨some 42, _, _, _, _, _⟩) (v := ?_) rfl (by kernel_rfl) (by kernel_rfl) (by kernel_rfl) (by decide) (by kernel_rfl) (by kernel_rfl) (fun _ _ _ h => h) (Or.inl ⟨by rfl, ?_⟩) D0.out ?_
  rotate_left
  · (intro W hSW; have k0 := hSW.1; clear hSW; go_simp)
    first | done | (with_reducible rfl)
  try simp only [Act.put, List.setIfInBounds_toArray, List.set_cons_zero, List.set_cons_succ]
  refine til_take (i := 5) (oi := ⟨some 43, _, _, _, _, _⟩) (v := ?_) rfl (by kernel_rfl) (by kernel_rfl) (by kernel_rfl) (by decide) (by kernel_rfl) (by kernel_rfl) (fun _ _ _ h => h) (Or.inl ⟨by rfl, ?_⟩) D0.out ?_
  rotate_left
  · (intro W hSW; clear hSW; go_simp)
    first | done | (with_reducible rfl)
  try simp only [Act.put, List.setIfInBounds_toArray, List.set_cons_zero, List.set_cons_succ]
  refine til_take (i := 6) (oi := ⟨some 44, _, _, _, _, _⟩) (v := .agg s.p.cs.toArray) rfl (by kernel_rfl) (by kernel_rfl) (by kernel_rfl) (by decide) (by kernel_rfl) (by kernel_rfl) (fun _ _ _ h => h) (yields_pre (by rfl) (.tmp 4) rfl _ 0 rfl s.p (fun _ hW => hW.2.1)) D0.out ?_
  try simp only [Act.put, List.setIfInBounds_toArray, List.set_cons_zero, List.set_cons_succ]
  refine til_take (i := 7) (oi := ⟨some 45, _, _, _, _, _⟩) (v := .agg (sv f s).toArray) rfl (by kernel_rfl) (by kernel_rfl) (by kernel_rfl) (by decide) (by kernel_rfl) (by kernel_rfl) (fun _ _ _ h => h) (yields_loadE (by rfl) 60 _ Try.underlying60 rfl (.tmp 5) rfl _ 0 rfl (sv f s) (fun _ hW => hW.2.2) size60) D0.out ?_
  try simp only [Act.put, List.setIfInBounds_toArray, List.set_cons_zero, List.set_cons_succ]
  refine til_take (i := 8) (oi := ⟨some 46, _, _, _, _, _⟩) (v := .agg (((kSt f)).cs s).toArray) rfl (by kernel_rfl) (by kernel_rfl) (by kernel_rfl) (by decide) (by kernel_rfl) (by kernel_rfl) (fun _ _ _ h => h) (yields_build (by rfl) 91 [(0, .tmp 44), (1, .tmp 45)] rfl [(0, .agg s.p.cs.toArray), (1, .agg (sv f s).toArray)] (by rfl) _ (bldT f s)) D0.out ?_
  try simp only [Act.put, List.setIfInBounds_toArray, List.set_cons_zero, List.set_cons_succ]
  refine til_one (i := 9) (o := ⟨some 47, _, _, _, _, _⟩) (by kernel_rfl) rfl (fun K hK => ?_)
  refine step_oneET f (by rfl) (.tmp 46) rfl s rfl ?_
  refine hK.out _ _ (fun _ => HG4.out) ?_
  clear hK K
  try simp only [Act.put, List.setIfInBounds_toArray, List.set_cons_zero, List.set_cons_succ]
  refine til_one (i := 10) (o := ⟨some 48, _, _, _, _, _⟩) (by kernel_rfl) rfl (fun K hK => ?_)
  go_simp
  refine HI4.out.mono ?_
  rintro e x5 ⟨rfl, hb5, hf5⟩
  have HX5 := Lib.hid (HX5.out x5 hb5 hf5)
  have k5 := HX5.out.1
  have k6 := HX5.out.2.1
  clear hb5 hf5
  go_simp
  refine hK.out _ _ (fun _ => ⟨HX5.out.1, HX5.out.2.2.1, HX5.out.2.2.2.1⟩) ?_
  clear hK K
  try simp only [Act.put, List.setIfInBounds_toArray, List.set_cons_zero, List.set_cons_succ]
  refine til_one (i := 11) (o := ⟨some 49, _, _, _, _, _⟩) (by kernel_rfl) rfl (fun K hK => ?_)
  go_simp
  refine hK.out _ _ (past (by kernel_rfl)) ?_
  clear hK K
  try simp only [Act.put, List.setIfInBounds_toArray, List.set_cons_zero, List.set_cons_succ]
  refine til_one (i := 12) (o := ⟨some 50, _, _, _, _, _⟩) (by kernel_rfl) rfl (fun K hK => ?_)
  go_simp
  refine hK.out _ _ (past (by kernel_rfl)) ?_
  clear hK K
  try simp only [Act.put, List.setIfInBounds_toArray, List.set_cons_zero, List.set_cons_succ]
  refine til_one (i := 13) (o := ⟨none, _, _, _, _, _⟩) (by kernel_rfl) rfl (fun K hK => ?_)
  go_simp
  refine hK.out _ _ (past (by kernel_rfl)) ?_
  clear hK K
  try simp only [Act.put]
  refine til_done (by kernel_rfl) ?_ _
  go_wp2_with fail
  go_ret
  exact HX5.out.2.2.2.2.1
end Go.Proofs.Ytpjeeccgpnpokaa
