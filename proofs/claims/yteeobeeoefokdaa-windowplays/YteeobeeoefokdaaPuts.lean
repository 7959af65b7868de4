/- The contracts of sketch's place. Conditions: those of each theorem. -/
import Derived.Test.YteeobeeoefokdaaGets
import Derived.Test.YteeobeeoefokdaaUntil
namespace Go.Proofs.Yteeobeeoefokdaa
open Go.RowKit

/-- append, its run known, in a region that draws. -/
theorem step_app {w w' : World} {ops : Array Oper} {o : Oper} {a : Act} {K : Act → World → Prop} {Q : Exit → Act → World → Prop} {E : Prop} (hw : Region.wanted o (yielded ops a.tmps) = true) (tt : TypeId) (s x : Operand)
    (ho : o.op = .call { callee := .builtin .append, args := #[s, x], argTypes := #[tt, tt] }) (S X V : Value) (hs : a.eval s = S) (hx : a.eval x = X) (hrun : (Builtin.append_ #[tt, tt] o.type #[S, X]).run Try.prog w = .ok V w')
    (hK : K (a.put o.dst V) w') : if Region.wanted o (yielded ops a.tmps) = true then Oper.wp Try.prog o a w K Q else E := by
  rw [if_pos hw]
  unfold Oper.wp
  simp [execOp, ho, resolve, invoke, builtin, hs, hx, hrun, Result.andThen]
  exact hK
theorem zero32_ : (Try.prog.info? 52).map (fun i => (i.zero, i.size)) = some (some (.agg slo0.cs.toArray), 10) := by kernel_rfl
theorem zero46_ : (Try.prog.info? 65).map (fun i => (i.zero, i.size)) = some (some (.agg slo0.cs.toArray), 10) := by kernel_rfl
theorem run_one (tt t : TypeId) (s : Slo) (ht : Try.prog.underlying tt = some (.slice t)) (hz : (Try.prog.info? t).map (fun i => (i.zero, i.size)) = some (some (.agg slo0.cs.toArray), 10)) (w : World) :
    (Instr.buildSlice tt 1 #[(0, .agg s.cs.toArray)]).run Try.prog w = .ok (.slice (some ⟨w.heap.size, 0, none⟩) 1 1) (w.alloc (.cells s.cs.toArray t)) := by
  obtain ⟨i, hi, hh⟩ := Option.map_eq_some_iff.1 hz
  simp only [Prod.mk.injEq] at hh
  have e1 : ∀ W : World, (sizeOf t).run Try.prog W = .ok 10 W := fun W => by simp [sizeOf, typeInfo, hi, hh.2]
  have e2 : ∀ W : World, (zeroValue t).run Try.prog W = .ok (.agg slo0.cs.toArray) W := fun W => by simp [zeroValue, typeInfo, hi, hh.1]
  obtain ⟨⟨v, a, b, c, d, e, f, g⟩, x, y⟩ := s
  simp [go_sem, Instr.buildSlice, run_underlying ht, e1, e2, Pre.cs, Slo.cs, Pre.bs, cel, slo0, pre0]
/-- A slice of one slot, in a region that draws. -/
theorem step_one {ops : Array Oper} {o : Oper} {a : Act} {w : World} {K : Act → World → Prop} {Q : Exit → Act → World → Prop} {E : Prop} (hw : Region.wanted o (yielded ops a.tmps) = true) (tt : TypeId) (x : Operand) (ho : o.op = .buildSlice tt 1 #[(0, x)])
    (s : Slo) (hx : a.eval x = .agg s.cs.toArray) {t : TypeId} (ht : Try.prog.underlying tt = some (.slice t)) (hz : (Try.prog.info? t).map (fun i => (i.zero, i.size)) = some (some (.agg slo0.cs.toArray), 10))
    (hK : K (a.put o.dst (.slice (some ⟨w.heap.size, 0, none⟩) 1 1)) (w.alloc (.cells s.cs.toArray t))) : if Region.wanted o (yielded ops a.tmps) = true then Oper.wp Try.prog o a w K Q else E := by
  rw [if_pos hw]
  unfold Oper.wp
  have hrun := run_one tt t s ht hz w
  simp [execOp, ho, hx, hrun, Result.andThen, Oper.upon]
  exact hK
/-- A slot into a row, in a region that draws. -/
theorem step_put {ops : Array Oper} {op : Oper} {a : Act} {w : World} {K : Act → World → Prop} {Q : Exit → Act → World → Prop} {E : Prop} (hw : Region.wanted op (yielded ops a.tmps) = true) (ty : TypeId) (hty : (Try.prog.info? ty).map (·.size) = some 10) (x y : Operand) (ho : op.op = .store ty x y) (b k : Nat) (s : Slo) (hx : a.eval x = .pointer (some ⟨b, k * 10, none⟩)) (hy : a.eval y = .agg s.cs.toArray)
    (t : TypeId) (c : Nat) (L : List Slo) (hr : Rw w t b c L) (hk : k < L.length)
    (h : ∀ w', Hid (Rw w' t b c (L.set k s)) → Hid (Far (only b) w w') → K (a.put op.dst undef) w') : if Region.wanted op (yielded ops a.tmps) = true then Oper.wp Try.prog op a w K Q else E := by
  rw [if_pos hw]
  exact wp_store_mid ty x y ho b (k * 10) s.cs.toArray hx hy (by simpa [cs10] using hr.there hk) (by simpa [cs10] using hty) (all_oneCell_toArray (slo_each s)) (h _ (hr.put hk s) (far_setCells _ _ _ _ (Far.refl _ _) (fun _ => rfl)))
/-- One more slot where there is room. -/
theorem run_append_push (t tt ty : TypeId) (ht : Try.prog.underlying tt = some (.slice t)) (hi : (Try.prog.info? t).map (·.size) = some 10) (w : World) (q M h : Nat) (L : List Slo) (s : Slo) (hr : Rw w t q M L) (hm : L.length < M) (u : TypeId) (hb : Blk w h u s.cs) :
    ∃ w', (Builtin.append_ #[tt, tt] ty #[.slice (some ⟨q, 0, none⟩) L.length M, .slice (some ⟨h, 0, none⟩) 1 1]).run Try.prog w = .ok (.slice (some ⟨q, 0, none⟩) (L.length + 1) M) w' ∧ Rw w' t q M (L ++ [s]) ∧ Far (only q) w w' := by
  obtain ⟨h1, R, hB, h2⟩ := hr
  obtain ⟨i, hi0, hs⟩ := Option.map_eq_some_iff.1 hi
  have hl := flat_length L
  have hrun := run_append_room (P := Try.prog) w tt ty t i ht hi0 q L.length M (flat L ++ R).toArray hB ⟨h, 0, none⟩ 1 1 s.cs (by rw [cs10, hs]) (fun j u hj => by rw [Addr.add_mid, hb.cell, Nat.zero_add]; exact hj) (slo_each s) (by omega) (by simp [hl, h2, cs10, hs]; omega)
  refine ⟨_, hrun, ⟨by simp; omega, R.drop 10, ?_, by simp [h2]; omega⟩, setRow_far _ _ _⟩
  have := setRow_blk hB (flat (L ++ [s]) ++ R.drop 10)
  refine Eq.trans ?_ this
  congr 1
  rw [hs]
  congr 1
  rw [flat_app, flat_one, cs10]
  simp [hl, List.drop_append, List.drop_of_length_le]
theorem Far.of_drew {S : Nat → Prop} {w w' : World} (h : Far S w.drew w') : Far S w w' := ⟨h.os, h.tape, h.output, h.size, h.block⟩
def PlcOut (g q M : Nat) (L' : List Slo) (T : Int) (k : Nat) (w : World) (e : Ending) (w' : World) : Prop := e = .returned (.int .i64 (k : Nat)) ∧ SAt w' g q M L' T ∧ Far (two g q) w w'

set_option maxHeartbeats 600000 in
theorem place_ (g q M : Nat) (L : List Slo) (T : Int) (p : Pre) (w : World) (h : SAt w g q M L T) (hp : p.Ok) : Calls Try.prog 25 #[.pointer (some ⟨g, 0, none⟩), .agg p.cs.toArray] w (PlcOut g q M (plc M L p) T (pos M L p) w) := by
  have N1 := Lib.hid (Blk.new w 31 p.cs)
  have B1 : Hid (Below w.heap.size w (w.alloc (.cells p.cs.toArray 31))) := (Below.refl _ w).alloc (Nat.le_refl _) _
  have HF := Lib.hid (find_ g q M L T p _ (h.below B1.out) hp)
  have HS := Lib.hid h
  have HP := Lib.hid hp
  have hfew := h.few
  have hlt := Lib.hid h.lt
  clear h hp
  rcases hh : has L p with _ | _
  · have e1 : fnd L p = -1 := by simp [fnd, hh]
    rw [e1] at HF
    have HH := Lib.hid hh
    clear hh e1
    by_cases hm : L.length < M
    · rw [plc_room HH.out hm, pos_room HH.out hm]
      obtain ⟨n, hn⟩ : ∃ n, L.length = n := ⟨_, rfl⟩
      rw [hn] at hm hfew ⊢
      have HN := Lib.hid hn
      clear hn HH
      have hd : decide ((n : Int) < (M : Int)) = true := by simp; omega
      go_enter Try.func25, Try.ntmps25
      go_upto_region 4 with (first | (refine wpList_pre (by rfl) (.tmp 3) rfl _ _ rfl p (whole_at N1.out) ?_) | (go_at_call 30; (with_reducible refine HF.out.mono ?_); rintro e w2 ⟨rfl, hb2⟩; have K2 := Lib.hid (N1.out.below hb2); have W2 : Hid (Below w.heap.size w w2) := B1.out.trans (hb2.mono B1.out.size); clear hb2; have S2 := Lib.hid (HS.out.below W2.out); obtain ⟨c0, c1, _⟩ := S2.out.cells; rw [HN.out] at c0))
      go_quiet (fail)
      have S3 : Hid (SAt (w2.drewN nq) g q M L T) := S2.out
      have K3 : Hid (Blk (w2.drewN nq) w.heap.size 31 p.cs) := K2.out
      have W3 : Hid (Below w.heap.size w (w2.drewN nq)) := below_drewN W2.out _
      clear S2 K2 W2 c0 c1
      generalize w2.drewN nq = x3 at *
      go_upto_region 5 with fail
      have G3 : Hid (Blk x3 g 67 [.slice (some ⟨q, 0, none⟩) n M, .int .i64 (M : Nat), .int .i64 T]) := by have := S3.out.1; rw [HN.out] at this; exact this
      refine til_begin (fun W => Blk W g 67 [.slice (some ⟨q, 0, none⟩) n M, .int .i64 (M : Nat), .int .i64 T] ∧ Blk W w.heap.size 31 p.cs) 9 (by kernel_rfl) ?_
      have D0 := Lib.hid ((⟨G3.out, K3.out⟩ : Blk x3.drew g 67 [.slice (some ⟨q, 0, none⟩) n M, .int .i64 (M : Nat), .int .i64 T] ∧ Blk x3.drew w.heap.size 31 p.cs))
      refine til_take (i := 0) (oi := ⟨some 24, _, _, _, _, _⟩) (v := ?_) rfl (by kernel_rfl) (by kernel_rfl) (by kernel_rfl) (by decide) (by kernel_rfl) (by kernel_rfl) (fun _ _ _ h => h) (Or.inl ⟨by rfl, ?_⟩) D0.out ?_
      rotate_left
      · (intro W hSW; clear hSW; go_simp)
        first | done | (with_reducible rfl)
      try simp only [Act.put, List.setIfInBounds_toArray, List.set_cons_zero, List.set_cons_succ]
      refine til_take (i := 1) (oi := ⟨some 25, _, _, _, _, _⟩) (v := ?_) rfl (by kernel_rfl) (by kernel_rfl) (by kernel_rfl) (by decide) (by kernel_rfl) (by kernel_rfl) (fun _ _ _ h => h) (Or.inl ⟨by rfl, ?_⟩) D0.out ?_
      rotate_left
      · (intro W hSW; clear hSW; go_simp)
        first | done | (with_reducible rfl)
      try simp only [Act.put, List.setIfInBounds_toArray, List.set_cons_zero, List.set_cons_succ]
      refine til_take (i := 2) (oi := ⟨some 26, _, _, _, _, _⟩) (v := ?_) rfl (by kernel_rfl) (by kernel_rfl) (by kernel_rfl) (by decide) (by kernel_rfl) (by kernel_rfl) (fun _ _ _ h => h) (Or.inl ⟨by rfl, ?_⟩) D0.out ?_
      rotate_left
      · (intro W hSW; clear hSW; go_simp)
        first | done | (with_reducible rfl)
      try simp only [Act.put, List.setIfInBounds_toArray, List.set_cons_zero, List.set_cons_succ]
      refine til_take (i := 3) (oi := ⟨some 27, _, _, _, _, _⟩) (v := ?_) rfl (by kernel_rfl) (by kernel_rfl) (by kernel_rfl) (by decide) (by kernel_rfl) (by kernel_rfl) (fun _ _ _ h => h) (Or.inl ⟨by rfl, ?_⟩) D0.out ?_
      rotate_left
      · (intro W hSW; clear hSW; go_simp)
        first | done | (with_reducible rfl)
      try simp only [Act.put, List.setIfInBounds_toArray, List.set_cons_zero, List.set_cons_succ]
      refine til_take (i := 4) (oi := ⟨some 28, _, _, _, _, _⟩) (v := .slice (some ⟨q, 0, none⟩) n M) rfl (by kernel_rfl) (by kernel_rfl) (by kernel_rfl) (by decide) (by kernel_rfl) (by kernel_rfl) (fun _ _ _ h => h) (Or.inl ⟨by rfl, ?_⟩) D0.out ?_
      · (intro W hSW; have c0 := hSW.1.cell 0; clear hSW; go_simp)
      try simp only [Act.put, List.setIfInBounds_toArray, List.set_cons_zero, List.set_cons_succ]
      refine til_take (i := 5) (oi := ⟨some 29, _, _, _, _, _⟩) (v := .agg p.cs.toArray) rfl (by kernel_rfl) (by kernel_rfl) (by kernel_rfl) (by decide) (by kernel_rfl) (by kernel_rfl) (fun _ _ _ h => h) (yields_pre (by rfl) (.tmp 3) rfl w.heap.size 0 rfl p (fun _ h => whole_at h.2)) D0.out ?_
      try simp only [Act.put, List.setIfInBounds_toArray, List.set_cons_zero, List.set_cons_succ]
      refine til_take (i := 6) (oi := ⟨some 30, _, _, _, _, _⟩) (v := .agg (Slo.mk p 0 0).cs.toArray) rfl (by kernel_rfl) (by kernel_rfl) (by kernel_rfl) (by decide) (by kernel_rfl) (by kernel_rfl) (fun _ _ _ h => h) (yields_build (by rfl) 52 [(0, .tmp 29)] rfl _ rfl _ (run_slo1 p)) D0.out ?_
      try simp only [Act.put, List.setIfInBounds_toArray, List.set_cons_zero, List.set_cons_succ]
      have Y4 : Hid (Below x3.heap.size x3 (x3.drew.alloc (.cells (Slo.mk p 0 0).cs.toArray 52))) := ((Below.refl _ x3).drew.alloc (Nat.le_refl _) _)
      have N4 : Hid (Blk (x3.drew.alloc (.cells (Slo.mk p 0 0).cs.toArray 52)) x3.heap.size 52 (Slo.mk p 0 0).cs) := Blk.new x3.drew 52 _
      refine til_one (i := 7) (o := ⟨some 31, _, _, _, _, _⟩) (by kernel_rfl) rfl (fun K hK => ?_)
      refine step_one (by rfl) 32 (.tmp 30) (by rfl) (Slo.mk p 0 0) (by rfl) Try.underlying32 zero32_ ?_
      refine hK.out _ _ (fun _ => ⟨G3.out.below Y4.out, K3.out.below Y4.out⟩) ?_
      clear hK K
      have S4 := Lib.hid (S3.out.below Y4.out)
      have G4 := Lib.hid (G3.out.below Y4.out)
      have K4 := Lib.hid (K3.out.below Y4.out)
      have W4 : Hid (Below w.heap.size w (x3.drew.alloc (.cells (Slo.mk p 0 0).cs.toArray 52))) := W3.out.trans (Y4.out.mono W3.out.size)
      clear Y4 D0
      generalize (x3.drew.alloc (.cells (Slo.mk p 0 0).cs.toArray 52)) = x4 at *
      obtain ⟨x5, hrun, r5, f5⟩ := run_append_push 52 32 32 Try.underlying32 size32 x4 q M x3.heap.size L (Slo.mk p 0 0) S4.out.row (by rw [HN.out]; exact hm) 52 N4.out
      rw [HN.out] at hrun
      have R5 := Lib.hid r5
      have F5 := Lib.hid f5
      have G5 := Lib.hid (G4.out.far f5 (fun e => S4.out.2.2.1 e))
      have K5 := Lib.hid (K4.out.far f5 (fun e => by have h1 : w.heap.size = q := e; have := hlt.out.2; omega))
      clear r5 f5 K3 G3 S3
      try simp only [Act.put, List.setIfInBounds_toArray, List.set_cons_zero, List.set_cons_succ]
      refine til_one (i := 8) (o := ⟨some 32, _, _, _, _, _⟩) (by kernel_rfl) rfl (fun K hK => ?_)
      refine step_app (by rfl) 32 (.tmp 28) (.tmp 31) (by rfl) _ _ _ (by rfl) (by rfl) hrun ?_
      refine hK.out _ _ (fun _ => ⟨G5.out, K5.out⟩) ?_
      clear hK K
      clear hrun
      have c5 := G5.out.cell 0
      have f5 := G5.out.frozen 0
      try simp only [Act.put, List.setIfInBounds_toArray, List.set_cons_zero, List.set_cons_succ]
      refine til_one (i := 9) (o := ⟨some 33, _, _, _, _, _⟩) (by kernel_rfl) rfl (fun K hK => ?_)
      go_simp
      refine hK.out _ _ (past (by kernel_rfl)) ?_
      clear hK K
      try simp only [Act.put, List.setIfInBounds_toArray, List.set_cons_zero, List.set_cons_succ]
      refine til_one (i := 10) (o := ⟨some 34, _, _, _, _, _⟩) (by kernel_rfl) rfl (fun K hK => ?_)
      go_simp
      refine hK.out _ _ (past (by kernel_rfl)) ?_
      clear hK K
      try simp only [Act.put, List.setIfInBounds_toArray, List.set_cons_zero, List.set_cons_succ]
      refine til_one (i := 11) (o := ⟨none, _, _, _, _, _⟩) (by kernel_rfl) rfl (fun K hK => ?_)
      go_simp
      refine hK.out _ _ (past (by kernel_rfl)) ?_
      clear hK K
      try simp only [Act.put]
      refine til_done (by kernel_rfl) ?_ _
      have S6 : Hid (SAt (x5.setCell ⟨g, 0, none⟩ (.slice (some ⟨q, 0, none⟩) (n + 1) M)) g q M (L ++ [⟨p, 0, 0⟩]) T) := by
        refine ⟨?_, R5.out.far (S := only g) ((Far.refl (only g) _).set_ (p := ⟨g, 0, none⟩) (fun _ => rfl) _) (fun e => S4.out.2.2.1 (Eq.symm e)), S4.out.2.2.1, S4.out.2.2.2.1, S4.out.2.2.2.2.1, ?_, S4.out.tot⟩
        · have := G5.out.set_ 0 (.slice (some ⟨q, 0, none⟩) (n + 1) M)
          rw [List.length_append, HN.out]
          exact this
        · intro u hu
          rcases List.mem_append.1 hu with hu | hu
          · exact S4.out.oks u hu
          · simp at hu
            subst hu
            exact ⟨HP.out, num0, num0⟩
      have F6 : Hid (Far (two g q) w (x5.setCell ⟨g, 0, none⟩ (.slice (some ⟨q, 0, none⟩) (n + 1) M))) :=
        ((Far.of_below W4.out (two g q)).trans F5.out (fun i _ e => .inr e)).set_ (p := ⟨g, 0, none⟩) (fun _ => .inl rfl) _
      clear c5 f5 G5 K5 R5 F5 S4 G4 K4 W4 N4
      generalize (x5.setCell ⟨g, 0, none⟩ (.slice (some ⟨q, 0, none⟩) (n + 1) M)) = x6 at *
      have c6 : x6.cell? ⟨g, 0, none⟩ = some (.slice (some ⟨q, 0, none⟩) (n + 1) M) := by have := S6.out.cells.1; rw [List.length_append, HN.out] at this; exact this
      go_wp2
      go_ret
      exact ⟨rfl, S6.out, F6.out⟩
    · rw [plc_full HH.out hm, pos_full HH.out hm]
      have hLM : L.length = M := by omega
      have HL := Lib.hid (low_lt (L := L) (by omega) L.length (Nat.le_refl _))
      have HLS := Lib.hid (least_ g q M L T)
      have hpos : 0 < L.length := by omega
      have HPOS := Lib.hid hpos
      clear hpos
      have HA := Lib.hid (at_some HL.out)
      have HO := Lib.hid (HS.out.oks.at_ HL.out)
      subst hLM
      obtain ⟨n, hn⟩ : ∃ n, L.length = n := ⟨_, rfl⟩
      rw [hn] at hm hfew HL HA HLS HO HS HPOS ⊢
      obtain ⟨m, hmm⟩ : ∃ m, low L n = m := ⟨_, rfl⟩
      rw [hmm] at HL HA HLS HO ⊢
      have hml := HL.out
      obtain ⟨c, hc⟩ : ∃ c, (at_ L m).c = c := ⟨_, rfl⟩
      have HC := Lib.hid hc
      rw [hc]
      have HN := Lib.hid hn
      clear hn HH hmm hc
      have hd : decide ((n : Int) < (n : Int)) = false := by simp
      go_enter Try.func25, Try.ntmps25
      go_upto_region 4 with (first | (refine wpList_pre (by rfl) (.tmp 3) rfl _ _ rfl p (whole_at N1.out) ?_) | (go_at_call 30; (with_reducible refine HF.out.mono ?_); rintro e w2 ⟨rfl, hb2⟩; have K2 := Lib.hid (N1.out.below hb2); have W2 : Hid (Below w.heap.size w w2) := B1.out.trans (hb2.mono B1.out.size); clear hb2; have S2 := Lib.hid (HS.out.below W2.out); obtain ⟨c0, c1, _⟩ := S2.out.cells; rw [HN.out] at c0))
      go_quiet (fail)
      have S3 : Hid (SAt (w2.drewN nq) g q n L T) := S2.out
      have K3 : Hid (Blk (w2.drewN nq) w.heap.size 31 p.cs) := K2.out
      have W3 : Hid (Below w.heap.size w (w2.drewN nq)) := below_drewN W2.out _
      clear S2 K2 W2 c0 c1
      generalize w2.drewN nq = x3 at *
      go_upto_region 9 with (go_at_call 31; (with_reducible refine (HLS.out _ S3.out HPOS.out).mono ?_); rintro e x4 ⟨rfl, hb2⟩; have S4 := Lib.hid (S3.out.below hb2); have K4 := Lib.hid (K3.out.below hb2); have W4 : Hid (Below w.heap.size w x4) := W3.out.trans (hb2.mono W3.out.size); clear hb2; have c0 := S4.out.cells.1; have c8 := S4.out.row.cnt HA.out; rw [HN.out] at c0; rw [HC.out] at c8)
      clear c0 c8 S3 K3 W3
      have G4 : Hid (Blk x4 g 67 [.slice (some ⟨q, 0, none⟩) n n, .int .i64 (n : Nat), .int .i64 T]) := by have := S4.out.1; rw [HN.out] at this; exact this
      refine til_begin (fun W => Blk W g 67 [.slice (some ⟨q, 0, none⟩) n n, .int .i64 (n : Nat), .int .i64 T] ∧ Blk W w.heap.size 31 p.cs) 9 (by kernel_rfl) ?_
      have D0 := Lib.hid ((⟨G4.out, K4.out⟩ : Blk x4.drew g 67 [.slice (some ⟨q, 0, none⟩) n n, .int .i64 (n : Nat), .int .i64 T] ∧ Blk x4.drew w.heap.size 31 p.cs))
      refine til_take (i := 0) (oi := ⟨some 51, _, _, _, _, _⟩) (v := ?_) rfl (by kernel_rfl) (by kernel_rfl) (by kernel_rfl) (by decide) (by kernel_rfl) (by kernel_rfl) (fun _ _ _ h => h) (Or.inl ⟨by rfl, ?_⟩) D0.out ?_
      rotate_left
      · (intro W hSW; clear hSW; go_simp)
        first | done | (with_reducible rfl)
      try simp only [Act.put, List.setIfInBounds_toArray, List.set_cons_zero, List.set_cons_succ]
      refine til_take (i := 1) (oi := ⟨some 52, _, _, _, _, _⟩) (v := ?_) rfl (by kernel_rfl) (by kernel_rfl) (by kernel_rfl) (by decide) (by kernel_rfl) (by kernel_rfl) (fun _ _ _ h => h) (Or.inl ⟨by rfl, ?_⟩) D0.out ?_
      rotate_left
      · (intro W hSW; clear hSW; go_simp)
        first | done | (with_reducible rfl)
      try simp only [Act.put, List.setIfInBounds_toArray, List.set_cons_zero, List.set_cons_succ]
      refine til_take (i := 2) (oi := ⟨some 53, _, _, _, _, _⟩) (v := ?_) rfl (by kernel_rfl) (by kernel_rfl) (by kernel_rfl) (by decide) (by kernel_rfl) (by kernel_rfl) (fun _ _ _ h => h) (Or.inl ⟨by rfl, ?_⟩) D0.out ?_
      rotate_left
      · (intro W hSW; clear hSW; go_simp)
        first | done | (with_reducible rfl)
      try simp only [Act.put, List.setIfInBounds_toArray, List.set_cons_zero, List.set_cons_succ]
      refine til_take (i := 3) (oi := ⟨some 54, _, _, _, _, _⟩) (v := .slice (some ⟨q, 0, none⟩) n n) rfl (by kernel_rfl) (by kernel_rfl) (by kernel_rfl) (by decide) (by kernel_rfl) (by kernel_rfl) (fun _ _ _ h => h) (Or.inl ⟨by rfl, ?_⟩) D0.out ?_
      · (intro W hSW; have c0 := hSW.1.cell 0; clear hSW; go_simp)
      try simp only [Act.put, List.setIfInBounds_toArray, List.set_cons_zero, List.set_cons_succ]
      refine til_take (i := 4) (oi := ⟨some 55, _, _, _, _, _⟩) (v := ?_) rfl (by kernel_rfl) (by kernel_rfl) (by kernel_rfl) (by decide) (by kernel_rfl) (by kernel_rfl) (fun _ _ _ h => h) (Or.inl ⟨by rfl, ?_⟩) D0.out ?_
      rotate_left
      · (intro W hSW; clear hSW; go_simp)
        first | done | (with_reducible rfl)
      try simp only [Act.put, List.setIfInBounds_toArray, List.set_cons_zero, List.set_cons_succ]
      refine til_take (i := 5) (oi := ⟨some 56, _, _, _, _, _⟩) (v := .agg p.cs.toArray) rfl (by kernel_rfl) (by kernel_rfl) (by kernel_rfl) (by decide) (by kernel_rfl) (by kernel_rfl) (fun _ _ _ h => h) (yields_pre (by rfl) (.tmp 3) rfl w.heap.size 0 rfl p (fun _ h => whole_at h.2)) D0.out ?_
      try simp only [Act.put, List.setIfInBounds_toArray, List.set_cons_zero, List.set_cons_succ]
      refine til_take (i := 6) (oi := ⟨some 57, _, _, _, _, _⟩) (v := ?_) rfl (by kernel_rfl) (by kernel_rfl) (by kernel_rfl) (by decide) (by kernel_rfl) (by kernel_rfl) (fun _ _ _ h => h) (Or.inl ⟨by rfl, ?_⟩) D0.out ?_
      rotate_left
      · (intro W hSW; clear hSW; go_simp)
        first | done | (with_reducible rfl)
      try simp only [Act.put, List.setIfInBounds_toArray, List.set_cons_zero, List.set_cons_succ]
      refine til_take (i := 7) (oi := ⟨some 58, _, _, _, _, _⟩) (v := ?_) rfl (by kernel_rfl) (by kernel_rfl) (by kernel_rfl) (by decide) (by kernel_rfl) (by kernel_rfl) (fun _ _ _ h => h) (Or.inl ⟨by rfl, ?_⟩) D0.out ?_
      rotate_left
      · (intro W hSW; clear hSW; go_simp)
        first | done | (with_reducible rfl)
      try simp only [Act.put, List.setIfInBounds_toArray, List.set_cons_zero, List.set_cons_succ]
      refine til_take (i := 8) (oi := ⟨some 59, _, _, _, _, _⟩) (v := .agg (Slo.mk p c c).cs.toArray) rfl (by kernel_rfl) (by kernel_rfl) (by kernel_rfl) (by decide) (by kernel_rfl) (by kernel_rfl) (fun _ _ _ h => h) (yields_build (by rfl) 52 [(0, .tmp 56), (1, .tmp 57), (2, .tmp 58)] rfl _ rfl _ (run_slo3 p c c)) D0.out ?_
      try simp only [Act.put, List.setIfInBounds_toArray, List.set_cons_zero, List.set_cons_succ]
      refine til_one (i := 9) (o := ⟨some 60, _, _, _, _, _⟩) (by kernel_rfl) rfl (fun K hK => ?_)
      go_simp
      refine hK.out _ _ (past (by kernel_rfl)) ?_
      clear hK K
      try simp only [Act.put, List.setIfInBounds_toArray, List.set_cons_zero, List.set_cons_succ]
      refine til_one (i := 10) (o := ⟨none, _, _, _, _, _⟩) (by kernel_rfl) rfl (fun K hK => ?_)
      refine step_put (by rfl) 52 size32 (.tmp 60) (.tmp 59) (by rfl) q m (Slo.mk p c c) (by rfl) (by rfl) 52 n L S4.out.row (by rw [HN.out]; exact hml) ?_
      intro x5 R5 F5d
      have F5 := Lib.hid F5d.out.of_drew
      clear F5d
      refine hK.out _ _ (past (by kernel_rfl)) ?_
      clear hK K
      try simp only [Act.put]
      refine til_done (by kernel_rfl) ?_ _
      have S5 : Hid (SAt x5 g q n (L.set m ⟨p, c, c⟩) T) := by
        refine ⟨?_, R5.out, S4.out.2.2.1, S4.out.2.2.2.1, S4.out.2.2.2.2.1, ?_, S4.out.tot⟩
        · rw [List.length_set, HN.out]
          exact G4.out.far F5.out (fun e => S4.out.2.2.1 e)
        · exact S4.out.oks.set_ ⟨HP.out, HC.out ▸ HO.out.c, HC.out ▸ HO.out.c⟩
      have F6 : Hid (Far (two g q) w x5) := (Far.of_below W4.out (two g q)).trans F5.out (fun i _ e => .inr e)
      clear S4 K4 W4 G4 D0 R5 F5
      go_wp2
      go_ret
      exact ⟨rfl, S5.out, F6.out⟩
  · have hk := has_iff.1 hh
    rw [plc_has hh, pos_has hh]
    have e1 : fnd L p = (idx L p : Nat) := by simp [fnd, hh]
    rw [e1] at HF
    generalize idx L p = k at *
    clear hh e1
    have hkb : k ≤ 64 := by omega
    go_enter Try.func25, Try.ntmps25
    go_wp2_with (first | (refine wpList_pre (by rfl) (.tmp 3) rfl _ _ rfl p (whole_at N1.out) ?_) | (go_at_call 30; (with_reducible refine HF.out.mono ?_); rintro e w2 ⟨rfl, hb2⟩; have K2 := Lib.hid (N1.out.below hb2); have W2 : Hid (Below w.heap.size w w2) := B1.out.trans (hb2.mono B1.out.size); clear hb2))
    go_ret
    exact ⟨rfl, HS.out.below W2.out, Far.of_below W2.out _⟩
end Go.Proofs.Yteeobeeoefokdaa
