/- The contract of table's Put. Conditions: those of each theorem. -/
import Derived.Test.YteddnbabgahhfaaGetI
namespace Go.Proofs.Yteddnbabgahhfaa
open Go.RowKit

theorem bldI (p : Pre) (v : Int) (w : World) : (Instr.build 64 [(0, .agg p.cs.toArray), (1, (.int .i64 v))].toArray).run Try.prog w = .ok (.agg ((kEnt).cs ⟨p, v⟩).toArray) w := run_build w 64 _ _ (by kernel_rfl)
theorem run_oneEI (x : Ent) (w : World) : (Instr.buildSlice 60 1 #[(0, .agg ((kEnt).cs x).toArray)]).run Try.prog w = .ok (.slice (some ⟨w.heap.size, 0, none⟩) 1 1) (w.alloc (.cells ((kEnt).cs x).toArray 64)) := by
  obtain ⟨i, hi, hh⟩ := Option.map_eq_some_iff.1 (infoEI )
  simp only [Prod.mk.injEq] at hh
  have e1 : ∀ W : World, (sizeOf 64).run Try.prog W = .ok 9 W := seI
  have e2 : ∀ W : World, (zeroValue 64).run Try.prog W = .ok (.agg (pre0.cs ++ [(Value.int .i64 0)]).toArray) W := fun W => by simp [zeroValue, typeInfo, hi, hh.1]
  obtain ⟨⟨v, a, b, c, d, e, f, g⟩, z⟩ := x
  have e3 : ((kEnt).cs ⟨⟨v, a, b, c, d, e, f, g⟩, z⟩) = [.bool v, .int .u8 a, .int .u8 b, .int .u8 c, .int .u8 d, .int .u8 e, .int .u8 f, .int .u8 g, (.int .i64 z)] := rfl
  rw [e3]
  simp [go_sem, Instr.buildSlice, run_underlying usI, e1, e2, Pre.cs, Pre.bs, cel, pre0]
theorem step_oneEI {ops : Array Oper} {o : Oper} {a : Act} {w : World} {K : Act → World → Prop} {Q : Exit → Act → World → Prop} {E : Prop} (hw : Region.wanted o (yielded ops a.tmps) = true) (x : Operand) (ho : o.op = .buildSlice 60 1 #[(0, x)]) (e : Ent) (hx : a.eval x = .agg ((kEnt).cs e).toArray)
    (hK : K (a.put o.dst (.slice (some ⟨w.heap.size, 0, none⟩) 1 1)) (w.alloc (.cells ((kEnt).cs e).toArray 64))) : if Region.wanted o (yielded ops a.tmps) = true then Oper.wp Try.prog o a w K Q else E := by
  rw [if_pos hw]
  unfold Oper.wp
  have hrun := run_oneEI e w
  simp [execOp, ho, hx, hrun, Result.andThen, Oper.upon]
  exact hK
set_option maxHeartbeats 1000000 in
theorem putI_ (g q n : Nat) (L : List Ent) (p : Pre) (v : Int) (w : World) (h : TbAt kEnt 62 64 w g q n L) (ho : Oks L) (hp : p.Ok) :
    Calls Try.prog 9 #[.pointer (some ⟨g, 0, none⟩), .agg p.cs.toArray, (.int .i64 v)] w (ActT kEnt 62 64 g q n (put L n p v) (.bool (may L n p)) w) := by
  have P1 := Lib.hid (Blk.new w 31 p.cs)
  have W1 : Hid (Below w.heap.size w (w.alloc (.cells p.cs.toArray 31))) := (Below.refl _ w).alloc (Nat.le_refl _) _
  have HF := Lib.hid (fun W (hW : Below w.heap.size w W) => findI_ g q n L p W (h.below hW) ho hp)
  have HT := Lib.hid (fun W (hW : Below w.heap.size w W) => h.below hW)
  have hlt := h.lt
  have hfit := h.fit
  have hle := h.le
  rcases hh : has L p with _ | _
  · rw [hh] at HF
    have HS := Lib.hid (h.srt.ins_ hh v)
    by_cases hr : n ≤ L.length
    · have hput : put L n p v = L := put_full hh (by omega)
      have hmay : may L n p = false := by simp [may, hh]; omega
      rw [hput, hmay]
      have hd : decide ((n : Int) ≤ (L.length : Int)) = true := by simp; omega
      clear h ho hp hh hput hmay HS
      generalize plc L p = m at *
      go_enter Try.func9, Try.ntmps9
      go_upto_region 1 with fail
      generalize (w.alloc (.cells p.cs.toArray 31)) = x1 at *
      go_upto_region 5 with (first | (refine wpList_pre (by rfl) (.tmp 4) rfl _ _ rfl p (whole_at P1.out) ?_) | (go_at_call 27; (with_reducible refine (HF.out _ W1.out).mono ?_); rintro e x2 ⟨rfl, hb⟩; have W2 : Hid (Below w.heap.size w x2) := W1.out.trans (hb.mono W1.out.size); clear hb))
      have c0 : ∀ N, (x2.drewN N).cell? ⟨g, 0, none⟩ = some (.slice (some ⟨q, 0, none⟩) (L.length : Nat) n) := fun N => (HT.out _ W2.out).cells.1
      have c1 : ∀ N, (x2.drewN N).cell? ⟨g, 1, none⟩ = some (.int .i64 (n : Nat)) := fun N => (HT.out _ W2.out).cells.2.1
      have FIN : Hid (∀ N, ActT kEnt 62 64 g q n L (.bool false) w (.returned (.bool false)) (x2.drewN N)) := fun N => ⟨rfl, HT.out _ (below_drewN W2.out N), Far.of_below (below_drewN W2.out N) _⟩
      generalize L.length = l at *
      go_quiet (fail)
      go_wp2
      go_ret
      exact FIN.out _
    · have hput : put L n p v = ins L (plc L p) ⟨p, v⟩ := put_room hh (by omega)
      have hmay : may L n p = true := by simp [may, hh]; omega
      have hpl := plc_le (L := L) (p := p)
      have hil := ins_length (s := ⟨p, v⟩) hpl
      rw [hput, hmay]
      rw [show ins L (plc L p) ⟨p, v⟩ = ins L (plc L p) ⟨p, v⟩ from rfl] at HS
      have hd : decide (n ≤ L.length) = false := by simp; omega
      have HI := Lib.hid (fun q2 W hb hx hq => insI_ q q2 (plc L p) n L ⟨p, v⟩ W hb hx hq hpl (by omega) hle)
      have HN : Hid ((ins L (plc L p) ⟨p, v⟩).length ≤ n) := by show _ ≤ _; omega
      clear h ho hp hh hput hmay hpl
      generalize ins L (plc L p) ⟨p, v⟩ = L' at *
      generalize plc L p = m at *
      obtain ⟨l, hl⟩ : ∃ l, L.length = l := ⟨_, rfl⟩
      rw [hl] at HI hd hil
      have HL := Lib.hid hl
      clear hl
      go_enter Try.func9, Try.ntmps9
      go_upto_region 1 with fail
      generalize (w.alloc (.cells p.cs.toArray 31)) = x1 at *
      go_upto_region 5 with (first | (refine wpList_pre (by rfl) (.tmp 4) rfl _ _ rfl p (whole_at P1.out) ?_) | (go_at_call 27; (with_reducible refine (HF.out _ W1.out).mono ?_); rintro e x2 ⟨rfl, hb⟩; have W2 : Hid (Below w.heap.size w x2) := W1.out.trans (hb.mono W1.out.size); have P2 := Lib.hid (P1.out.below hb); clear hb))
      have c0 : ∀ N, (x2.drewN N).cell? ⟨g, 0, none⟩ = some (.slice (some ⟨q, 0, none⟩) (l : Nat) n) := fun N => HL.out ▸ (HT.out _ W2.out).cells.1
      have c1 : ∀ N, (x2.drewN N).cell? ⟨g, 1, none⟩ = some (.int .i64 (n : Nat)) := fun N => (HT.out _ W2.out).cells.2.1
      go_quiet (fail)
      clear c0 c1
      have T2 := Lib.hid (HT.out _ (below_drewN W2.out nq).drew)
      have P3 : Hid (Blk (x2.drewN nq).drew w.heap.size 31 p.cs) := P2.out
      have W3 : Hid (Below w.heap.size w (x2.drewN nq).drew) := (below_drewN W2.out nq).drew
      clear W2 P2 HT P1 W1 HF
      have HG0 : Hid ((x2.drewN nq).drew.cell? ⟨g, 0, none⟩ = some (.slice (some ⟨q, 0, none⟩) (l : Nat) n) ∧ (x2.drewN nq).drew.rangeAt w.heap.size 0 p.cs) := ⟨HL.out ▸ T2.out.cells.1, whole_at P3.out⟩
      go_wp2_with fail
      refine til_begin (fun W => W.cell? ⟨g, 0, none⟩ = some (.slice (some ⟨q, 0, none⟩) (l : Nat) n) ∧ W.rangeAt w.heap.size 0 p.cs) 11 (by kernel_rfl) ?_
      clear HG0
      generalize (x2.drewN nq).drew = x3 at *
      have HG : Hid (x3.cell? ⟨g, 0, none⟩ = some (.slice (some ⟨q, 0, none⟩) (l : Nat) n) ∧ x3.rangeAt w.heap.size 0 p.cs) := ⟨HL.out ▸ T2.out.cells.1, whole_at P3.out⟩
      have hz3 := T2.out.lt.2
      have hB4 : Below x3.heap.size x3 (x3.alloc (.cells ((kEnt).cs ⟨p, v⟩).toArray 64)) := (Below.refl _ _).alloc (Nat.le_refl _) _
      have T4 := Lib.hid (T2.out.below hB4)
      have P4 := P3.out.below hB4
      have W4 : Hid (Below w.heap.size w (x3.alloc (.cells ((kEnt).cs ⟨p, v⟩).toArray 64))) := W3.out.trans (hB4.mono W3.out.size)
      have HI4 := Lib.hid (HI.out x3.heap.size _ (HL.out ▸ T4.out.row) (Blk.new x3 64 _) (by omega))
      have HG4 : Hid ((x3.alloc (.cells ((kEnt).cs ⟨p, v⟩).toArray 64)).cell? ⟨g, 0, none⟩ = some (.slice (some ⟨q, 0, none⟩) (l : Nat) n) ∧ (x3.alloc (.cells ((kEnt).cs ⟨p, v⟩).toArray 64)).rangeAt w.heap.size 0 p.cs) := ⟨HL.out ▸ T4.out.cells.1, whole_at P4⟩
      have HX5 : Hid (∀ x5, Blk x5 q 64 ((kEnt).flat (L' ++ zs (n - L'.length))) → Far (only q) (x3.alloc (.cells ((kEnt).cs ⟨p, v⟩).toArray 64)) x5 → x5.cell? ⟨g, 0, none⟩ = some (.slice (some ⟨q, 0, none⟩) (l : Nat) n) ∧ x5.frozen? ⟨g, 0, none⟩ = false ∧ x5.rangeAt w.heap.size 0 p.cs ∧
          ActT kEnt 62 64 g q n L' (.bool true) w (.returned (.bool true)) (x5.setCell ⟨g, 0, none⟩ (.slice (some ⟨q, 0, none⟩) (l + 1 : Nat) n)) ∧ True) := fun x5 hb5 hf5 => by
        have hg5 := T4.out.head.far hf5 T4.out.ne
        have hp5 := P4.far hf5 (fun e => by have e' : w.heap.size = q := e; omega)
        have hnx := T4.out.next hb5 hf5 HN.out HS.out
        rw [hil] at hnx
        refine ⟨HL.out ▸ hg5.cell 0, hg5.frozen 0, whole_at hp5, ⟨rfl, hnx.1, (Far.of_below W4.out _).trans hnx.2 (fun _ _ e => e)⟩, trivial⟩
      clear T2 P3 W3 T4 P4 W4 hB4 HI HS HN HL
      have D0 : Hid (x3.cell? ⟨g, 0, none⟩ = some (.slice (some ⟨q, 0, none⟩) (l : Nat) n) ∧ x3.rangeAt w.heap.size 0 p.cs) := ⟨HG.out.1, HG.out.2⟩
      refine til_take (i := 0) (oi := ⟨some 38, _, _, _, _, _⟩) (v := ?_) rfl (by kernel_rfl) (by kernel_rfl) (by kernel_rfl) (by decide) (by kernel_rfl) (by kernel_rfl) (fun _ _ _ h => h) (Or.inl ⟨by rfl, ?_⟩) D0.out ?_
      rotate_left
      · (intro W hSW; clear hSW; go_simp)
        first | done | (with_reducible rfl)
      try simp only [Act.put, List.setIfInBounds_toArray, List.set_cons_zero, List.set_cons_succ]
      refine til_take (i := 1) (oi := ⟨some 39, _, _, _, _, _⟩) (v := ?_) rfl (by kernel_rfl) (by kernel_rfl) (by kernel_rfl) (by decide) (by kernel_rfl) (by kernel_rfl) (fun _ _ _ h => h) (Or.inl ⟨by rfl, ?_⟩) D0.out ?_
      rotate_left
      · (intro W hSW; clear hSW; go_simp)
        first | done | (with_reducible rfl)
      try simp only [Act.put, List.setIfInBounds_toArray, List.set_cons_zero, List.set_cons_succ]
      refine til_take (i := 2) (oi := ⟨some 40, _, _, _, _, _⟩) (v := ?_) rfl (by kernel_rfl) (by kernel_rfl) (by kernel_rfl) (by decide) (by kernel_rfl) (by kernel_rfl) (fun _ _ _ h => h) (Or.inl ⟨by rfl, ?_⟩) D0.out ?_
      rotate_left
      · (intro W hSW; clear hSW; go_simp)
        first | done | (with_reducible rfl)
      try simp only [Act.put, List.setIfInBounds_toArray, List.set_cons_zero, List.set_cons_succ]
      refine til_take (i := 3) (oi := ⟨some 41, _, _, _, _, _⟩) (v := ?_) rfl (by kernel_rfl) (by kernel_rfl) (by kernel_rfl) (by decide) (by kernel_rfl) (by kernel_rfl) (fun _ _ _ h => h) (Or.inl ⟨by rfl, ?_⟩) D0.out ?_
      rotate_left
      · (intro W hSW; clear hSW; go_simp)
        first | done | (with_reducible rfl)
      try simp only [Act.put, List.setIfInBounds_toArray, List.set_cons_zero, List.set_cons_succ]
      refine til_take (i := 4) (oi := ⟨some 42, _, _, _, _, _⟩) (v := ?_) rfl (by kernel_rfl) (by kernel_rfl) (by kernel_rfl) (by decide) (by kernel_rfl) (by kernel_rfl) (fun _ _ _ h => h) (Or.inl ⟨by rfl, ?_⟩) D0.out ?_
      rotate_left
      · (intro W hSW; have k0 := hSW.1; clear hSW; go_simp)
        first | done | (with_reducible rfl)
      try simp only [Act.put, List.setIfInBounds_toArray, List.set_cons_zero, List.set_cons_succ]
      refine til_take (i := 5) (oi := ⟨some 43, _, _, _, _, _⟩) (v := ?_) rfl (by kernel_rfl) (by kernel_rfl) (by kernel_rfl) (by decide) (by kernel_rfl) (by kernel_rfl) (fun _ _ _ h => h) (Or.inl ⟨by rfl, ?_⟩) D0.out ?_
      rotate_left
      · (intro W hSW; clear hSW; go_simp)
        first | done | (with_reducible rfl)
      try simp only [Act.put, List.setIfInBounds_toArray, List.set_cons_zero, List.set_cons_succ]
      refine til_take (i := 6) (oi := ⟨some 44, _, _, _, _, _⟩) (v := .agg p.cs.toArray) rfl (by kernel_rfl) (by kernel_rfl) (by kernel_rfl) (by decide) (by kernel_rfl) (by kernel_rfl) (fun _ _ _ h => h) (yields_pre (by rfl) (.tmp 4) rfl _ 0 rfl p (fun _ hW => hW.2)) D0.out ?_
      try simp only [Act.put, List.setIfInBounds_toArray, List.set_cons_zero, List.set_cons_succ]
      refine til_take (i := 7) (oi := ⟨some 45, _, _, _, _, _⟩) (v := ?_) rfl (by kernel_rfl) (by kernel_rfl) (by kernel_rfl) (by decide) (by kernel_rfl) (by kernel_rfl) (fun _ _ _ h => h) (Or.inl ⟨by rfl, ?_⟩) D0.out ?_
      rotate_left
      · (intro W hSW; clear hSW; go_simp)
        first | done | (with_reducible rfl)
      try simp only [Act.put, List.setIfInBounds_toArray, List.set_cons_zero, List.set_cons_succ]
      refine til_take (i := 8) (oi := ⟨some 46, _, _, _, _, _⟩) (v := .agg ((kEnt).cs ⟨p, v⟩).toArray) rfl (by kernel_rfl) (by kernel_rfl) (by kernel_rfl) (by decide) (by kernel_rfl) (by kernel_rfl) (fun _ _ _ h => h) (yields_build (by rfl) 64 [(0, .tmp 44), (1, .tmp 45)] rfl [(0, .agg p.cs.toArray), (1, (.int .i64 v))] (by rfl) _ (bldI p v)) D0.out ?_
      try simp only [Act.put, List.setIfInBounds_toArray, List.set_cons_zero, List.set_cons_succ]
      refine til_one (i := 9) (o := ⟨some 47, _, _, _, _, _⟩) (by kernel_rfl) rfl (fun K hK => ?_)
      refine step_oneEI (by rfl) (.tmp 46) rfl ⟨p, v⟩ rfl ?_
      refine hK.out _ _ (fun _ => HG4.out) ?_
      clear hK K
      try simp only [Act.put, List.setIfInBounds_toArray, List.set_cons_zero, List.set_cons_succ]
      refine til_one (i := 10) (o := ⟨some 48, _, _, _, _, _⟩) (by kernel_rfl) rfl (fun K hK => ?_)
      go_simp
      refine HI4.out.mono ?_
      rintro e x5 ⟨rfl, hb5, hf5⟩
      have HX5 := Lib.hid (HX5.out x5 hb5 hf5)
      have k5 := HX5.out.1
      have k6 := HX5.out.2.1
      clear hb5 hf5
      go_simp
      refine hK.out _ _ (fun _ => ⟨HX5.out.1, HX5.out.2.2.1⟩) ?_
      clear hK K
      try simp only [Act.put, List.setIfInBounds_toArray, List.set_cons_zero, List.set_cons_succ]
      refine til_one (i := 11) (o := ⟨some 49, _, _, _, _, _⟩) (by kernel_rfl) rfl (fun K hK => ?_)
      go_simp
      refine hK.out _ _ (past (by kernel_rfl)) ?_
      clear hK K
      try simp only [Act.put, List.setIfInBounds_toArray, List.set_cons_zero, List.set_cons_succ]
      refine til_one (i := 12) (o := ⟨some 50, _, _, _, _, _⟩) (by kernel_rfl) rfl (fun K hK => ?_)
      go_simp
      refine hK.out _ _ (past (by kernel_rfl)) ?_
      clear hK K
      try simp only [Act.put, List.setIfInBounds_toArray, List.set_cons_zero, List.set_cons_succ]
      refine til_one (i := 13) (o := ⟨none, _, _, _, _, _⟩) (by kernel_rfl) rfl (fun K hK => ?_)
      go_simp
      refine hK.out _ _ (past (by kernel_rfl)) ?_
      clear hK K
      try simp only [Act.put]
      refine til_done (by kernel_rfl) ?_ _
      go_wp2_with fail
      go_ret
      exact HX5.out.2.2.2.1
  · have hi := has_iff.1 hh
    have hpi := h.srt.plc_idx hh
    have hput : put L n p v = L.set (idx L p) ⟨(at_ L (idx L p)).p, v⟩ := put_has hh
    have hmay : may L n p = true := by simp [may, hh]
    rw [hput, hmay]
    rw [hh, hpi] at HF
    have HO := Lib.hid (fun W (hW : Below w.heap.size w W) => (h.below hW).one (K := kEnt) rfl hi (v := v) (u := (.int .i64 v)) rfl)
    have HU : Hid (∀ W, Below w.heap.size w W → ∃ u, W.cell? ⟨q, idx L p * 9 + 8, none⟩ = some u) := fun W hW => ⟨_, by
      have := els_val (K := kEnt) rfl ((h.below hW).els) hi (u := (.int .i64 ((at_ L (idx L p)).v))) rfl
      rwa [Nat.zero_add] at this⟩
    have HR : Hid (∀ W, Below w.heap.size w W → W.frozen? ⟨q, idx L p * 9 + 8, none⟩ = false) := fun W hW => (h.below hW).row.frozen _
    clear h ho hp hh hpi hput hmay
    generalize L.set (idx L p) ⟨(at_ L (idx L p)).p, v⟩ = L' at *
    generalize idx L p = m at *
    obtain ⟨l, hl⟩ : ∃ l, L.length = l := ⟨_, rfl⟩
    rw [hl] at hi
    have HL := Lib.hid hl
    clear hl
    go_enter Try.func9, Try.ntmps9
    go_upto_region 1 with fail
    generalize (w.alloc (.cells p.cs.toArray 31)) = x1 at *
    go_upto_region 3 with (first | (refine wpList_pre (by rfl) (.tmp 4) rfl _ _ rfl p (whole_at P1.out) ?_) | (go_at_call 27; (with_reducible refine (HF.out _ W1.out).mono ?_); rintro e x2 ⟨rfl, hb⟩; have W2 : Hid (Below w.heap.size w x2) := W1.out.trans (hb.mono W1.out.size); clear hb))
    have c0 := (HT.out _ W2.out).cells.1
    rw [HL.out] at c0
    obtain ⟨u, c1⟩ := HU.out _ W2.out
    have c2 := HR.out _ W2.out
    obtain ⟨t1, f1⟩ := HO.out _ W2.out
    have FIN : Hid (ActT kEnt 62 64 g q n L' (.bool true) w (.returned (.bool true)) (x2.setCell ⟨q, m * 9 + 8, none⟩ (.int .i64 v))) := ⟨rfl, t1, (Far.of_below W2.out _).trans f1 (fun _ _ e => e)⟩
    clear t1 f1
    go_wp2
    go_ret
    exact FIN.out
end Go.Proofs.Yteddnbabgahhfaa
