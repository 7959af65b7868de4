/- The contract of the document's Awake; append of those that are awake onto an own row. Conditions: those of each theorem. -/
import Derived.Test.YtknalphhnicffaaDocs
namespace Go.Proofs.Ytknalphhnicffaa
open Go.RowKit

set_option maxHeartbeats 1000000 in
theorem docAwake_ (b : Nat → Prop) (m c n Q : Nat) (A : Option Addr) (L : List Cls) (w : World) (h : DocAt b w A L) (hm : L.length = m) (hm2 : m ≤ 129) :
    Calls Try.prog 19 #[doc A m c n Q] w fun e w' => (∃ Z cap, e = .returned (.slice Z m cap) ∧ Vals w' Z m (ints (who L))) ∧ Below w.heap.size w w' := by
  have HR := Lib.hid h
  have HML := Lib.hid hm
  have H0 : Hid (BoxAt w.heap.size A m c n Q (w.alloc (boxOf A m c n Q)) ∧ Below w.heap.size w (w.alloc (boxOf A m c n Q))) := ⟨BoxAt.new _ _ _ _ _ _, below_one _ _⟩
  have HE : Hid (who (L.take m) = who L) := by show _ = _; rw [← hm, List.take_length]
  clear h hm
  go_enter Try.func19, Try.ntmps19
  go_wp2
  go_loopw [3, 4, 8] (fun o _ i w' => ∃ (k : Nat) (Z : Option Addr) (cap : Nat), k ≤ m ∧ i = .int .i64 k ∧ o = .slice Z k cap ∧ w'.ownsRow (w.heap.size + 1) 3 1 (.slice Z k cap) k (ints (who (L.take k))) ∧ BoxAt w.heap.size A m c n Q w' ∧ Below w.heap.size w w' ∧ w.heap.size + 1 ≤ w'.heap.size) (fun _ _ i _ => m - (intOf i).toNat)
  case atStart => exact ⟨0, none, 0, by omega, rfl, rfl, World.ownsRow_nil _ _ _ _, H0.out.1, H0.out.2, by simp⟩
  case round =>
    clear H0
    obtain ⟨k, Z, cap, hk, rfl, rfl, ho, hb, hbe, hsz⟩ := hrel
    have HO := Lib.hid ho
    have HB := Lib.hid hb
    have HW := Lib.hid hbe
    clear ho hb hbe
    by_cases hlt : k < m
    · have hd : decide ((k : Int) < (m : Int)) = true := by simp; omega
      have hd' : decide (k < m) = true := by simpa using hlt
      obtain ⟨y, hy⟩ : ∃ y, L[k]? = some y := ⟨_, List.getElem?_eq_getElem (by have := HML.out; omega)⟩
      obtain ⟨a, rfl, c1, c2, c3⟩ := HR.out.at_ hy
      have c1' := keep9 HW.out c1
      obtain ⟨q0, q1, q2⟩ := HB.out.cells
      have HT : Hid (who (L.take k) ++ [(y.n : Int)] = who (L.take (k + 1))) := by
        show _ = _
        have hl := (List.getElem?_eq_some_iff.1 hy).1
        have hx := (List.getElem?_eq_some_iff.1 hy).2
        rw [List.take_succ_eq_append_getElem hl, hx, who_app]
        rfl
      clear c1 c2 c3 hy q0 q1
      have O2 := Lib.hid (HO.out.alloc (.cells #[.int .i64 (y.n : Nat)] 3))
      have V2 : Hid (Vals (wr.alloc (.cells #[.int .i64 (y.n : Nat)] 3)) (some ⟨wr.heap.size, 0, none⟩) 1 (ints [(y.n : Int)])) := Vals.of_blk (Blk.new wr 3 (ints [(y.n : Int)])) rfl
      have hs2 : w.heap.size + 1 ≤ (wr.alloc (.cells #[.int .i64 (y.n : Nat)] 3)).heap.size := by simp; omega
      have B2 := Lib.hid (HB.out.below (below_one wr (.cells #[.int .i64 (y.n : Nat)] 3)))
      have W2 : Hid (Below w.heap.size w (wr.alloc (.cells #[.int .i64 (y.n : Nat)] 3))) := HW.out.alloc HW.out.size _
      go_wp2_with (at_builtin; refine wpList_appI rfl (.tmp 11) (.tmp 18) rfl (w.heap.size + 1) (.slice Z k cap) k (who (L.take k)) rfl (by exact O2.out) (some ⟨wr.heap.size, 0, none⟩) 1 1 [(y.n : Int)] rfl (by exact V2.out) (k + 1) rfl (who (L.take (k + 1))) (by exact HT.out) (by omega) (by exact hs2) ?_; intro Z6 cap6 w6 O6 G6 E6; have B6 : Hid (BoxAt w.heap.size (some a) m c n Q w6) := Blk.grown B2.out G6.out (fun e => by have := (O2.out.lt _ e).1; omega); have W6 : Hid (Below w.heap.size w w6) := W2.out.grown G6.out W2.out.size (fun j e => by have := (O2.out.lt j e).1; omega); have hs6 := Nat.le_trans hs2 G6.out.size; clear G6 E6)
      go_roundw
      case rel => exact ⟨k + 1, Z6, cap6, by omega, by go_num, rfl, O6.out, B6.out, W6.out, hs6⟩
      case measure => simp [intOf]; omega
    · obtain rfl : k = m := by omega
      have hd : decide ((k : Int) < (k : Int)) = false := by simp
      go_wp2_with fail
      go_ret
      have h1 := Vals.of_own HO.out
      rw [HE.out] at h1
      exact ⟨⟨Z, cap, rfl, h1⟩, HW.out⟩
theorem info66 : (Try.prog.info? 71).map (fun i => (i.zero, i.size, i.bytes)) = some (some (.agg #[.int .i64 0, .bool false, .int .i64 0]), 3, 24) := by kernel_rfl
/-- append of those that are awake onto an own row, as a run. -/
theorem run_append_cls (w : World) (base : Nat) (ty : TypeId) (v : Value) (n : Nat) (xs : List Cls) (hown : w.ownsRow base 71 3 v n (cls xs)) (A : Option Addr) (m c : Nat) (bs : List Cls) (hbl : bs.length = m) (h : Vals w A (m * 3) (cls bs)) (hn : n + m ≤ 1000000) (hb : base ≤ w.heap.size) :
    ∃ A' c' w', (Builtin.append_ #[32, 32] ty #[v, .slice A m c]).run Try.prog w = .ok (.slice A' (n + m) c') w' ∧ w'.ownsRow base 71 3 (.slice A' (n + m) c') (n + m) (cls (xs ++ bs)) ∧ w.grownBy w' v.ownBlock := by
  obtain ⟨i, hi0, hz0, hz1, hz2⟩ := info_parts info66
  have hu : Try.prog.underlying 32 = some (.slice 71) := Try.underlying32
  have hform : ∀ {w' : World} {v' : Value} {k : Nat} {ys : List Value}, w'.ownsRow base 71 3 v' k ys → ∃ A' c', v' = .slice A' k c' := by
    intro w' v' k ys ho
    rcases ho.2 with ⟨rfl, rfl⟩ | ⟨g, cap, cur, rfl, _⟩
    · exact ⟨none, 0, rfl⟩
    · exact ⟨_, _, rfl⟩
  rcases A with _ | ad
  · obtain rfl : m = 0 := by
      rcases Nat.eq_zero_or_pos m with h0 | h0
      · exact h0
      · obtain ⟨_, e, _⟩ := h.2 (by omega); cases e
    obtain rfl : bs = [] := List.length_eq_zero_iff.1 hbl
    obtain ⟨A', c', rfl⟩ := hform hown
    refine ⟨A', c', w, ?_, by simpa using hown, World.grownBy.refl w _⟩
    rcases hown.2 with ⟨e, _⟩ | ⟨g, cap, cur, e, _, _, hnc, _⟩
    · cases e
      simp [Builtin.append_, run_underlying hu, sizeOf, typeInfo, hi0, Builtin.lenOf, Builtin.firstCells]
    · cases e
      simp [Builtin.append_, run_underlying hu, sizeOf, typeInfo, hi0, Builtin.lenOf, Builtin.firstCells, hnc, storeCells]
  · have hl : (cls bs).length = m * 3 := by rw [cls_length, hbl]
    obtain ⟨v', w', hrun, h2, h3, _, h5⟩ := run_append_own_at (P := Try.prog) w base 32 ty 71 i (.agg #[.int .i64 0, .bool false, .int .i64 0]) 3 24 hu hi0 hz0 hz1 hz2 rfl (by decide) v n (cls xs) hown ad m c (cls bs) hl (fun j u hj => by
      obtain ⟨ad', e, hc⟩ := h.at_ hj
      cases e
      exact hc) (cls_one bs) (by unfold maxLen; omega) (by omega) hb
    rw [← cls_app] at h2
    obtain ⟨A', c', rfl⟩ := hform h2
    exact ⟨A', c', w', hrun, h2, h3⟩
/-- The same as a step of a region that draws its order. -/
theorem step_cls {ops : Array Oper} {o : Oper} {a : Act} {w : World} {K : Act → World → Prop} {Q : Exit → Act → World → Prop} {E : Prop} (hgd : o.guard = none) (s x : Operand)
    (ho : o.op = .call { callee := .builtin .append, args := #[s, x], argTypes := #[32, 32] })
    (base : Nat) (v : Value) (n : Nat) (xs : List Cls) (hs : a.eval s = v) (hown : w.ownsRow base 71 3 v n (cls xs))
    (A : Option Addr) (m c : Nat) (bs : List Cls) (hbl : bs.length = m) (hx : a.eval x = .slice A m c) (h : Vals w A (m * 3) (cls bs)) (k : Nat) (hk : n + m = k) (zs : List Cls) (hz : xs ++ bs = zs) (hn : k ≤ 1000000) (hb : base ≤ w.heap.size)
    (hK : ∀ A' c' w', Hid (w'.ownsRow base 71 3 (.slice A' k c') k (cls zs)) → Hid (w.grownBy w' v.ownBlock) → K (a.put o.dst (.slice A' k c')) w') : if Region.wanted o (yielded ops a.tmps) = true then Oper.wp Try.prog o a w K Q else E := by
  subst hk hz
  have hw : Region.wanted o (yielded ops a.tmps) = true := by simp [Region.wanted, hgd]
  rw [if_pos hw]
  obtain ⟨A', c', w', hrun, h2, h3⟩ := run_append_cls w base o.type v n xs hown A m c bs hbl h hn hb
  unfold Oper.wp
  simp [execOp, ho, resolve, invoke, builtin, hs, hx, hrun, Result.andThen]
  exact hK A' c' w' h2 h3
/-- The same in a row. -/
theorem wpList_cls {w : World} {ops : Array Oper} {rest : List Oper} {o : Oper} {a : Act} {Q : Exit → Act → World → Prop} (hgd : o.guard = none) (s x : Operand)
    (ho : o.op = .call { callee := .builtin .append, args := #[s, x], argTypes := #[32, 32] })
    (base : Nat) (v : Value) (n : Nat) (xs : List Cls) (hs : a.eval s = v) (hown : w.ownsRow base 71 3 v n (cls xs))
    (A : Option Addr) (m c : Nat) (bs : List Cls) (hbl : bs.length = m) (hx : a.eval x = .slice A m c) (h : Vals w A (m * 3) (cls bs)) (k : Nat) (hk : n + m = k) (zs : List Cls) (hz : xs ++ bs = zs) (hn : k ≤ 1000000) (hb : base ≤ w.heap.size)
    (hK : ∀ A' c' w', Hid (w'.ownsRow base 71 3 (.slice A' k c') k (cls zs)) → Hid (w.grownBy w' v.ownBlock) → wpList Try.prog ops Q rest (a.put o.dst (.slice A' k c')) w') : wpList Try.prog ops Q (o :: rest) a w := by
  subst hk hz
  refine wpList_plain hgd fun K hK' => ?_
  obtain ⟨A', c', w', hrun, h2, h3⟩ := run_append_cls w base o.type v n xs hown A m c bs hbl h hn hb
  unfold Oper.wp
  simp [execOp, ho, resolve, invoke, builtin, hs, hx, hrun, Result.andThen]
  exact hK' _ _ (hK A' c' w' h2 h3)
theorem doc_of_own {b : Nat → Prop} {base c k : Nat} {w : World} {A : Option Addr} {xs : List Cls} (h : w.ownsRow base 71 3 (.slice A k c) k (cls xs)) (hk : xs.length = k) (hb : ∀ k, base ≤ k → b k) : DocAt b w A xs := by
  rcases h.2 with ⟨e, h0⟩ | ⟨g, cap, cur, e, hbg, _⟩
  · injection e with eA _ _
    subst eA
    exact ⟨⟨by rw [cls_length], fun h1 => by omega⟩, fun ad e => by cases e⟩
  · injection e with eA _ _
    subst eA
    refine ⟨⟨by rw [cls_length], fun _ => ⟨_, rfl, fun j u hj => h.cells (g := g) rfl j u hj⟩⟩, fun ad e => ?_⟩
    injection e with e
    subst e
    exact ⟨hb _ hbg, (h.lt g rfl).2⟩
end Go.Proofs.Ytknalphhnicffaa
