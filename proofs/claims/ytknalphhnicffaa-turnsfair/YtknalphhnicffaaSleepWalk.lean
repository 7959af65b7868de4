/- The walk of the law TurnsSleep over the program's contracts. -/
import Derived.Test.YtknalphhnicffaaActs
import Derived.Test.YtknalphhnicffaaSleepNums
namespace Go.Proofs.Ytknalphhnicffaa
open Go.RowKit

theorem info2 : (Try.prog.info? 2).map (fun i => (i.zero, i.size, i.bytes)) = some (some (.int .i64 0), 1, 8) := by kernel_rfl
/-- append of deficits onto an own row. -/
theorem wpList_appJ {w : World} {ops : Array Oper} {rest : List Oper} {o : Oper} {a : Act} {Q : Exit → Act → World → Prop} (hgd : o.guard = none) (s x : Operand)
    (ho : o.op = .call { callee := .builtin .append, args := #[s, x], argTypes := #[58, 58] })
    (base : Nat) (v : Value) (n : Nat) (xs : List Int) (hs : a.eval s = v) (hown : w.ownsRow base 2 1 v n (ints xs))
    (A : Option Addr) (m c : Nat) (bs : List Int) (hx : a.eval x = .slice A m c) (h : Vals w A m (ints bs)) (k : Nat) (hk : n + m = k) (zs : List Int) (hz : xs ++ bs = zs) (hn : k ≤ 1000000) (hb : base ≤ w.heap.size)
    (hK : ∀ A' c' w', Hid (w'.ownsRow base 2 1 (.slice A' k c') k (ints zs)) → Hid (w.grownBy w' v.ownBlock) → wpList Try.prog ops Q rest (a.put o.dst (.slice A' k c')) w') : wpList Try.prog ops Q (o :: rest) a w := by
  subst hk hz
  refine wpList_plain hgd fun K hK' => ?_
  obtain ⟨v', w', hrun, h2, h3, h5⟩ := run_append_vals (P := Try.prog) w base 58 o.type 2 (.int .i64 0) 8 Try.underlying58 info2 rfl v n (ints xs) hown A m c (ints bs) h (ints_one bs) hn (by omega) hb
  rw [← ints_app] at h2
  obtain ⟨A', c', rfl, _⟩ := Vals.of_row h2
  unfold Oper.wp
  simp [execOp, ho, resolve, invoke, builtin, hs, hx, hrun, Result.andThen]
  exact hK' _ _ (hK A' c' w' h2 h3)
/-- The same as wpList_appI, where a guard that holds stands ahead. -/
theorem wpList_appG {w : World} {ops : Array Oper} {rest : List Oper} {o : Oper} {a : Act} {Q : Exit → Act → World → Prop} (hgd : Region.wanted o (yielded ops a.tmps) = true) (s x : Operand)
    (ho : o.op = .call { callee := .builtin .append, args := #[s, x], argTypes := #[30, 30] })
    (base : Nat) (v : Value) (n : Nat) (xs : List Int) (hs : a.eval s = v) (hown : w.ownsRow base 3 1 v n (ints xs))
    (A : Option Addr) (m c : Nat) (bs : List Int) (hx : a.eval x = .slice A m c) (h : Vals w A m (ints bs)) (k : Nat) (hk : n + m = k) (zs : List Int) (hz : xs ++ bs = zs) (hn : k ≤ 1000000) (hb : base ≤ w.heap.size)
    (hK : ∀ A' c' w', Hid (w'.ownsRow base 3 1 (.slice A' k c') k (ints zs)) → Hid (w.grownBy w' v.ownBlock) → wpList Try.prog ops Q rest (a.put o.dst (.slice A' k c')) w') : wpList Try.prog ops Q (o :: rest) a w := by
  subst hk hz
  obtain ⟨v', w', hrun, h2, h3, _⟩ := run_append_vals (P := Try.prog) w base 30 o.type 3 (.int .i64 0) 8 Try.underlying30 info3 rfl v n (ints xs) hown A m c (ints bs) h (ints_one bs) hn (by omega) hb
  rw [← ints_app] at h2
  obtain ⟨A', c', rfl, _⟩ := Vals.of_row h2
  refine wpList_step fun K hK' => ?_
  rw [if_pos hgd]
  unfold Oper.wp
  simp [execOp, ho, resolve, invoke, builtin, hs, hx, hrun, Result.andThen]
  exact hK' _ _ (hK A' c' w' h2 h3)
/-- Their deficits. -/
def ds (M : List Cls) : List Int := M.map fun x => (x.d : Int)
theorem ds_length (M : List Cls) : (ds M).length = M.length := by simp [ds]
theorem ds_app (a b : List Cls) : ds (a ++ b) = ds a ++ ds b := by simp [ds]
theorem who_app (a b : List Cls) : who (a ++ b) = who a ++ who b := by simp [who, names]
theorem who_at {M : List Cls} {k : Nat} {x : Cls} (h : M[k]? = some x) : (ints (who M))[k]? = some (.int .i64 (x.n : Nat)) := by simp [ints, who, names, h]
theorem ds_at {M : List Cls} {k : Nat} {x : Cls} (h : M[k]? = some x) : (ints (ds M))[k]? = some (.int .i64 (x.d : Nat)) := by simp [ints, ds, h]
/-- Two rows of the law's own: who is left, and with what. -/
structure SL (w4 : World) (M : List Cls) (m : Nat) (v v' : Value) (W : World) : Prop where
  len : M.length = m
  row1 : W.ownsRow w4.heap.size 3 1 v m (ints (who M))
  row2 : W.ownsRow w4.heap.size 2 1 v' m (ints (ds M))
  be : Below w4.heap.size w4 W
theorem rows_apart {W : World} {base m m' : Nat} {v v' : Value} {xs ys : List Value} (h1 : W.ownsRow base 3 1 v m xs) (h2 : W.ownsRow base 2 1 v' m' ys) : v.ownBlock = none ∨ v.ownBlock ≠ v'.ownBlock := by
  rcases h1.2 with ⟨rfl, _⟩ | ⟨g, cap, cur, rfl, _, hg, _⟩
  · exact .inl rfl
  · rcases h2.2 with ⟨rfl, _⟩ | ⟨g', cap', cur', rfl, _, hg', _⟩
    · exact .inr (by simp [Value.ownBlock])
    · refine .inr (fun e => ?_)
      simp [Value.ownBlock] at e
      subst e
      rw [hg] at hg'
      injection hg' with hg'
      injection hg' with _ e
      cases e
section
variable {w4 W W' : World} {M : List Cls} {m : Nat} {v v' : Value}
theorem SL.below (h : SL w4 M m v v' W) (hb : Below W.heap.size W W') : SL w4 M m v v' W' :=
  ⟨h.len, (Far.of_below hb nobody).row h.row1 (fun _ _ e => e), (Far.of_below hb nobody).row h.row2 (fun _ _ e => e), h.be.trans (hb.mono h.be.size)⟩
theorem SL.le (h : SL w4 M m v v' W) : w4.heap.size ≤ W.heap.size := h.be.size
/-- One more. -/
theorem SL.more {x : Cls} {v7 v9 : Value} {W7 W8 W9 : World} (h : SL w4 M m v v' W) (h1 : W7.ownsRow w4.heap.size 3 1 v7 (m + 1) (ints (who (M ++ [x])))) (g1 : W.grownBy W7 v.ownBlock) (hb : Below W7.heap.size W7 W8) (h2 : W9.ownsRow w4.heap.size 2 1 v9 (m + 1) (ints (ds (M ++ [x])))) (g2 : W8.grownBy W9 v'.ownBlock) : SL w4 (M ++ [x]) (m + 1) v7 v9 W9 := by
  have b1 : Below w4.heap.size w4 W7 := h.be.grown g1 h.be.size (fun j e => (h.row1.lt j e).1)
  have r2 : W7.ownsRow w4.heap.size 2 1 v' m (ints (ds M)) := h.row2.kept g1 (by
    rcases e : v'.ownBlock with _ | k
    · exact .inl rfl
    · refine .inr (fun e2 => ?_)
      rcases rows_apart h.row1 h.row2 with h3 | h3
      · rw [h3] at e2; cases e2
      · exact h3 (by rw [e]; exact e2.symm))
  have b2 := b1.trans (hb.mono b1.size)
  have r2' := (Far.of_below hb nobody).row r2 (fun _ _ e => e)
  have r1' := (Far.of_below hb nobody).row h1 (fun _ _ e => e)
  have r1 := r1'.kept g2 (rows_apart r1' r2')
  exact ⟨by rw [List.length_append, h.len]; rfl, r1, h2, b2.grown g2 b2.size (fun j e => (r2'.lt j e).1)⟩
/-- After the first append. -/
theorem SL.mid {v7 : Value} {m' : Nat} {xs : List Value} {W7 : World} (h : SL w4 M m v v' W) (_h1 : W7.ownsRow w4.heap.size 3 1 v7 m' xs) (g1 : W.grownBy W7 v.ownBlock) : Below w4.heap.size w4 W7 ∧ W7.ownsRow w4.heap.size 2 1 v' m (ints (ds M)) := by
  refine ⟨h.be.grown g1 h.be.size (fun j e => (h.row1.lt j e).1), h.row2.kept g1 ?_⟩
  rcases e : v'.ownBlock with _ | k
  · exact .inl rfl
  · refine .inr (fun e2 => ?_)
    rcases rows_apart h.row1 h.row2 with h3 | h3
    · rw [h3] at e2; cases e2
    · exact h3 (by rw [e]; exact e2.symm)
/-- The program has turned: rows stay. -/
theorem SL.far {b : Nat → Prop} (h : SL w4 M m v v' W) (hf : Far b W W') (hb : ∀ k, w4.heap.size ≤ k → k < W.heap.size → ¬ b k) : W'.ownsRow w4.heap.size 3 1 v m (ints (who M)) ∧ W'.ownsRow w4.heap.size 2 1 v' m (ints (ds M)) :=
  ⟨hf.row h.row1 (fun k hk => hb k (h.row1.lt k hk).1 (h.row1.lt k hk).2), hf.row h.row2 (fun k hk => hb k (h.row2.lt k hk).1 (h.row2.lt k hk).2)⟩
/-- Blocks from B on, but for those from T on below U. -/
def skip (B T U : Nat) : Nat → Prop := fun k => B ≤ k ∧ (k < T ∨ U ≤ k)
theorem skip_id {B T U : Nat} : ∀ k, skip B T U k → B ≤ k := fun _ h => h.1
end
/-- Where the last loop stands. -/
structure RL (At : (Nat → Prop) → World → Nat → Nat → Nat → List Cls → Prop) (w : World) (T U g : Nat) (M : List Cls) (m : Nat) (v v' : Value) (W : World) : Prop where
  at_ : At (skip w.heap.size T U) W g 20 5000 M
  row1 : W.ownsRow T 3 1 v m (ints (who M))
  row2 : W.ownsRow T 2 1 v' m (ints (ds M))
  be : Below w.heap.size w W
  le : U ≤ W.heap.size
theorem RL.below {At : (Nat → Prop) → World → Nat → Nat → Nat → List Cls → Prop} {w W W' : World} {T U g m : Nat} {M : List Cls} {v v' : Value} (h : RL At w T U g M m v v' W) (P : Prog At) (hb : Below W.heap.size W W') : RL At w T U g M m v v' W' :=
  ⟨P.below h.at_ hb, (Far.of_below hb nobody).row h.row1 (fun _ _ e => e), (Far.of_below hb nobody).row h.row2 (fun _ _ e => e), h.be.trans (hb.mono h.be.size), Nat.le_trans h.le hb.size⟩
theorem RL.room {At : (Nat → Prop) → World → Nat → Nat → Nat → List Cls → Prop} {w W : World} {T U g m : Nat} {M : List Cls} {v v' : Value} (h : RL At w T U g M m v v' W) : ∀ k, W.heap.size ≤ k → skip w.heap.size T U k := fun _ hk => ⟨Nat.le_trans h.be.size hk, .inr (Nat.le_trans h.le hk)⟩
theorem RL.begin {At : (Nat → Prop) → World → Nat → Nat → Nat → List Cls → Prop} {w w4 W W' : World} {g m : Nat} {M : List Cls} {v v' : Value} (h : SL w4 M m v v' W) (ha : At (skip w.heap.size w4.heap.size W.heap.size) W' g 20 5000 M) (hf : Far (skip w.heap.size w4.heap.size W.heap.size) W W') (hb : Below w.heap.size w W) : RL At w w4.heap.size W.heap.size g M m v v' W' := by
  obtain ⟨r1, r2⟩ := h.far hf (fun _ h1 h2 e => by rcases e.2 with e | e <;> omega)
  exact ⟨ha, r1, r2, below_far hb hf skip_id hb.size, hf.size⟩
/-- Where the loop over the acts stands. -/
def ActRel (At : (Nat → Prop) → World → Nat → Nat → Nat → List Cls → Prop) (w : World) (g n Q : Nat) (w' : World) : Prop := ∃ L, At (from_ w.heap.size) w' g n Q L ∧ Below w.heap.size w w'
section
variable {At : (Nat → Prop) → World → Nat → Nat → Nat → List Cls → Prop}
theorem old_not {w : World} {b : Option Addr} {m : Nat} (h : ∀ ad, b = some ad → 0 < m → ad.block < w.heap.size) : ∀ ad, b = some ad → 0 < m → ¬ from_ w.heap.size ad.block := fun ad e hm hf => by
  have := h ad e hm
  unfold from_ at hf
  omega
set_option maxRecDepth 100000 in
set_option maxHeartbeats 8000000 in
theorem sleep_near (P : Prog At) (A : Option Addr) (n cc : Nat) (c : Int) (T : Nat → ActIn) (w : World) (hn : n ≤ 30) (hfew : fewOf n T = true) (hc0 : -128 ≤ c) (hc1 : c ≤ 127) (ha : ActsIn w A n T) :
    Calls Try.prog 7 #[.slice A n cc, .int .i8 c] w fun e w' => e = .returned (.bool true) ∧ Below w.heap.size w w' := by
  have HP := Lib.hid P
  have HA := Lib.hid ha
  have HFW := Lib.hid (fun W (hB : Below w.heap.size w W) => few_ A n cc T W (Nat.le_trans hn (by decide)) (fun k hk => by
    obtain ⟨a, e, h1, h2, h3, h4, h5, h6⟩ := ha k hk
    exact ⟨a, e, keep9 hB h1, keep9 hB h2, keep9 hB h3, h4.below hB, fun ad e hm => Nat.lt_of_lt_of_le (h5 ad e hm) hB.size, h6⟩))
  rw [hfew] at HFW
  clear ha P
  have hd : decide ((30 : Int) < (n : Int)) = false := by simp; omega
  have hd' : decide (30 < n) = false := by simp; omega
  go_enter Try.func7, Try.ntmps7
  go_wp2_with (first | (go_at_call 8; (with_reducible refine (awake_any HP.out _).mono ?_); rintro e w1 ⟨rfl, hb1⟩; have W1 := Lib.hid hb1; clear hb1) | (go_at_call 9; (with_reducible refine (HFW.out _ W1.out).mono ?_); rintro e w' ⟨rfl, rfl⟩) | (go_at_call 10; (with_reducible refine (HP.out.new 20 5000 _ _ _ (by omega) (by omega) (by omega) (by omega) (by omega) (by omega)).mono ?_); rintro e w2 ⟨g, rfl, hr, hb⟩; have W2 : Hid (Below w.heap.size w w2) := W1.out.trans (hb.mono W1.out.size); have R2 : Hid (ActRel At w g 20 5000 w2) := ⟨_, HP.out.weak hr (fun k hk h => Nat.le_trans W1.out.size h), W2.out⟩; clear hr hb))
  clear W1 W2 HFW
  go_loopw [7, 33] (fun _ i w' => ∃ k : Nat, k ≤ n ∧ i = .int .i64 k ∧ ActRel At w g 20 5000 w') (fun _ i _ => n - (intOf i).toNat)
  case atStart => exact ⟨0, by omega, rfl, R2.out⟩
  case round =>
    clear R2
    obtain ⟨k, hk, rfl, L, hr1, hr4⟩ := hrel
    have R3 := Lib.hid hr1
    have W3 := Lib.hid hr4
    clear hr1 hr4
    by_cases hlt : k < n
    · have hd5 : decide ((k : Int) < (n : Int)) = true := by simp; omega
      obtain ⟨a, rfl, hca, hcb, hcc, hv, hbl, hx0, hx1, hy0, hy1, _⟩ := HA.out k hlt
      have hca' := keep9 W3.out hca
      have hcb' := keep9 W3.out hcb
      have hcc' := keep9 W3.out hcc
      have V3 := Lib.hid (hv.below W3.out)
      have HBL := Lib.hid hbl
      rw [addr_one] at hcb'
      rw [addr_two] at hcc'
      clear hca hcb hcc hv hbl
      generalize (T k).x = X0 at *
      generalize (T k).y = Y0 at *
      generalize (T k).b = B0 at *
      generalize (T k).c = C0 at *
      generalize (T k).hs = hs at *
      obtain ⟨t, ht⟩ : ∃ t : Nat, X0 % 5 = t := ⟨(X0 % 5).toNat, by omega⟩
      by_cases ht3 : t < 3
      · have hd6 : decide ((t : Int) < 3) = true := by simp; omega
        have hd6' : decide (t < 3) = true := by simpa using ht3
        go_wp2_with (go_at_call 11; (with_reducible refine (HP.out.wake _ g 20 5000 _ L _ R3.out (from_le W3.out)).mono ?_); rintro e w4 ⟨rfl, hr, hf⟩; have HR : Hid (ActRel At w g 20 5000 w4) := ⟨_, hr, below_far W3.out hf from_id W3.out.size⟩; clear hr hf)
        go_roundw
        case rel => exact ⟨k + 1, by omega, by go_num, HR.out⟩
        case measure => simp [intOf]; omega
      · have hd6 : decide ((t : Int) < 3) = false := by simp; omega
        have hd6' : decide (t < 3) = false := by simpa using ht3
        obtain ⟨L', o, hp⟩ := picks_any (show 1 ≤ 5000 by omega) (hdOf hs) L
        have HPK := Lib.hid hp
        have HLH : Hid (hs.length = hs.length) := (rfl : hs.length = hs.length)
        clear hp
        go_wp2_with (go_at_call 16; (with_reducible refine (HP.out.pick _ g 20 5000 B0 hs.length C0 hs L L' o _ R3.out (from_le W3.out) HLH.out V3.out (old_not HBL.out) HPK.out).mono ?_); rintro e w4 ⟨rfl, hr, hf⟩; have HR : Hid (ActRel At w g 20 5000 w4) := ⟨_, hr, below_far W3.out hf from_id W3.out.size⟩; clear hr hf)
        go_roundw
        case rel => exact ⟨k + 1, by omega, by go_num, HR.out⟩
        case measure => simp [intOf]; omega
    · obtain rfl : k = n := by omega
      have hd5 : decide ((k : Int) < (k : Int)) = false := by simp
      have HOK := Lib.hid (HP.out.ok R3.out)
      have hll : L.length ≤ 20 := names_lt HOK.out
      clear HA hlt hk hd hd' hfew
      go_wp2_with (go_at_call 12; (with_reducible refine (HP.out.awake _ g 20 5000 L _ R3.out).mono ?_); rintro e w4 ⟨⟨A4, c4, rfl, hv, hvb⟩, hb⟩; have W4 : Hid (Below w.heap.size w w4) := W3.out.trans (hb.mono W3.out.size); have R4 := Lib.hid (HP.out.below R3.out hb); have V4 := Lib.hid hv; clear hv hb hvb)
      have S4 : Hid (SL w4 (sleepOf (L.take 0) c) 0 (.slice none 0 0) (.slice none 0 0) w4) := ⟨rfl, World.ownsRow_nil _ _ _ _, World.ownsRow_nil _ _ _ _, Below.refl _ _⟩
      clear R3 W3
      go_loopw [9, 10, 11, 65] (fun rs lf _ i w' => ∃ (j m : Nat) (Z Z2 : Option Addr) (cap cap2 : Nat), j ≤ L.length ∧ i = .int .i64 j ∧ rs = .slice Z m cap ∧ lf = .slice Z2 m cap2 ∧ SL w4 (sleepOf (L.take j) c) m (.slice Z m cap) (.slice Z2 m cap2) w') (fun _ _ _ i _ => L.length - (intOf i).toNat)
      case atStart => exact ⟨0, 0, none, none, 0, 0, by omega, rfl, rfl, rfl, S4.out⟩
      case round =>
        clear S4
        obtain ⟨j, m, Z, Z2, cap, cap2, hj, rfl, rfl, rfl, hs⟩ := hrel
        have S5 := Lib.hid hs
        clear hs
        by_cases hjl : j < L.length
        · have hd6 : decide ((j : Int) < (L.length : Int)) = true := by simp; omega
          have hd6' : decide (j < L.length) = true := by simpa using hjl
          obtain ⟨x, hx⟩ : ∃ x, L[j]? = some x := ⟨_, List.getElem?_eq_getElem hjl⟩
          have HDF : Hid (defOf L (x.n : Nat) = x.d) := def_at HOK.out (List.mem_of_getElem? hx)
          have HST := Lib.hid (sleep_take c hx)
          have hml : m ≤ 20 := by
            have h1 : (sleepOf (L.take j) c).length = m := S5.out.len
            have h2 : (sleepOf (L.take j) c).length ≤ (L.take j).length := List.length_filter_le _ _
            have h3 := List.length_take_le j L
            omega
          obtain ⟨a4, rfl, hca⟩ := V4.out.at_ (who_at hx)
          have hca' := keep9 S5.out.be hca
          have HCA := Lib.hid hca
          clear hca hx
          generalize L.length = len at *
          by_cases hxc : (x.n : Int) = c
          · have hd7 : ((x.n : Int) == c) = true := by simpa using hxc
            have HS2 : Hid (SL w4 (sleepOf (L.take (j + 1)) c) m (.slice Z m cap) (.slice Z2 m cap2) wr) := by
              have h1 := HST.out
              rw [if_pos hxc] at h1
              rw [h1]
              exact S5.out
            clear hxc
            go_wp2_with fail
            go_roundw
            case rel => exact ⟨j + 1, m, Z, Z2, cap, cap2, by omega, by go_num, rfl, rfl, HS2.out⟩
            case measure => simp [intOf]; omega
          · have hd7 : ((x.n : Int) == c) = false := by simpa using hxc
            have HS2 : Hid (sleepOf (L.take (j + 1)) c = sleepOf (L.take j) c ++ [x]) := by
              have h1 := HST.out
              rw [if_neg hxc] at h1
              exact h1
            clear hxc HST
            have S6 := Lib.hid (S5.out.below (below_one wr (.cells #[.int .i64 (x.n : Nat)] 3)))
            have V6 : Hid (Vals (wr.alloc (.cells #[.int .i64 (x.n : Nat)] 3)) (some ⟨wr.heap.size, 0, none⟩) 1 (ints [(x.n : Int)])) := Vals.of_blk (Blk.new wr 3 (ints [(x.n : Int)])) rfl
            have HW1 : Hid (who (sleepOf (L.take j) c) ++ [(x.n : Int)] = who (sleepOf (L.take j) c ++ [x])) := by show _ = _; rw [who_app]; rfl
            have HD1 : Hid (ds (sleepOf (L.take j) c) ++ [(x.d : Int)] = ds (sleepOf (L.take j) c ++ [x])) := by show _ = _; rw [ds_app]; rfl
            go_wp2_with (first | (at_builtin; refine wpList_appI rfl (.tmp 75) (.tmp 80) rfl w4.heap.size (.slice Z m cap) m (who (sleepOf (L.take j) c)) rfl (by exact S6.out.row1) (some ⟨wr.heap.size, 0, none⟩) 1 1 [(x.n : Int)] rfl (by exact V6.out) (m + 1) rfl (who (sleepOf (L.take j) c ++ [x])) (by exact HW1.out) (by omega) (by exact S6.out.le) ?_; intro Z7 cap7 w7 O7 G7 E7; have M7 := Lib.hid (S6.out.mid O7.out G7.out); have g7 := keep9 M7.out.1 HCA.out; clear E7) | (go_at_call 20; (with_reducible refine (HP.out.deficit _ g 20 5000 _ L _ (HP.out.below R4.out M7.out.1)).mono ?_); rintro e w8 ⟨rfl, hb⟩; rw [HDF.out]; have B9 : Hid (Below w7.heap.size w7 (w8.alloc (.cells #[.int .i64 (x.d : Nat)] 2))) := hb.alloc hb.size _; have O9 := Lib.hid ((Far.of_below B9.out nobody).row M7.out.2 (fun _ _ e => e)); have V9 : Hid (Vals (w8.alloc (.cells #[.int .i64 (x.d : Nat)] 2)) (some ⟨w8.heap.size, 0, none⟩) 1 (ints [(x.d : Int)])) := Vals.of_blk (Blk.new w8 2 (ints [(x.d : Int)])) rfl; clear hb) | (at_builtin; refine wpList_appJ rfl (.tmp 82) (.tmp 89) rfl w4.heap.size (.slice Z2 m cap2) m (ds (sleepOf (L.take j) c)) rfl (by exact O9.out) (some ⟨w8.heap.size, 0, none⟩) 1 1 [(x.d : Int)] rfl (by exact V9.out) (m + 1) rfl (ds (sleepOf (L.take j) c ++ [x])) (by exact HD1.out) (by omega) (by have h1 := M7.out.1.size; have h2 := B9.out.size; omega) ?_; intro Z9 cap9 w9 P9 G9; have S9 := Lib.hid (S6.out.more O7.out G7.out B9.out P9.out G9.out)))
            go_roundw
            case rel => exact ⟨j + 1, m + 1, Z7, Z9, cap7, cap9, by omega, by go_num, rfl, rfl, by rw [HS2.out]; exact S9.out⟩
            case measure => simp [intOf]; omega
        · obtain rfl : j = L.length := by omega
          have hd6 : decide ((L.length : Int) < (L.length : Int)) = false := by simp
          have S7 : Hid (SL w4 (sleepOf L c) m (.slice Z m cap) (.slice Z2 m cap2) wr) := by
            have h1 := S5.out
            rw [List.take_length] at h1
            exact h1
          have hml : m ≤ 20 := by
            have h1 : (sleepOf L c).length = m := S7.out.len
            have h2 : (sleepOf L c).length ≤ L.length := List.length_filter_le _ _
            omega
          have hdl : decide ((m : Int) < (L.length : Int)) = isIn L c := by
            have := sleep_len L c
            rw [S7.out.len] at this
            rw [← this]
            simp
          have hdl2 : decide (m < L.length) = isIn L c := by
            rw [← hdl]
            simp
          have W5 : Hid (Below w.heap.size w wr) := W4.out.trans (S5.out.be.mono W4.out.size)
          have A5 : Hid (At (skip w.heap.size w4.heap.size wr.heap.size) wr g 20 5000 L) := HP.out.below (HP.out.weak R4.out (fun k hk h => ⟨h, .inl hk⟩)) S5.out.be
          have RM : Hid (∀ k, wr.heap.size ≤ k → skip w.heap.size w4.heap.size wr.heap.size k) := fun k hk => ⟨Nat.le_trans W5.out.size hk, .inr hk⟩
          have HV : Hid (∀ k, (Value.slice Z m cap).ownBlock = some k → w4.heap.size ≤ k ∧ k < wr.heap.size) := S7.out.row1.lt
          have HOK2 := Lib.hid (HOK.out.sleep c)
          have HSW := Lib.hid (fun hi => sleep_wake (c := c) HOK.out hi)
          have HLEN := Lib.hid S7.out.len
          have HB7 := Lib.hid (fun W' ha hf => RL.begin (At := At) (g := g) (W' := W') S7.out ha hf W5.out)
          have S4le : Hid (w4.heap.size ≤ wr.heap.size) := S5.out.be.size
          have W4le : Hid (w.heap.size ≤ w4.heap.size) := W4.out.size
          clear S5 S7 R4 V4 W4 W5 hj hjl HOK
          obtain ⟨M, hM⟩ : ∃ M, sleepOf L c = M := ⟨_, rfl⟩
          have HM := Lib.hid hM
          rw [hM] at HOK2 HSW HLEN HB7
          clear hM
          generalize hbi : isIn L c = bi at *
          have HBI := Lib.hid hbi
          clear hbi
          obtain ⟨U, hU⟩ : ∃ U, U = wr.heap.size := ⟨_, rfl⟩
          have hTU : w4.heap.size ≤ wr.heap.size := S4le.out
          have hTw : w.heap.size ≤ w4.heap.size := W4le.out
          clear S4le W4le
          generalize w4.heap.size = T4 at *
          rw [← hU] at A5 HV HB7 hTU
          have RM2 : Hid (∀ k, wr.heap.size ≤ k → skip w.heap.size T4 U k) := by rw [hU]; exact RM.out
          clear RM hU
          have hlen := HLEN.out
          generalize hln : L.length = len at *
          clear hln
          go_upto_region 24 with (first | (go_at_call 14; (with_reducible refine (HP.out.sleep _ g 20 5000 c L _ A5.out RM2.out).mono ?_); rintro e w6 ⟨rfl, hr, hf⟩; rw [HBI.out]; rw [HM.out] at hr; have R6 := Lib.hid (HB7.out w6 hr hf); clear hr hf) | (go_at_call 12; (with_reducible refine (HP.out.awake _ g 20 5000 M _ R6.out.at_).mono ?_); rintro e w7 ⟨⟨A7, c7, rfl, hv, _⟩, hb⟩; rw [hlen] at hv; rw [hlen]; have R7 := Lib.hid (R6.out.below HP.out hb); have V7 := Lib.hid hv; clear hv hb) | (go_at_call 18; (with_reducible refine (ints_alike A7 Z m _ _ (who M) _ (by omega) V7.out (Vals.of_own R7.out.row1)).mono ?_); rintro e w8 ⟨rfl, hb⟩; have R8 := Lib.hid (R7.out.below HP.out hb); clear hb))
          clear R6 R7 V7 A5 RM2 HB7 HM HBI
          go_wp2_with fail
          go_loopw [13, 112] (fun _ i w' => ∃ j : Nat, j ≤ m ∧ i = .int .i64 j ∧ RL At w T4 U g M m (.slice Z m cap) (.slice Z2 m cap2) w') (fun _ i _ => m - (intOf i).toNat)
          case atStart => exact ⟨0, by omega, rfl, R8.out⟩
          case round =>
            clear R8
            obtain ⟨j, hj, rfl, hr⟩ := hrel
            have R9 := Lib.hid hr
            clear hr
            by_cases hjm : j < m
            · have d6 : decide ((j : Int) < (m : Int)) = true := by simp; omega
              have d6' : decide (j < m) = true := by simpa using hjm
              obtain ⟨x, hx⟩ : ∃ x, M[j]? = some x := ⟨_, List.getElem?_eq_getElem (by omega)⟩
              have HDF : Hid (defOf M (x.n : Nat) = x.d) := def_at HOK2.out (List.mem_of_getElem? hx)
              obtain ⟨a1, rfl, q1⟩ := (Vals.of_own R9.out.row1).at_ (who_at hx)
              obtain ⟨a2, rfl, q2⟩ := (Vals.of_own R9.out.row2).at_ (ds_at hx)
              have HQ : Hid (∀ W, Below wr.heap.size wr W → W.cell? (a1.add j) = some (.int .i64 (x.n : Nat)) ∧ W.cell? (a2.add j) = some (.int .i64 (x.d : Nat))) := fun W hB => ⟨keep9 hB q1, keep9 hB q2⟩
              clear hx q1 q2
              go_wp2_with fail
              go_region_held3 (fun W => W.cell? (a1.add j) = some (.int .i64 (x.n : Nat)) ∧ W.cell? (a2.add j) = some (.int .i64 (x.d : Nat)))
                (first | exact HQ.out _ ((Below.refl _ _).drew) | exact HQ.out _ D2.out)
                (first | (go_at_call 20; (with_reducible refine (HP.out.deficit _ g 20 5000 _ M _ (HP.out.below R9.out.at_ ((Below.refl _ _).drew))).mono ?_); rintro e w9 ⟨rfl, hb⟩; rw [HDF.out]; have D2 : Hid (Below wr.heap.size wr w9) := ((Below.refl _ _).drew).trans hb; clear hb))
              have R10 := Lib.hid (R9.out.below HP.out D2.out)
              go_wp2_with fail
              go_roundw
              case rel => exact ⟨j + 1, by omega, by go_num, R10.out⟩
              case measure => simp [intOf]; omega
            · obtain rfl : j = m := by omega
              have d6 : decide ((j : Int) < (j : Int)) = false := by simp
              rcases bi with _ | _
              · go_wp2_with fail
                go_ret
                exact ⟨rfl, R9.out.be⟩
              · obtain ⟨e1, e2, e3, kc, hkc⟩ := HSW.out rfl
                have HW2 : Hid (who (M ++ [⟨c.toNat, true, 0⟩]) = who M ++ [c]) := by
                  show _ = _
                  rw [who_app]
                  subst hkc
                  rfl
                have hl2 : (M ++ [(⟨c.toNat, true, 0⟩ : Cls)]).length = j + 1 := by simp [hlen]
                have E2 := Lib.hid e2
                rw [e2] at e3
                clear hkc e2
                go_wp2_with (first | (go_at_call 11; (with_reducible refine (HP.out.wake _ g 20 5000 c M _ R9.out.at_ R9.out.room).mono ?_); rintro e w10 ⟨rfl, hr, hf⟩; rw [e1]; rw [E2.out] at hr; have R10 := Lib.hid hr; have O10 := Lib.hid (hf.row R9.out.row1 (fun k hk e => by have := HV.out k hk; rcases e.2 with e | e <;> omega)); have W10 : Hid (Below w.heap.size w w10) := below_far R9.out.be hf skip_id R9.out.be.size; have hu10 : U ≤ w10.heap.size := Nat.le_trans R9.out.le hf.size; clear hr hf) | (go_at_call 20; (with_reducible refine (HP.out.deficit _ g 20 5000 c _ _ R10.out).mono ?_); rintro e w11 ⟨rfl, hb⟩; rw [e3]; have R11 := Lib.hid (HP.out.below R10.out hb); have O11 := Lib.hid ((Far.of_below hb nobody).row O10.out (fun _ _ e => e)); have W11 : Hid (Below w.heap.size w w11) := W10.out.trans (hb.mono W10.out.size); have hu11 : U ≤ w11.heap.size := Nat.le_trans hu10 hb.size; clear hb) | (go_at_call 12; (with_reducible refine (HP.out.awake _ g 20 5000 _ _ R11.out).mono ?_); rintro e w12 ⟨⟨A12, c12, rfl, hv, hvb⟩, hb⟩; rw [hl2] at hv; rw [hl2]; rw [HW2.out] at hv; have hb13 := hb.alloc hb.size (.cells #[.int .i64 c] 3); have V13 := Lib.hid (hv.below (below_one w12 (.cells #[.int .i64 c] 3))); have O13 := Lib.hid ((Far.of_below hb13 nobody).row O11.out (fun _ _ e => e)); have W13 : Hid (Below w.heap.size w (w12.alloc (.cells #[.int .i64 c] 3))) := W11.out.trans (hb13.mono W11.out.size); have X13 : Hid (Vals (w12.alloc (.cells #[.int .i64 c] 3)) (some ⟨w12.heap.size, 0, none⟩) 1 (ints [c])) := Vals.of_blk (Blk.new w12 3 (ints [c])) rfl; have HN13 : Hid (∀ ad, A12 = some ad → U ≤ ad.block) := (fun ad e => Nat.le_trans hu11 (hvb ad e).1); have hT13 : Hid (T4 ≤ (w12.alloc (.cells #[.int .i64 c] 3)).heap.size) := (by show _ ≤ _; have := hb13.size; omega); clear hv hb hvb hb13) | (at_builtin; refine wpList_appG rfl (.tmp 144) (.tmp 147) rfl T4 (.slice Z j cap) j (who M) rfl (by exact O13.out) (some ⟨w12.heap.size, 0, none⟩) 1 1 [c] rfl (by exact X13.out) (j + 1) rfl (who M ++ [c]) rfl (by omega) (by exact hT13.out) ?_; intro Z14 cap14 w14 O14 G14; have V14 : Hid (Vals w14 A12 (j + 1) (ints (who M ++ [c]))) := V13.out.far (S := fun k => some k = (Value.slice Z j cap).ownBlock) ⟨G14.out.os, G14.out.tape, G14.out.output, G14.out.size, fun k hk hn => G14.out.block k hk hn⟩ (fun ad e h => by have h1 := HV.out _ h.symm; have h2 := HN13.out ad e; omega); have W14 : Hid (Below w.heap.size w w14) := W13.out.grown G14.out W13.out.size (fun k e => by have h1 := HV.out k e; have := hTw; omega)) | (go_at_call 18; (with_reducible refine (ints_alike A12 Z14 (j + 1) _ _ (who M ++ [c]) _ (by omega) V14.out (Vals.of_own O14.out)).mono ?_); rintro e w15 ⟨rfl, hb⟩; have W15 : Hid (Below w.heap.size w w15) := W14.out.trans (hb.mono W14.out.size); clear hb))
                go_ret
                exact ⟨rfl, W15.out⟩
end
end Go.Proofs.Ytknalphhnicffaa
