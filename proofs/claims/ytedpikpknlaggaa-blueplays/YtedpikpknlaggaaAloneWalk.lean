/- The walk of the law BlueAlone: for any setup and any acts of others it returns true and turns nothing that was there. -/
import Derived.Test.YtedpikpknlaggaaIns
import Derived.Deep.CutBlock
namespace Go.Proofs.Ytedpikpknlaggaa
open Go.RowKit

theorem ActsIn.below {w w' : World} {A : Option Addr} {n : Nat} {K : Nat → Int} {P : Nat → Option Addr} {L C : Nat → Nat} {X : Nat → List Int} {N : Nat → Int} (h : ActsIn w A n K P L C X N) (hb : Below w.heap.size w w') : ActsIn w' A n K P L C X N := fun k hk => by
  obtain ⟨a, e, ha⟩ := h k hk
  exact ⟨a, e, ha.below hb⟩
theorem few_yes {n : Nat} {L : Nat → Nat} (h : fewB n L = true) : n ≤ 60 ∧ ∀ k, k < n → L k ≤ 10 := by
  simp only [fewB, Bool.and_eq_true, decide_eq_true_eq] at h
  exact ⟨h.2, h.1⟩
/-- The box of a setup. -/
abbrev setOf (x0 x1 x2 x3 x4 x5 : Int) : Obj := .cells #[.int .i64 x0, .int .i64 x1, .int .i64 x2, .int .i64 x3, .int .i64 x4, .int .i64 x5] 23
/-- Who is alone in the first bin. -/
structure Al (N M T : Nat) (V : Blu) : Prop where
  n : V.n = N
  m : V.m = M
  t : V.t = T
  b : (V.B 0 0).b = T
  p : (V.B 0 0).p = 0
section
variable {N M T : Nat} {V : Blu} {X : List Int}
theorem Al.same (h : Al N M T V) {B : Bins} (hB : B 0 0 = V.B 0 0) : Al N M T (V.put B) := ⟨h.n, h.m, h.t, by show (B 0 0).b = _; rw [hB]; exact h.b, by show (B 0 0).p = _; rw [hB]; exact h.p⟩
theorem upd_far {f : Bin → Bin} {n m : Nat} {B : Bins} (hf : flow n m X = true) (hx : X.getD 0 0 ≠ 0) : upd f X n B 0 0 = B 0 0 := by
  unfold upd
  rw [if_neg]
  rintro ⟨_, h⟩
  have := (flow_at hf (l := 0) (by omega)).1
  omega
theorem Al.put (h : Al N M T V) (hn : 1 ≤ N) (hx : X.length = 0 ∨ X.getD 0 0 ≠ 0) (z : Int) : Al N M T (putV V X z) := by
  unfold putV
  split
  · rename_i hc
    rw [Bool.and_eq_true] at hc
    have := flow_len hc.2
    exact h.same (upd_far hc.2 (hx.resolve_left (by have := h.n; omega)))
  · exact h
theorem Al.take (h : Al N M T V) (hn : 1 ≤ N) (hx : X.length = 0 ∨ X.getD 0 0 ≠ 0) (z : Int) : Al N M T (takeV V X z) := by
  unfold takeV
  split
  · rename_i hc
    rw [Bool.and_eq_true] at hc
    have := flow_len hc.2
    exact h.same (upd_far hc.2 (hx.resolve_left (by have := h.n; omega)))
  · exact h
theorem Al.touch (h : Al N M T V) (hn : 1 ≤ N) (hx : X.length = 0 ∨ X.getD 0 0 ≠ 0) (z : Int) : Al N M T (touchV V X z) := by
  unfold touchV
  split
  · rename_i hc
    have := flow_len hc
    exact h.same (upd_far hc (hx.resolve_left (by have := h.n; omega)))
  · exact h
theorem zeros_at (N l : Nat) : (List.replicate N (0 : Int)).getD l 0 = 0 := by
  rw [List.getD_eq_getElem?_getD, List.getElem?_replicate]
  split <;> rfl
theorem zeros_flow {N M : Nat} (hM : 1 ≤ M) : flow N M (List.replicate N 0) = true := by
  refine flow_iff.2 ⟨by simp, fun j hj => ?_⟩
  rw [zeros_at]
  simp only [hasV, Bool.and_eq_true, decide_eq_true_eq]
  omega
theorem Al.own (h : Al N M T V) (hn : 1 ≤ N) (z : Int) : Al N M T (touchV V (List.replicate N 0) z) := by
  unfold touchV
  split
  · have e : binOf (List.replicate N 0) 0 = 0 := by unfold binOf; rw [zeros_at]; rfl
    have hu : upd (touchB V.t V.h V.u V.d (asT z)) (List.replicate N 0) V.n V.B 0 0 = touchB V.t V.h V.u V.d (asT z) (V.B 0 0) := by
      unfold upd
      rw [if_pos ⟨by rw [h.n]; exact hn, e⟩]
    have h1 : (touchB V.t V.h V.u V.d (asT z) (V.B 0 0)).b = (V.B 0 0).b ∧ (touchB V.t V.h V.u V.d (asT z) (V.B 0 0)).p = 0 := by
      have h2 := h.b
      have h3 := h.p
      have h4 := h.t
      unfold touchB
      split
      · exact ⟨rfl, h3⟩
      · rw [if_neg (by omega)]
        split
        · exact ⟨rfl, by show (V.B 0 0).p - V.d = 0; omega⟩
        · exact ⟨rfl, h3⟩
    exact ⟨h.n, h.m, h.t, by show (upd _ _ _ _ 0 0).b = _; rw [hu, h1.1]; exact h.b, by show (upd _ _ _ _ 0 0).p = _; rw [hu, h1.2]⟩
  · exact h
theorem mk_at {B : Bins} {xs : List Int} : ∀ (j l : Nat), l < j → mk B xs j ≤ (B l (binOf xs l)).p
  | 0, l, h => absurd h (by omega)
  | j + 1, l, h => by
    rcases (by omega : l < j ∨ l = j) with h1 | rfl
    · exact Nat.le_trans (Nat.min_le_left _ _) (mk_at j l h1)
    · exact Nat.min_le_right _ _
theorem Al.mark (h : Al N M T V) (hn : 1 ≤ N) : markV V (List.replicate N 0) = 0 := by
  unfold markV
  split
  · have e : binOf (List.replicate N 0) 0 = 0 := by unfold binOf; rw [zeros_at]; rfl
    have := mk_at (B := V.B) (xs := List.replicate N 0) V.n 0 (by rw [h.n]; exact hn)
    rw [e, h.p] at this
    omega
  · rfl
theorem Al.first {h u d : Nat} (hn : 1 ≤ N) (hM : 1 ≤ M) (hT : T ≤ 1073741824) : Al N M T (putV ⟨N, M, T, h, u, d, fun _ _ => bin0⟩ (List.replicate N 0) (T : Nat)) := by
  have e : binOf (List.replicate N 0) 0 = 0 := by unfold binOf; rw [zeros_at]; rfl
  have hz : isz (T : Nat) = true := by simp [isz]; omega
  have e1 : putV ⟨N, M, T, h, u, d, fun _ _ => bin0⟩ (List.replicate N 0) (T : Nat) = Blu.put ⟨N, M, T, h, u, d, fun _ _ => bin0⟩ (upd (putB T) (List.replicate N 0) N fun _ _ => bin0) := by
    simp [putV, hz, zeros_flow hM]
  have e2 : upd (putB T) (List.replicate N 0) N (fun _ _ => bin0) 0 0 = putB T bin0 := by
    unfold upd
    rw [if_pos ⟨hn, e⟩]
  rw [e1]
  exact ⟨rfl, rfl, rfl, by show (upd (putB T) (List.replicate N 0) N (fun _ _ => bin0) 0 0).b = T; rw [e2]; show min (0 + T) _ = T; omega, by show (upd (putB T) (List.replicate N 0) N (fun _ _ => bin0) 0 0).p = 0; rw [e2]; rfl⟩
end
/-- Where the law's loop stands. -/
structure AlRel (w : World) (g s : Nat) (q : Nat → Nat) (N M T l : Nat) (W : World) : Prop where
  at_ : ∃ V, BAt W g s q V ∧ Al N M T V
  ints : Ints W (some ⟨l, 0, none⟩) N (List.replicate N 0)
  be : Below w.heap.size w W
/-- What lies apart. -/
structure AlWay (w : World) (g : Nat) (q : Nat → Nat) (N l : Nat) : Prop where
  lo : w.heap.size ≤ g
  los : ∀ i, i < N → w.heap.size ≤ q i
  ap : Apart N g q N (some ⟨l, 0, none⟩)
  n1 : 1 ≤ N
  n2 : N ≤ 4
section
variable {w W : World} {g s : Nat} {q : Nat → Nat} {N M T l : Nat}
theorem AlRel.below {W' : World} (h : AlRel w g s q N M T l W) (hb : Below W.heap.size W W') : AlRel w g s q N M T l W' := by
  obtain ⟨⟨V, h1, h2⟩, h3, h4⟩ := h
  exact ⟨⟨V, h1.below hb, h2⟩, h3.below hb, h4.trans (hb.mono h4.size)⟩
theorem AlRel.next {W' : World} {V' : Blu} (h : AlRel w g s q N M T l W) (hw : AlWay w g q N l) (hV : Al N M T V') (ha : BAt W' g s q V') (hf : Far (own N g q) W W') : AlRel w g s q N M T l W' :=
  ⟨⟨V', ha, hV⟩, h.ints.far hf hw.ap, far_low h.be hf hw.lo hw.los h.be.size⟩
theorem al_put (hw : AlWay w g q N l) (h : AlRel w g s q N M T l W) {P : Option Addr} {L C : Nat} {X : List Int} (z : Int) (hi : Ints w P L X) (hL : L ≤ 10) (hx : L = 0 ∨ X.getD 0 0 ≠ 0) :
    Calls Try.prog 11 #[.pointer (some ⟨g, 0, none⟩), .slice P L C, .int .i64 z] W fun e W' => (∃ b, e = .returned (.bool b)) ∧ AlRel w g s q N M T l W' ∧ Far (own N g q) W W' := by
  obtain ⟨V, h1, h2⟩ := h.at_
  have hap : Apart N g q L P := Apart.below hi hw.lo hw.los
  refine (put_ g s q V P L C X z W h1 (hi.below h.be) (by omega) (h2.n ▸ hap)).mono fun e W' ⟨e1, e2, e3⟩ => ⟨⟨_, e1⟩, h.next hw (h2.put hw.n1 (by rw [hi.1]; exact hx) z) e2 (h2.n ▸ e3), h2.n ▸ e3⟩
theorem al_take (hw : AlWay w g q N l) (h : AlRel w g s q N M T l W) {P : Option Addr} {L C : Nat} {X : List Int} (z : Int) (hi : Ints w P L X) (hL : L ≤ 10) (hx : L = 0 ∨ X.getD 0 0 ≠ 0) :
    Calls Try.prog 16 #[.pointer (some ⟨g, 0, none⟩), .slice P L C, .int .i64 z] W fun e W' => (∃ b, e = .returned (.bool b)) ∧ AlRel w g s q N M T l W' ∧ Far (own N g q) W W' := by
  obtain ⟨V, h1, h2⟩ := h.at_
  have hap : Apart N g q L P := Apart.below hi hw.lo hw.los
  refine (take_ g s q V P L C X z W h1 (hi.below h.be) (by omega) (h2.n ▸ hap)).mono fun e W' ⟨e1, e2, e3⟩ => ⟨⟨_, e1⟩, h.next hw (h2.take hw.n1 (by rw [hi.1]; exact hx) z) e2 (h2.n ▸ e3), h2.n ▸ e3⟩
theorem al_touch (hw : AlWay w g q N l) (h : AlRel w g s q N M T l W) {P : Option Addr} {L C : Nat} {X : List Int} (z : Int) (hi : Ints w P L X) (hL : L ≤ 10) (hx : L = 0 ∨ X.getD 0 0 ≠ 0) :
    Calls Try.prog 17 #[.pointer (some ⟨g, 0, none⟩), .slice P L C, .int .i64 z] W fun e W' => (∃ b, e = .returned (.bool b)) ∧ AlRel w g s q N M T l W' ∧ Far (own N g q) W W' := by
  obtain ⟨V, h1, h2⟩ := h.at_
  have hap : Apart N g q L P := Apart.below hi hw.lo hw.los
  refine (bTouch_ g s q V P L C X z W h1 (hi.below h.be) (by omega) (h2.n ▸ hap)).mono fun e W' ⟨e1, e2, e3⟩ => ⟨⟨_, e1⟩, h.next hw (h2.touch hw.n1 (by rw [hi.1]; exact hx) z) e2 (h2.n ▸ e3), h2.n ▸ e3⟩
theorem AlRel.apart (h : AlRel w g s q N M T l W) : ¬ own N g q W.heap.size := by
  obtain ⟨V, h1, h2⟩ := h.at_
  exact own_not h1.lt.1 (fun i hi => h1.lt.2.2 i (h2.n ▸ hi))
theorem al_own (hw : AlWay w g q N l) (h : AlRel w g s q N M T l W) (z : Int) :
    Calls Try.prog 17 #[.pointer (some ⟨g, 0, none⟩), .slice (some ⟨l, 0, none⟩) N N, .int .i64 z] W fun e W' => (∃ b, e = .returned (.bool b)) ∧ AlRel w g s q N M T l W' := by
  obtain ⟨V, h1, h2⟩ := h.at_
  have := hw.n2
  refine (bTouch_ g s q V _ N N _ z W h1 h.ints (by omega) (h2.n ▸ hw.ap)).mono fun e W' ⟨e1, e2, e3⟩ => ⟨⟨_, e1⟩, h.next hw (h2.own hw.n1 z) e2 (h2.n ▸ e3)⟩
theorem al_mark (hw : AlWay w g q N l) (h : AlRel w g s q N M T l W) :
    Calls Try.prog 12 #[.pointer (some ⟨g, 0, none⟩), .slice (some ⟨l, 0, none⟩) N N] W fun e W' => e = .returned (.int .i64 0) ∧ AlRel w g s q N M T l W' := by
  obtain ⟨V, h1, h2⟩ := h.at_
  have := hw.n2
  refine (mark_ g s q V _ N N _ W h1 h.ints (by omega)).mono fun e W' ⟨e1, e2⟩ => ⟨by rw [e1, h2.mark hw.n1]; rfl, h.below e2⟩
end
theorem info3 : (Try.prog.info? 3).map (fun i => (i.zero, i.size, i.bytes)) = some (some (.int .i64 0), 1, 8) := by kernel_rfl
theorem made_zeros (n : Nat) : madeCells #[Value.int .i64 0] n = Array.replicate n (Value.int .i64 0) := by
  apply Array.ext'
  rw [toList_madeCells_one]
  simp

set_option maxRecDepth 100000 in
set_option maxHeartbeats 2000000 in
theorem alone_far (x0 x1 x2 x3 x4 x5 : Int) (A : Option Addr) (n c : Nat) (K : Nat → Int) (P : Nat → Option Addr) (L C : Nat → Nat) (X : Nat → List Int) (N : Nat → Int) (w : World) (hn : n ≤ 9223372036854775807) (h : ActsIn w A n K P L C X N) (hf : fewB n L = false) :
    Calls Try.prog 4 #[.agg #[.int .i64 x0, .int .i64 x1, .int .i64 x2, .int .i64 x3, .int .i64 x4, .int .i64 x5], .slice A n c] w fun e w' => e = .returned (.bool true) ∧ Below w.heap.size w w' := by
  have B0 : Hid (Below w.heap.size w (w.alloc (setOf x0 x1 x2 x3 x4 x5))) := (Below.refl _ w).alloc (Nat.le_refl _) _
  have HA := Lib.hid h
  clear h
  go_enter Try.func4, Try.ntmps4
  go_wp2_with fail
  refine (awake_any _).mono ?_
  rintro e w1 ⟨rfl, hb1⟩
  have W1 : Hid (Below w.heap.size w w1) := B0.out.trans (hb1.mono B0.out.size)
  clear hb1 B0
  go_wp2_with fail
  refine (few_ A n c K P L C X N w1 hn (HA.out.below W1.out)).mono ?_
  rintro e w2 ⟨rfl, rfl⟩
  rw [hf]
  go_wp2_with fail
  refine (awake_any _).mono ?_
  rintro e w2 ⟨rfl, hb2⟩
  have W2 : Hid (Below w.heap.size w w2) := W1.out.trans (hb2.mono W1.out.size)
  clear hb2 W1
  go_wp2_with fail
  go_ret
  exact ⟨rfl, W2.out⟩
set_option maxRecDepth 100000 in
set_option maxHeartbeats 4000000 in
theorem alone_near (x0 x1 x2 x3 x4 x5 : Int) (A : Option Addr) (n c : Nat) (K : Nat → Int) (P : Nat → Option Addr) (L C : Nat → Nat) (X : Nat → List Int) (N : Nat → Int) (w : World) (hs : SetOk x0 x1 x2 x3 x4 x5) (h : ActsIn w A n K P L C X N) (hf : fewB n L = true) :
    Calls Try.prog 4 #[.agg #[.int .i64 x0, .int .i64 x1, .int .i64 x2, .int .i64 x3, .int .i64 x4, .int .i64 x5], .slice A n c] w fun e w' => e = .returned (.bool true) ∧ Below w.heap.size w w' := by
  have B0 : Hid (Below w.heap.size w (w.alloc (setOf x0 x1 x2 x3 x4 x5))) := (Below.refl _ w).alloc (Nat.le_refl _) _
  have K0 : Hid (Blk (w.alloc (setOf x0 x1 x2 x3 x4 x5)) w.heap.size 23 [.int .i64 x0, .int .i64 x1, .int .i64 x2, .int .i64 x3, .int .i64 x4, .int .i64 x5]) := Blk.new w 23 _
  have HA := Lib.hid h
  obtain ⟨hn, hL⟩ := few_yes hf
  have HL := Lib.hid hL
  clear h hL
  go_enter Try.func4, Try.ntmps4
  go_wp2_with fail
  refine (awake_any _).mono ?_
  rintro e w1 ⟨rfl, hb1⟩
  have W1 : Hid (Below w.heap.size w w1) := B0.out.trans (hb1.mono B0.out.size)
  have K1 := Lib.hid (K0.out.below (hb1.mono (Nat.le_refl _)))
  clear hb1 B0 K0
  go_wp2_with fail
  refine (few_ A n c K P L C X N w1 (by omega) (HA.out.below W1.out)).mono ?_
  rintro e w2 ⟨rfl, rfl⟩
  rw [hf]
  clear hf
  have k0 := K1.out.cell 0
  have k1 := K1.out.cell 1
  have k2 := K1.out.cell 2
  have k3 := K1.out.cell 3
  have k4 := K1.out.cell 4
  have k5 := K1.out.cell 5
  by_cases hg : Good x0 x1 x4 x5 x2 x3
  · have HN := Lib.hid (new_good x0 x1 x4 x5 x2 x3 w1 hg)
    obtain ⟨h1, h2, h3, h4, h5, h6, h7⟩ := hg
    have hmb := may_bd h7
    clear h7
    obtain ⟨NN, rfl⟩ : ∃ k : Nat, x0 = k := ⟨x0.toNat, by omega⟩
    obtain ⟨M, rfl⟩ : ∃ k : Nat, x1 = k := ⟨x1.toNat, by omega⟩
    obtain ⟨T, rfl⟩ : ∃ k : Nat, x4 = k := ⟨x4.toNat, by omega⟩
    simp only [Int.toNat_natCast] at HN
    go_upto_region 4 with (go_at_call 9; (with_reducible refine HN.out.mono ?_); rintro e w3 ⟨g, s, q, rfl, h1, h2, h3⟩; have H1 := Lib.hid h1; have A1 := Lib.hid h2; have B1 := Lib.hid h3; clear h1 h2 h3)
    have K3 := Lib.hid (K1.out.below B1.out)
    have W3 : Hid (Below w.heap.size w w3) := W1.out.trans (B1.out.mono W1.out.size)
    have l1 := K3.out.cell 1
    have l0 := K3.out.cell 0
    have l4 := K3.out.cell 4
    by_cases hM : M < 2
    · have hd : decide ((M : Int) < 2) = true := by simp; omega
      have hd' : decide (M < 2) = true := by simpa using hM
      go_wp2_with fail
      go_ret
      exact ⟨rfl, W3.out⟩
    · have hd : decide ((M : Int) < 2) = false := by simp; omega
      have hd' : decide (M < 2) = false := by simpa using hM
      have hmk := fun W => run_make_row' (P := Try.prog) 38 3 (.int .i64 0) 8 Try.underlying38 info3 rfl .i64 .i64 NN (by omega) (by omega) W
      rw [made_zeros] at hmk
      go_upto_region 7 with fail
      have Y4 : Hid (Below w3.heap.size w3 (w3.alloc (.cells (Array.replicate NN (Value.int .i64 0)) 3))) := (Below.refl _ w3).alloc (Nat.le_refl _) _
      have H4 := Lib.hid (H1.out.below Y4.out)
      have I4 : Hid (Ints (w3.alloc (.cells (Array.replicate NN (Value.int .i64 0)) 3)) (some ⟨w3.heap.size, 0, none⟩) NN (List.replicate NN 0)) := by
        have := Ints.of_blk (Blk.new w3 3 ((List.replicate NN (0 : Int)).map fun x => Value.int .i64 x))
        rw [List.length_replicate, List.map_replicate] at this
        exact this
      have HW : Hid (AlWay w g q NN w3.heap.size) := ⟨Nat.le_trans W1.out.size A1.out.1, fun i hi => Nat.le_trans W1.out.size (A1.out.2.2 i hi), fun _ ad e => by
        injection e with e
        subst e
        exact own_not H1.out.lt.1 H1.out.lt.2.2, by omega, by omega⟩
      have W4 := Lib.hid (W3.out.trans (Y4.out.mono W3.out.size))
      have m4 := (K3.out.below Y4.out).cell 4
      have HT := Lib.hid (show T ≤ 1073741824 by omega)
      have HM := Lib.hid (show 1 ≤ M by omega)
      clear Y4 H1 A1 B1 W1 W3 K1 K3 k0 k1 k2 k3 k4 k5 l0 l1 l4 hmk HN hs
      generalize w3.heap.size = lo at *
      generalize w3.alloc (.cells (Array.replicate NN (Value.int .i64 0)) 3) = w4 at *
      go_upto_region 8 with (go_at_call 11; (with_reducible refine (put_ g s q _ _ NN NN _ _ w4 H4.out I4.out (by omega) HW.out.ap).mono ?_); rintro e w5 ⟨rfl, h5, f5⟩; have S5 : Hid (AlRel w g s q NN M T lo w5) := ⟨⟨_, h5, Al.first HW.out.n1 HM.out HT.out⟩, I4.out.far f5 HW.out.ap, far_low W4.out f5 HW.out.lo HW.out.los W4.out.size⟩; clear h5 f5)
      clear H4 I4 W4 m4
      go_wp2_with fail
      go_loopw [8, 9, 57] (fun _ _ i w' => ∃ k : Nat, k ≤ n ∧ i = .int .i64 k ∧ AlRel w g s q NN M T lo w') (fun _ _ i _ => n - (intOf i).toNat)
      case atStart => exact ⟨0, by omega, rfl, S5.out⟩
      case round =>
        clear S5
        obtain ⟨k, hk, rfl, hr⟩ := hrel
        have S6 := Lib.hid hr
        clear hr
        by_cases hlt : k < n
        · have hd1 : decide ((k : Int) < (n : Int)) = true := by simp; omega
          obtain ⟨a, rfl, ha⟩ := HA.out k hlt
          have hLk := HL.out k hlt
          have Q6 := Lib.hid (ha.below S6.out.be)
          have I6 := Lib.hid ha.ints
          clear ha
          generalize K k = K0 at *
          generalize P k = P0 at *
          generalize L k = L0 at *
          generalize C k = C0 at *
          generalize X k = X0 at *
          generalize N k = N0 at *
          have q0 := Q6.out.c0
          have q1 := Q6.out.c1
          have q2 := Q6.out.c2
          go_upto_region 12 with fail
          have Y7 : Hid (Below wr.heap.size wr (wr.alloc (.cells #[.int .u8 K0, .slice P0 L0 C0, .int .i64 N0] 40))) := (Below.refl _ wr).alloc (Nat.le_refl _) _
          have S7 := Lib.hid (S6.out.below Y7.out)
          have HNB := Lib.hid S6.out.apart
          have J7 := Lib.hid (Q6.out.below Y7.out)
          have G7 : Hid (Blk (wr.alloc (.cells #[.int .u8 K0, .slice P0 L0 C0, .int .i64 N0] 40)) wr.heap.size 40 [.int .u8 K0, .slice P0 L0 C0, .int .i64 N0]) := Blk.new wr 40 _
          clear q0 q1 q2 S6 Q6 Y7
          generalize wr.heap.size = bx at *
          generalize wr.alloc (.cells #[.int .u8 K0, .slice P0 L0 C0, .int .i64 N0] 40) = w7 at *
          have g0 := G7.out.cell 0
          have g1 := G7.out.cell 1
          have g2 := G7.out.cell 2
          by_cases hz : 0 < L0 ∧ X0.getD 0 0 = 0
          · obtain ⟨ad, rfl, hx⟩ := J7.out.ints.at_ hz.1
            rw [hz.2] at hx
            have hx' : w7.cell? ad = some (.int .i64 0) := by simpa [Addr.add] using hx
            have hd2 : decide ((0 : Int) < (L0 : Int)) = true := by simp; omega
            have hd2' : decide (0 < L0) = true := by simp; omega
            have hpos := hz.1
            clear hz
            go_wp2_with fail
            go_roundw
            case rel => exact ⟨k + 1, by omega, by go_num, S7.out⟩
            case measure => simp [intOf]; omega
          · have HX : Hid (L0 = 0 ∨ X0.getD 0 0 ≠ 0) := by
              show _ ∨ _
              rcases Nat.eq_zero_or_pos L0 with h0 | h0
              · exact .inl h0
              · exact .inr fun e => hz ⟨h0, e⟩
            clear hz
            go_cut [74] from 64 to 74 (fun t wx => t = .bool false ∧ wx = w7)
            case first =>
              rcases Nat.eq_zero_or_pos L0 with h0 | h0
              · have hd2 : decide ((0 : Int) < (L0 : Int)) = false := by simp; omega
                have hd2' : decide (0 < L0) = false := by simp; omega
                clear h0
                go_wp2_with fail
                go_meet
                case rel => exact ⟨rfl, rfl⟩
              · obtain ⟨ad, rfl, hx⟩ := J7.out.ints.at_ h0
                have hx0 : (X0.getD 0 0 == 0) = false := by
                  rcases HX.out with h | h
                  · omega
                  · simpa using h
                have hx' : w7.cell? ad = some (.int .i64 (X0.getD 0 0)) := by simpa [Addr.add] using hx
                have hd2 : decide ((0 : Int) < (L0 : Int)) = true := by simp; omega
                have hd2' : decide (0 < L0) = true := by simp; omega
                clear hx
                generalize X0.getD 0 0 = z0 at *
                go_wp2_with fail
                go_meet
                case rel => exact ⟨rfl, rfl⟩
            case rest =>
              obtain ⟨rfl, rfl⟩ := hcut
              rcases (by have := J7.out.k0; omega : K0 % 3 = 0 ∨ K0 % 3 = 1 ∨ K0 % 3 = 2) with hk3 | hk3 | hk3
              all_goals
                have hk0 := J7.out.k0
                have hk1 := J7.out.k1
                go_upto_region 19 with (first | (go_at_call 11; (with_reducible refine (al_put HW.out S7.out _ I6.out hLk HX.out).mono ?_); rintro e w8 ⟨⟨b8, rfl⟩, h8, f8⟩) | (go_at_call 16; (with_reducible refine (al_take HW.out S7.out _ I6.out hLk HX.out).mono ?_); rintro e w8 ⟨⟨b8, rfl⟩, h8, f8⟩) | (go_at_call 17; (with_reducible refine (al_touch HW.out S7.out _ I6.out hLk HX.out).mono ?_); rintro e w8 ⟨⟨b8, rfl⟩, h8, f8⟩))
                have S8 := Lib.hid h8
                have c8 := (G7.out.far f8 HNB.out).cell 2
                clear h8 f8 g0 g1 g2 S7 J7 G7 hk0 hk1
                go_upto_region 20 with (go_at_call 17; (with_reducible refine (al_own HW.out S8.out _).mono ?_); rintro e w9 ⟨⟨b9, rfl⟩, h9⟩; have S9 := Lib.hid h9; clear h9)
                clear c8 S8
                go_wp2_with (go_at_call 12; (with_reducible refine (al_mark HW.out S9.out).mono ?_); rintro e w10 ⟨rfl, h10⟩; have S10 := Lib.hid h10; clear h10)
                go_roundw
                case rel => exact ⟨k + 1, by omega, by go_num, S10.out⟩
                case measure => simp [intOf]; omega
        · obtain rfl : k = n := by omega
          have hd1 : decide ((k : Int) < (k : Int)) = false := by simp
          go_wp2_with fail
          go_ret
          exact ⟨rfl, S6.out.be⟩
  · have HN := Lib.hid (new_bad x0 x1 x4 x5 x2 x3 w1 hg)
    clear hg
    go_wp2_with (go_at_call 9; (with_reducible refine HN.out.mono ?_); rintro e w3 ⟨rfl, rfl⟩)
    go_ret
    exact ⟨rfl, W1.out⟩
end Go.Proofs.Ytedpikpknlaggaa
