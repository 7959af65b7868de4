/- The walk of WindowPlays. Conditions: those of each theorem. -/
import Derived.Test.YteeobeeoefokdaaDocAll
import Derived.Test.YteeobeeoefokdaaSame
namespace Go.Proofs.Yteeobeeoefokdaa
open Go.RowKit

/-- The document's window, in block z. -/
def DWAt (g s q z : Nat) (A : Option Addr) (c : Nat) (V : Wn) (W : World) : Prop := Blk W z 40 (dw A V.L.length c V) ∧ LAt A V.L W ∧ ∀ b, A = some ⟨b, 0, none⟩ → b ≠ g ∧ b ≠ s ∧ b ≠ q ∧ b ≠ z ∧ b < W.heap.size
/-- Where the law's loop stands: the program's window V, the document's D. -/
def WPlay (w : World) (g s q z : Nat) (V : Wn) (A : Option Addr) (c : Nat) (D : Wn) (W : World) : Prop :=
  WAt W g s q V ∧ DWAt g s q z A c D W ∧ Below w.heap.size w W ∧ ((w.heap.size ≤ g ∧ w.heap.size ≤ s ∧ w.heap.size ≤ q ∧ w.heap.size ≤ z) ∧ z ≠ g ∧ z ≠ s ∧ z ≠ q)
section
variable {w W W' : World} {g s q z c : Nat} {A : Option Addr} {V D V' : Wn}
theorem WPlay.win (h : WPlay w g s q z V A c D W) : WAt W g s q V := h.1
theorem WPlay.doc_ (h : WPlay w g s q z V A c D W) : DWAt g s q z A c D W := h.2.1
theorem WPlay.dz (h : WPlay w g s q z V A c D W) : Blk W z 40 (dw A D.L.length c D) := h.2.1.1
theorem WPlay.la (h : WPlay w g s q z V A c D W) : LAt A D.L W := h.2.1.2.1
theorem WPlay.be (h : WPlay w g s q z V A c D W) : Below w.heap.size w W := h.2.2.1
theorem WPlay.nums (h : WPlay w g s q z V A c D W) : (w.heap.size ≤ g ∧ w.heap.size ≤ s ∧ w.heap.size ≤ q ∧ w.heap.size ≤ z) ∧ z ≠ g ∧ z ≠ s ∧ z ≠ q := h.2.2.2
theorem DWAt.below (d : DWAt g s q z A c D W) (hb : Below W.heap.size W W') : DWAt g s q z A c D W' :=
  ⟨d.1.below hb, d.2.1.below hb, fun b e => ⟨(d.2.2 b e).1, (d.2.2 b e).2.1, (d.2.2 b e).2.2.1, (d.2.2 b e).2.2.2.1, Nat.lt_of_lt_of_le (d.2.2 b e).2.2.2.2 hb.size⟩⟩
theorem WPlay.below (h : WPlay w g s q z V A c D W) (hb : Below W.heap.size W W') : WPlay w g s q z V A c D W' := ⟨h.1.below hb, h.doc_.below hb, h.be.trans (hb.mono h.be.size), h.nums⟩
theorem WPlay.drew (h : WPlay w g s q z V A c D W) : WPlay w g s q z V A c D W.drew := h.below (Below.refl _ W).drew
/-- The program's window turns. -/
theorem WPlay.turn (h : WPlay w g s q z V A c D W) (hw : WAt W' g s q V') (hf : Far (tri g s q) W W') : WPlay w g s q z V' A c D W' := by
  have hn := h.nums
  obtain ⟨h1, h2, h3⟩ := h.doc_
  refine ⟨hw, ⟨h1.far hf (by rintro (e | e | e) <;> omega), h2.far hf (fun b e => by have := h3 b e; rintro (e | e | e) <;> omega), fun b e => ?_⟩, below_tri h.be hf hn.1.1 hn.1.2.1 hn.1.2.2.1 h.be.size, hn⟩
  have := h3 b e
  have := hf.size
  omega
/-- The document's window turns. -/
theorem WPlay.put (h : WPlay w g s q z V A c D W) {b c' : Nat} (hk : Blk W' z 40 (dw (some ⟨b, 0, none⟩) V'.L.length c' V')) (hf : Far (only z) W W') (hl : LAt (some ⟨b, 0, none⟩) V'.L W) (hb : b ≠ g ∧ b ≠ s ∧ b ≠ q ∧ b ≠ z) (h0 : 0 < V'.L.length) : WPlay w g s q z V (some ⟨b, 0, none⟩) c' V' W' := by
  have hn := h.nums
  have hlt : b < W.heap.size := by
    obtain ⟨q', e, hr⟩ := hl 0 _ (at_some h0)
    cases e
    exact World.block_lt_of_cell? W _ (hr 0 (.bool (at_ V'.L 0).p.v) rfl)
  refine ⟨h.1.far hf (fun e => hn.2.1 (Eq.symm e)) (fun e => hn.2.2.1 (Eq.symm e)) (fun e => hn.2.2.2 (Eq.symm e)), ⟨hk, hl.far hf (fun b' e k => by cases e; exact hb.2.2.2 k), fun b' e => ?_⟩, below_only h.be hf hn.1.2.2.2 h.be.size, hn⟩
  cases e
  exact ⟨hb.1, hb.2.1, hb.2.2.1, hb.2.2.2, Nat.lt_of_lt_of_le hlt hf.size⟩
/-- The document's threshold turns. -/
theorem WPlay.tune (h : WPlay w g s q z V A c D W) (t : Int) : WPlay w g s q z V A c ⟨D.ns, t, D.no, D.T, D.M, D.L⟩ (W.setCell ⟨z, 4, none⟩ (.int .i64 t)) := by
  have hn := h.nums
  obtain ⟨h1, h2, h3⟩ := h.doc_
  have hf := (Far.refl (only z) W).set_ (p := ⟨z, 4, none⟩) (fun _ => rfl) (.int .i64 t)
  refine ⟨h.1.far hf (fun e => hn.2.1 (Eq.symm e)) (fun e => hn.2.2.1 (Eq.symm e)) (fun e => hn.2.2.2 (Eq.symm e)), ⟨by simpa using h1.set_ 4 (.int .i64 t), h2.far hf (fun b' e k => (h3 b' e).2.2.2.1 k), fun b' e => ?_⟩, below_only h.be hf hn.1.2.2.2 h.be.size, hn⟩
  have h4 := h3 b' e
  have := hf.size
  exact ⟨h4.1, h4.2.1, h4.2.2.1, h4.2.2.2.1, by omega⟩
theorem WPlay.past (h : WPlay w g s q z V A c D W) {b : Nat} (hb : W.heap.size ≤ b) : b ≠ g ∧ b ≠ s ∧ b ≠ q ∧ b ≠ z := by
  have := h.win.lt
  have := h.dz.lt
  omega
end
theorem row_lat {w w' : World} {A : Option Addr} {c : Nat} {L : List Slo} (h : (A = none ∧ L = []) ∨ ∃ q, A = some ⟨q, 0, none⟩ ∧ w.heap.size ≤ q ∧ Rw w' 52 q c L) : LAt A L w' := by
  rcases h with ⟨_, rfl⟩ | ⟨q, rfl, _, hr⟩
  · exact fun k s hk => by simp at hk
  · exact LAt.row hr
theorem may_no {a : Int} (h : may a = false) : a < 1 ∨ 4611686018427387903 < a := by
  by_cases h1 : a < 1
  · exact .inl h1
  · by_cases h2 : 4611686018427387903 < a
    · exact .inr h2
    · rw [may_true (by omega) (by omega)] at h; cases h
theorem may_yes {a : Int} (h : may a = true) : 1 ≤ a ∧ a ≤ 4611686018427387903 := by
  by_cases h1 : a < 1
  · rw [may_false (.inl h1)] at h; cases h
  · by_cases h2 : 4611686018427387903 < a
    · rw [may_false (.inr h2)] at h; cases h
    · exact ⟨by omega, by omega⟩
/-- A struct out of its parts, under a guard. -/
theorem wpList_buildG {ops : Array Oper} {rest : List Oper} {o : Oper} {a : Act} {w : World} {Q : Exit → Act → World → Prop} (hw : Region.wanted o (yielded ops a.tmps) = true) (ty : TypeId) (parts : List (Nat × Operand)) (ho : o.op = .build ty parts.toArray)
    (vals : List (Nat × Value)) (hp : (parts.map fun px => (px.1, a.eval px.2)) = vals) (cells : List Value) (hb : (Instr.build ty vals.toArray).run Try.prog w = .ok (.agg cells.toArray) w)
    (h : wpList Try.prog ops Q rest (a.put o.dst (.agg cells.toArray)) w) : wpList Try.prog ops Q (o :: rest) a w := by
  subst hp
  unfold wpList
  rw [if_pos hw]
  refine .inl ?_
  unfold Oper.wp
  simp only [execOp, ho, List.map_toArray]
  simp [hb, Oper.upon]
  exact h
/-- A load of a whole struct, in a region that draws. -/
theorem step_whole {ops : Array Oper} {o : Oper} {a : Act} {w : World} {K : Act → World → Prop} {Q : Exit → Act → World → Prop} {E : Prop} (hw : Region.wanted o (yielded ops a.tmps) = true) (x : Operand) (ho : o.op = .load 40 x)
    (b : Nat) (hx : a.eval x = .pointer (some ⟨b, 0, none⟩)) (A : Option Addr) (n c : Nat) (V : Wn) (hc : Blk w b 40 (dw A n c V)) (hK : K (a.put o.dst (docw A n c V)) w) : if Region.wanted o (yielded ops a.tmps) = true then Oper.wp Try.prog o a w K Q else E := by
  rw [if_pos hw]
  exact wp_load_mid 40 x ho b 0 hx (dw A n c V) _ (whole_at hc) Try.underlying40 rfl size40 hK

set_option maxRecDepth 100000 in
set_option maxHeartbeats 2000000 in
theorem plays_far (a0 a1 a2 a4 : Int) (A : Option Addr) (n c : Nat) (w : World) (hn : 100 < n) :
    Calls Try.prog 3 #[.int .i64 a0, .int .i64 a1, .int .i64 a2, .slice A n c, .int .i64 a4] w fun e w' => e = .returned (.bool true) ∧ Below w.heap.size w w' := by
  have hd : decide ((100 : Int) < (n : Int)) = true := by simp; omega
  go_enter Try.func3, Try.ntmps3
  go_wp2_with fail
  refine (awake_any _).mono ?_
  rintro e w1 ⟨rfl, hb1⟩
  have W1 := Lib.hid hb1
  clear hb1
  go_wp2_with fail
  refine (awake_any _).mono ?_
  rintro e w2 ⟨rfl, hb2⟩
  have W2 : Hid (Below w.heap.size w w2) := W1.out.trans (hb2.mono W1.out.size)
  clear hb2
  go_wp2_with fail
  go_ret
  exact ⟨rfl, W2.out⟩
set_option maxRecDepth 100000 in
set_option maxHeartbeats 4000000 in
theorem plays_bad (a0 a1 a2 a4 : Int) (A : Option Addr) (n c : Nat) (w : World) (hn : n ≤ 100) (hx : (a0 < 1 ∨ 64 < a0) ∨ ((1 ≤ a0 ∧ a0 ≤ 64) ∧ (may a1 = false ∨ may a1 = true ∧ may a2 = false))) :
    Calls Try.prog 3 #[.int .i64 a0, .int .i64 a1, .int .i64 a2, .slice A n c, .int .i64 a4] w fun e w' => e = .returned (.bool true) ∧ Below w.heap.size w w' := by
  have hd : decide ((100 : Int) < (n : Int)) = false := by simp; omega
  have HX := Lib.hid hx
  have h6 : a0 < 1 ∨ (1 ≤ a0 ∧ 64 < a0) ∨ (1 ≤ a0 ∧ a0 ≤ 64 ∧ a1 < 1) ∨ (1 ≤ a0 ∧ a0 ≤ 64 ∧ 1 ≤ a1 ∧ 4611686018427387903 < a1) ∨ (1 ≤ a0 ∧ a0 ≤ 64 ∧ 1 ≤ a1 ∧ a1 ≤ 4611686018427387903 ∧ a2 < 1) ∨ (1 ≤ a0 ∧ a0 ≤ 64 ∧ 1 ≤ a1 ∧ a1 ≤ 4611686018427387903 ∧ 1 ≤ a2 ∧ 4611686018427387903 < a2) := by
    rcases hx with hx | ⟨hx, h | ⟨h, h'⟩⟩
    · omega
    · have := may_no h; omega
    · have := may_yes h; have := may_no h'; omega
  clear hx
  rcases h6 with h6 | h6 | h6 | h6 | h6 | h6
  · have d0 : decide (a0 < 1) = true := by simp; omega
    clear h6
    go_enter Try.func3, Try.ntmps3
    go_wp2_with (first | (go_at_call 7; (with_reducible refine (awake_any _).mono ?_); rintro e w1 ⟨rfl, hb1⟩; have W1 := Lib.hid hb1; clear hb1) | (go_at_call 8; (with_reducible refine (wnew_bad a0 a1 a2 _ HX.out).mono ?_); rintro e w2 ⟨rfl, hb2⟩; have W2 : Hid (Below w.heap.size w w2) := W1.out.trans (hb2.mono W1.out.size); clear hb2) | (refine wpList_buildG (by rfl) 31 [] rfl [] rfl pre0.cs (run_pre0 _) ?_) | (go_at_call 9; (with_reducible refine (wadd_nil 0 4611686018427387904 pre0 _).mono ?_); rintro e w3 ⟨rfl, hb3⟩; have W3 : Hid (Below w.heap.size w w3) := W2.out.trans (hb3.mono W2.out.size); clear hb3) | (go_at_call 10; (with_reducible refine (wslots_nil _).mono ?_); rintro e w4 ⟨A4, c4, rfl, hb4, _⟩; have W4 : Hid (Below w.heap.size w w4) := W3.out.trans (hb4.mono W3.out.size); clear hb4) | (go_at_call 11; (with_reducible refine (number_nil _).mono ?_); rintro e w5 ⟨rfl, rfl⟩) | (go_at_call 12; (with_reducible refine (tune_nil 1 _).mono ?_); rintro e w6 ⟨rfl, rfl⟩))
    go_ret
    exact ⟨rfl, W4.out⟩
  · have d0 : decide (a0 < 1) = false := by simp; omega
    have d1 : decide (64 < a0) = true := by simp; omega
    clear h6
    go_enter Try.func3, Try.ntmps3
    go_wp2_with (first | (go_at_call 7; (with_reducible refine (awake_any _).mono ?_); rintro e w1 ⟨rfl, hb1⟩; have W1 := Lib.hid hb1; clear hb1) | (go_at_call 8; (with_reducible refine (wnew_bad a0 a1 a2 _ HX.out).mono ?_); rintro e w2 ⟨rfl, hb2⟩; have W2 : Hid (Below w.heap.size w w2) := W1.out.trans (hb2.mono W1.out.size); clear hb2) | (refine wpList_buildG (by rfl) 31 [] rfl [] rfl pre0.cs (run_pre0 _) ?_) | (go_at_call 9; (with_reducible refine (wadd_nil 0 4611686018427387904 pre0 _).mono ?_); rintro e w3 ⟨rfl, hb3⟩; have W3 : Hid (Below w.heap.size w w3) := W2.out.trans (hb3.mono W2.out.size); clear hb3) | (go_at_call 10; (with_reducible refine (wslots_nil _).mono ?_); rintro e w4 ⟨A4, c4, rfl, hb4, _⟩; have W4 : Hid (Below w.heap.size w w4) := W3.out.trans (hb4.mono W3.out.size); clear hb4) | (go_at_call 11; (with_reducible refine (number_nil _).mono ?_); rintro e w5 ⟨rfl, rfl⟩) | (go_at_call 12; (with_reducible refine (tune_nil 1 _).mono ?_); rintro e w6 ⟨rfl, rfl⟩))
    go_ret
    exact ⟨rfl, W4.out⟩
  · have d0 : decide (a0 < 1) = false := by simp; omega
    have d1 : decide (64 < a0) = false := by simp; omega
    have d2 : decide (a1 < 1) = true := by simp; omega
    clear h6
    go_enter Try.func3, Try.ntmps3
    go_wp2_with (first | (go_at_call 7; (with_reducible refine (awake_any _).mono ?_); rintro e w1 ⟨rfl, hb1⟩; have W1 := Lib.hid hb1; clear hb1) | (go_at_call 8; (with_reducible refine (wnew_bad a0 a1 a2 _ HX.out).mono ?_); rintro e w2 ⟨rfl, hb2⟩; have W2 : Hid (Below w.heap.size w w2) := W1.out.trans (hb2.mono W1.out.size); clear hb2) | (refine wpList_buildG (by rfl) 31 [] rfl [] rfl pre0.cs (run_pre0 _) ?_) | (go_at_call 9; (with_reducible refine (wadd_nil 0 4611686018427387904 pre0 _).mono ?_); rintro e w3 ⟨rfl, hb3⟩; have W3 : Hid (Below w.heap.size w w3) := W2.out.trans (hb3.mono W2.out.size); clear hb3) | (go_at_call 10; (with_reducible refine (wslots_nil _).mono ?_); rintro e w4 ⟨A4, c4, rfl, hb4, _⟩; have W4 : Hid (Below w.heap.size w w4) := W3.out.trans (hb4.mono W3.out.size); clear hb4) | (go_at_call 11; (with_reducible refine (number_nil _).mono ?_); rintro e w5 ⟨rfl, rfl⟩) | (go_at_call 12; (with_reducible refine (tune_nil 1 _).mono ?_); rintro e w6 ⟨rfl, rfl⟩))
    go_ret
    exact ⟨rfl, W4.out⟩
  · have d0 : decide (a0 < 1) = false := by simp; omega
    have d1 : decide (64 < a0) = false := by simp; omega
    have d2 : decide (a1 < 1) = false := by simp; omega
    have d3 : decide (4611686018427387903 < a1) = true := by simp; omega
    clear h6
    go_enter Try.func3, Try.ntmps3
    go_wp2_with (first | (go_at_call 7; (with_reducible refine (awake_any _).mono ?_); rintro e w1 ⟨rfl, hb1⟩; have W1 := Lib.hid hb1; clear hb1) | (go_at_call 8; (with_reducible refine (wnew_bad a0 a1 a2 _ HX.out).mono ?_); rintro e w2 ⟨rfl, hb2⟩; have W2 : Hid (Below w.heap.size w w2) := W1.out.trans (hb2.mono W1.out.size); clear hb2) | (refine wpList_buildG (by rfl) 31 [] rfl [] rfl pre0.cs (run_pre0 _) ?_) | (go_at_call 9; (with_reducible refine (wadd_nil 0 4611686018427387904 pre0 _).mono ?_); rintro e w3 ⟨rfl, hb3⟩; have W3 : Hid (Below w.heap.size w w3) := W2.out.trans (hb3.mono W2.out.size); clear hb3) | (go_at_call 10; (with_reducible refine (wslots_nil _).mono ?_); rintro e w4 ⟨A4, c4, rfl, hb4, _⟩; have W4 : Hid (Below w.heap.size w w4) := W3.out.trans (hb4.mono W3.out.size); clear hb4) | (go_at_call 11; (with_reducible refine (number_nil _).mono ?_); rintro e w5 ⟨rfl, rfl⟩) | (go_at_call 12; (with_reducible refine (tune_nil 1 _).mono ?_); rintro e w6 ⟨rfl, rfl⟩))
    go_ret
    exact ⟨rfl, W4.out⟩
  · have d0 : decide (a0 < 1) = false := by simp; omega
    have d1 : decide (64 < a0) = false := by simp; omega
    have d2 : decide (a1 < 1) = false := by simp; omega
    have d3 : decide (4611686018427387903 < a1) = false := by simp; omega
    have d4 : decide (a2 < 1) = true := by simp; omega
    clear h6
    go_enter Try.func3, Try.ntmps3
    go_wp2_with (first | (go_at_call 7; (with_reducible refine (awake_any _).mono ?_); rintro e w1 ⟨rfl, hb1⟩; have W1 := Lib.hid hb1; clear hb1) | (go_at_call 8; (with_reducible refine (wnew_bad a0 a1 a2 _ HX.out).mono ?_); rintro e w2 ⟨rfl, hb2⟩; have W2 : Hid (Below w.heap.size w w2) := W1.out.trans (hb2.mono W1.out.size); clear hb2) | (refine wpList_buildG (by rfl) 31 [] rfl [] rfl pre0.cs (run_pre0 _) ?_) | (go_at_call 9; (with_reducible refine (wadd_nil 0 4611686018427387904 pre0 _).mono ?_); rintro e w3 ⟨rfl, hb3⟩; have W3 : Hid (Below w.heap.size w w3) := W2.out.trans (hb3.mono W2.out.size); clear hb3) | (go_at_call 10; (with_reducible refine (wslots_nil _).mono ?_); rintro e w4 ⟨A4, c4, rfl, hb4, _⟩; have W4 : Hid (Below w.heap.size w w4) := W3.out.trans (hb4.mono W3.out.size); clear hb4) | (go_at_call 11; (with_reducible refine (number_nil _).mono ?_); rintro e w5 ⟨rfl, rfl⟩) | (go_at_call 12; (with_reducible refine (tune_nil 1 _).mono ?_); rintro e w6 ⟨rfl, rfl⟩))
    go_ret
    exact ⟨rfl, W4.out⟩
  · have d0 : decide (a0 < 1) = false := by simp; omega
    have d1 : decide (64 < a0) = false := by simp; omega
    have d2 : decide (a1 < 1) = false := by simp; omega
    have d3 : decide (4611686018427387903 < a1) = false := by simp; omega
    have d4 : decide (a2 < 1) = false := by simp; omega
    have d5 : decide (4611686018427387903 < a2) = true := by simp; omega
    clear h6
    go_enter Try.func3, Try.ntmps3
    go_wp2_with (first | (go_at_call 7; (with_reducible refine (awake_any _).mono ?_); rintro e w1 ⟨rfl, hb1⟩; have W1 := Lib.hid hb1; clear hb1) | (go_at_call 8; (with_reducible refine (wnew_bad a0 a1 a2 _ HX.out).mono ?_); rintro e w2 ⟨rfl, hb2⟩; have W2 : Hid (Below w.heap.size w w2) := W1.out.trans (hb2.mono W1.out.size); clear hb2) | (refine wpList_buildG (by rfl) 31 [] rfl [] rfl pre0.cs (run_pre0 _) ?_) | (go_at_call 9; (with_reducible refine (wadd_nil 0 4611686018427387904 pre0 _).mono ?_); rintro e w3 ⟨rfl, hb3⟩; have W3 : Hid (Below w.heap.size w w3) := W2.out.trans (hb3.mono W2.out.size); clear hb3) | (go_at_call 10; (with_reducible refine (wslots_nil _).mono ?_); rintro e w4 ⟨A4, c4, rfl, hb4, _⟩; have W4 : Hid (Below w.heap.size w w4) := W3.out.trans (hb4.mono W3.out.size); clear hb4) | (go_at_call 11; (with_reducible refine (number_nil _).mono ?_); rintro e w5 ⟨rfl, rfl⟩) | (go_at_call 12; (with_reducible refine (tune_nil 1 _).mono ?_); rintro e w6 ⟨rfl, rfl⟩))
    go_ret
    exact ⟨rfl, W4.out⟩
theorem rch_M (W : Wn) (now : Int) : (W.to now).M = W.M := by unfold Wn.to Wn.rch; split <;> rfl
theorem play_start {w w3 w4 : World} {g s q M : Nat} {ns th : Int} (h : WAt w3 g s q ⟨ns, th, 0, 0, M, []⟩) (hb : Below w.heap.size w w3) (hk : Blk w4 w3.heap.size 40 (dw none 0 0 ⟨ns, th, 0, 0, M, []⟩)) (hf : Far (only w3.heap.size) (w3.alloc (.cells (dw none 0 0 wn0).toArray 40)) w4) (hg : w.heap.size ≤ g ∧ w.heap.size ≤ s ∧ w.heap.size ≤ q) :
    WPlay w g s q w3.heap.size ⟨ns, th, 0, 0, M, []⟩ none 0 ⟨ns, th, 0, 0, M, []⟩ w4 := by
  have hlt := h.lt
  have hB : Below w3.heap.size w3 w4 := below_only ((Below.refl _ w3).alloc (Nat.le_refl _) _) hf (Nat.le_refl _) (by simp)
  exact ⟨h.below hB, ⟨hk, fun k s hk => by simp at hk, fun b e => by cases e⟩, hb.trans (hB.mono hb.size), ⟨⟨hg.1, hg.2.1, hg.2.2, hb.size⟩, by omega, by omega, by omega⟩⟩
set_option maxRecDepth 100000 in
set_option maxHeartbeats 8000000 in
theorem plays_near (a0 a1 a2 a4 : Int) (A : Option Addr) (n c : Nat) (O : Nat → Int) (P : Nat → Pre) (X : Nat → Int) (w : World) (hn : n ≤ 100) (h0 : 1 ≤ a0 ∧ a0 ≤ 64) (h1 : 1 ≤ a1 ∧ a1 ≤ 4611686018427387903) (h2 : 1 ≤ a2 ∧ a2 ≤ 4611686018427387903) (ha : SeenIn w A n O P X) :
    Calls Try.prog 3 #[.int .i64 a0, .int .i64 a1, .int .i64 a2, .slice A n c, .int .i64 a4] w fun e w' => e = .returned (.bool true) ∧ Below w.heap.size w w' := by
  have HA := Lib.hid ha
  clear ha
  have hd : decide ((100 : Int) < (n : Int)) = false := by simp; omega
  obtain ⟨M, rfl⟩ : ∃ M : Nat, a0 = (M : Int) := ⟨a0.toNat, by omega⟩
  have hM : 1 ≤ M ∧ M ≤ 64 := by omega
  have d0 : decide ((M : Int) < 1) = false := by simp; omega
  have d1 : decide (64 < (M : Int)) = false := by simp; omega
  have d2 : decide (a1 < 1) = false := by simp; omega
  have d3 : decide (4611686018427387903 < a1) = false := by simp; omega
  have d4 : decide (a2 < 1) = false := by simp; omega
  have d5 : decide (4611686018427387903 < a2) = false := by simp; omega
  have H1 := Lib.hid h1
  have H2 := Lib.hid h2
  clear h0 h1 h2
  go_enter Try.func3, Try.ntmps3
  go_upto_region 6 with (first | (go_at_call 7; (with_reducible refine (awake_any _).mono ?_); rintro e w1 ⟨rfl, hb1⟩; have W1 := Lib.hid hb1; clear hb1) | (go_at_call 8; (with_reducible refine (wnew_ M _ a1 a2 _ rfl hM.1 hM.2 H1.out H2.out).mono ?_); rintro e w2 ⟨g, s, q, rfl, hs, hg, hb⟩; have S2 := Lib.hid hs; have B2 : Hid (Below w.heap.size w w2) := W1.out.trans (hb.mono W1.out.size); have HG : Hid (w.heap.size ≤ g ∧ w.heap.size ≤ s ∧ w.heap.size ≤ q) := (by have := W1.out.size; show _ ∧ _ ∧ _; omega); clear hs hg hb))
  go_upto_region 7 with (first | (go_at_call 13; (with_reducible refine (dnew_ M _ a1 a2 _ rfl).mono ?_); rintro e w3 ⟨rfl, hb⟩; have S3 := Lib.hid (S2.out.below hb); have B3 : Hid (Below w.heap.size w w3) := B2.out.trans (hb.mono B2.out.size); clear hb; have N3 := Lib.hid (Blk.new w3 40 (dw none 0 0 wn0))) | (refine wpList_lay rfl 40 6 size40 (.tmp 13) (.tmp 86) rfl w3.heap.size (dw none 0 0 ⟨a1, a2, 0, 0, M, []⟩) rfl rfl 40 (dw none 0 0 wn0) N3.out rfl rfl (dw_one _ _ _ _) ?_; intro w4 K4 F4; have PL1 := Lib.hid (play_start S3.out B3.out K4.out F4.out HG.out)))
  clear S2 S3 B2 B3 N3 K4 F4 W1 HG
  generalize w3.heap.size = z at *
  go_wp2_with fail
  go_loopw [14, 15, 16, 17, 89] (fun _ _ _ _ i w' => ∃ (k : Nat) (V : Wn) (A1 : Option Addr) (c1 : Nat), k ≤ n ∧ i = .int .i64 k ∧ WPlay w g s q z V A1 c1 V w') (fun _ _ _ _ i _ => n - (intOf i).toNat)
  case atStart => exact ⟨0, _, none, 0, by omega, rfl, PL1.out⟩
  case round =>
    clear PL1
    obtain ⟨k, V, A1, c1, hk, rfl, hr⟩ := hrel
    have PL := Lib.hid hr
    clear hr
    by_cases hlt : k < n
    · obtain ⟨b, o, rfl, hra, hok, ho, hx⟩ := HA.out k hlt
      have HR : Hid (∀ W, Below w.heap.size w W → W.rangeAt b (o + k * 10) (.int .i64 (O k) :: ((P k).cs ++ [.int .i64 (X k)]))) := fun W hW j v hv => (hW.cell (World.block_lt_of_cell? w _ (hra j v hv))).trans (hra j v hv)
      clear hra
      go_upto_if 96 with fail
      go_cut [15, 96] from 97 to 110 (fun _ _ wx => ∃ V' : Wn, WPlay w g s q z V' A1 c1 V' wx)
      case first =>
        by_cases hk2 : (k : Int) = (n : Int) / 2
        · have hk3 : ((k : Int) == (n : Int) / 2) = true := by simpa using hk2
          clear hk2
          by_cases ht1 : 1 ≤ a4
          · have e1 : decide (1 ≤ a4) = true := by simpa using ht1
            by_cases ht2 : a4 ≤ 4611686018427387903
            · have e2 : decide (a4 ≤ 4611686018427387903) = true := by simpa using ht2
              go_wp2_with (go_at_call 12; (with_reducible refine (tune_yes g s q V a4 _ PL.out.win ht1 ht2).mono ?_); rintro e w2 ⟨rfl, hw, hf⟩; have P1 := Lib.hid (PL.out.turn hw hf); have c4 : w2.cell? ⟨z, 4, none⟩ = some (.int .i64 V.th) := P1.out.dz.cell 4; have f4 := P1.out.dz.frozen 4; clear hw hf)
              go_meet
              case rel => exact ⟨_, P1.out.tune a4⟩
            · have e2 : decide (a4 ≤ 4611686018427387903) = false := by simpa using ht2
              go_wp2_with (go_at_call 12; (with_reducible refine (tune_no g a4 _ (may_false (.inr (by omega)))).mono ?_); rintro e w2 ⟨rfl, rfl⟩)
              go_meet
              case rel => exact ⟨_, PL.out⟩
          · have e1 : decide (1 ≤ a4) = false := by simpa using ht1
            go_wp2_with (go_at_call 12; (with_reducible refine (tune_no g a4 _ (may_false (.inl (by omega)))).mono ?_); rintro e w2 ⟨rfl, rfl⟩)
            go_meet
            case rel => exact ⟨_, PL.out⟩
        · have hk3 : ((k : Int) == (n : Int) / 2) = false := by simpa using hk2
          clear hk2
          go_wp2_with fail
          go_meet
          case rel => exact ⟨_, PL.out⟩
      case rest =>
        obtain ⟨V', hpl⟩ := hcut
        clear PL
        have PL := Lib.hid hpl
        clear hpl
        have sk := PL.out.win.sk
        have vok := PL.out.win.ok
        have CA := Lib.hid (fun W (h : WAt W g s q V') => wadd_ g s q V' (O k) (X k) (P k) W h hok)
        have CD := Lib.hid (fun W (h : LAt A1 V'.L W) => dwadd_ A1 c1 V' (P k) (O k) (X k) W h sk.oks hok sk.few.1 sk.few.2.1 sk.few.2.2 vok.ns.1 vok.no.1)
        have H0 : Hid (0 < ((V'.to (O k)).cnt (P k) (X k)).L.length) := Nat.lt_of_le_of_lt (Nat.zero_le _) (stp_pos (p := P k) (L := (V'.to (O k)).L) (n := X k) (show 1 ≤ (V'.to (O k)).M by rw [rch_M]; exact sk.few.2.1))
        clear sk vok
        generalize (V'.to (O k)).hvy (P k) (X k) = hvb at *
        generalize (V'.to (O k)).cnt (P k) (X k) = V2 at *
        go_upto_region 16 with fail
        refine wp_region_held_drew (S := fun W => W.rangeAt b (o + k * 10) (.int .i64 (O k) :: ((P k).cs ++ [.int .i64 (X k)]))) (by kernel_rfl) ?_ (fun _ => ?_)
        · exact HR.out _ (below_drewN PL.out.be 1)
        have HS0 : Hid (wc.drew.rangeAt b (o + k * 10) (.int .i64 (O k) :: ((P k).cs ++ [.int .i64 (X k)]))) := HR.out _ (below_drewN PL.out.be 1)
        have PL0 := Lib.hid PL.out.drew
        clear PL
        generalize wc.drew = x0 at *
        refine wpAnyH_take (i := 0) (oi := ⟨some 111, _, _, _, _, _⟩) (v := ?_) rfl (by kernel_rfl) (by kernel_rfl) (by kernel_rfl) (fun _ _ _ h => h) (Or.inl ⟨by rfl, ?_⟩) HS0.out ?_
        rotate_left
        · (intro W hSW; clear hSW; go_simp)
          first | done | (with_reducible rfl)
        try simp only [Act.put, List.setIfInBounds_toArray, List.set_cons_zero, List.set_cons_succ]
        refine wpAnyH_take (i := 1) (oi := ⟨some 112, _, _, _, _, _⟩) (v := ?_) rfl (by kernel_rfl) (by kernel_rfl) (by kernel_rfl) (fun _ _ _ h => h) (Or.inl ⟨by rfl, ?_⟩) HS0.out ?_
        rotate_left
        · (intro W hSW; clear hSW; go_simp)
          first | done | (with_reducible rfl)
        try simp only [Act.put, List.setIfInBounds_toArray, List.set_cons_zero, List.set_cons_succ]
        refine wpAnyH_take (i := 2) (oi := ⟨some 113, _, _, _, _, _⟩) (v := ?_) rfl (by kernel_rfl) (by kernel_rfl) (by kernel_rfl) (fun _ _ _ h => h) (Or.inl ⟨by rfl, ?_⟩) HS0.out ?_
        rotate_left
        · (intro W hSW; clear hSW; go_simp)
          first | done | (with_reducible rfl)
        try simp only [Act.put, List.setIfInBounds_toArray, List.set_cons_zero, List.set_cons_succ]
        refine wpAnyH_take (i := 3) (oi := ⟨some 114, _, _, _, _, _⟩) (v := ?_) rfl (by kernel_rfl) (by kernel_rfl) (by kernel_rfl) (fun _ _ _ h => h) (Or.inl ⟨by rfl, ?_⟩) HS0.out ?_
        rotate_left
        · (intro W hSW; clear hSW; go_simp)
          first | done | (with_reducible rfl)
        try simp only [Act.put, List.setIfInBounds_toArray, List.set_cons_zero, List.set_cons_succ]
        refine wpAnyH_take (i := 4) (oi := ⟨some 115, _, _, _, _, _⟩) (v := ?_) rfl (by kernel_rfl) (by kernel_rfl) (by kernel_rfl) (fun _ _ _ h => h) (Or.inl ⟨by rfl, ?_⟩) HS0.out ?_
        rotate_left
        · (intro W hSW; clear hSW; go_simp)
          first | done | (with_reducible rfl)
        try simp only [Act.put, List.setIfInBounds_toArray, List.set_cons_zero, List.set_cons_succ]
        refine wpAnyH_take (i := 5) (oi := ⟨some 116, _, _, _, _, _⟩) (v := .int .i64 (O k)) rfl (by kernel_rfl) (by kernel_rfl) (by kernel_rfl) (fun _ _ _ h => h) (Or.inl ⟨by rfl, ?_⟩) HS0.out ?_
        · (intro W hSW; have hc := seen_now hSW; clear hSW; go_simp)
        try simp only [Act.put, List.setIfInBounds_toArray, List.set_cons_zero, List.set_cons_succ]
        refine wpAnyH_take (i := 6) (oi := ⟨some 117, _, _, _, _, _⟩) (v := ?_) rfl (by kernel_rfl) (by kernel_rfl) (by kernel_rfl) (fun _ _ _ h => h) (Or.inl ⟨by rfl, ?_⟩) HS0.out ?_
        rotate_left
        · (intro W hSW; clear hSW; go_simp)
          first | done | (with_reducible rfl)
        try simp only [Act.put, List.setIfInBounds_toArray, List.set_cons_zero, List.set_cons_succ]
        refine wpAnyH_take (i := 7) (oi := ⟨some 118, _, _, _, _, _⟩) (v := ?_) rfl (by kernel_rfl) (by kernel_rfl) (by kernel_rfl) (fun _ _ _ h => h) (Or.inl ⟨by rfl, ?_⟩) HS0.out ?_
        rotate_left
        · (intro W hSW; clear hSW; go_simp)
          first | done | (with_reducible rfl)
        try simp only [Act.put, List.setIfInBounds_toArray, List.set_cons_zero, List.set_cons_succ]
        refine wpAnyH_take (i := 8) (oi := ⟨some 119, _, _, _, _, _⟩) (v := ?_) rfl (by kernel_rfl) (by kernel_rfl) (by kernel_rfl) (fun _ _ _ h => h) (Or.inl ⟨by rfl, ?_⟩) HS0.out ?_
        rotate_left
        · (intro W hSW; clear hSW; go_simp)
          first | done | (with_reducible rfl)
        try simp only [Act.put, List.setIfInBounds_toArray, List.set_cons_zero, List.set_cons_succ]
        refine wpAnyH_take (i := 9) (oi := ⟨some 120, _, _, _, _, _⟩) (v := ?_) rfl (by kernel_rfl) (by kernel_rfl) (by kernel_rfl) (fun _ _ _ h => h) (Or.inl ⟨by rfl, ?_⟩) HS0.out ?_
        rotate_left
        · (intro W hSW; clear hSW; go_simp)
          first | done | (with_reducible rfl)
        try simp only [Act.put, List.setIfInBounds_toArray, List.set_cons_zero, List.set_cons_succ]
        refine wpAnyH_take (i := 10) (oi := ⟨some 121, _, _, _, _, _⟩) (v := .agg (P k).cs.toArray) rfl (by kernel_rfl) (by kernel_rfl) (by kernel_rfl) (fun _ _ _ h => h) (yields_pre (by rfl) (.tmp 120) rfl b (o + k * 10 + 1) rfl (P k) (fun _ h => seen_pre h)) HS0.out ?_
        try simp only [Act.put, List.setIfInBounds_toArray, List.set_cons_zero, List.set_cons_succ]
        refine wpAnyH_take (i := 11) (oi := ⟨some 122, _, _, _, _, _⟩) (v := ?_) rfl (by kernel_rfl) (by kernel_rfl) (by kernel_rfl) (fun _ _ _ h => h) (Or.inl ⟨by rfl, ?_⟩) HS0.out ?_
        rotate_left
        · (intro W hSW; clear hSW; go_simp)
          first | done | (with_reducible rfl)
        try simp only [Act.put, List.setIfInBounds_toArray, List.set_cons_zero, List.set_cons_succ]
        refine wpAnyH_take (i := 12) (oi := ⟨some 123, _, _, _, _, _⟩) (v := ?_) rfl (by kernel_rfl) (by kernel_rfl) (by kernel_rfl) (fun _ _ _ h => h) (Or.inl ⟨by rfl, ?_⟩) HS0.out ?_
        rotate_left
        · (intro W hSW; clear hSW; go_simp)
          first | done | (with_reducible rfl)
        try simp only [Act.put, List.setIfInBounds_toArray, List.set_cons_zero, List.set_cons_succ]
        refine wpAnyH_take (i := 13) (oi := ⟨some 124, _, _, _, _, _⟩) (v := ?_) rfl (by kernel_rfl) (by kernel_rfl) (by kernel_rfl) (fun _ _ _ h => h) (Or.inl ⟨by rfl, ?_⟩) HS0.out ?_
        rotate_left
        · (intro W hSW; clear hSW; go_simp)
          first | done | (with_reducible rfl)
        try simp only [Act.put, List.setIfInBounds_toArray, List.set_cons_zero, List.set_cons_succ]
        refine wpAnyH_take (i := 14) (oi := ⟨some 125, _, _, _, _, _⟩) (v := ?_) rfl (by kernel_rfl) (by kernel_rfl) (by kernel_rfl) (fun _ _ _ h => h) (Or.inl ⟨by rfl, ?_⟩) HS0.out ?_
        rotate_left
        · (intro W hSW; clear hSW; go_simp)
          first | done | (with_reducible rfl)
        try simp only [Act.put, List.setIfInBounds_toArray, List.set_cons_zero, List.set_cons_succ]
        refine wpAnyH_take (i := 15) (oi := ⟨some 126, _, _, _, _, _⟩) (v := .int .i64 (X k)) rfl (by kernel_rfl) (by kernel_rfl) (by kernel_rfl) (fun _ _ _ h => h) (Or.inl ⟨by rfl, ?_⟩) HS0.out ?_
        · (intro W hSW; have hc := seen_num hSW; clear hSW; go_simp)
        try simp only [Act.put, List.setIfInBounds_toArray, List.set_cons_zero, List.set_cons_succ]
        refine wpAnyH_ready (rs := [16]) (by kernel_rfl) (by simp) ?_
        refine AllReadyH.cons (o := ⟨some 127, _, _, _, _, _⟩) rfl (fun K hK => ?_) AllReadyH.nil
        go_simp
        refine (CA.out _ PL0.out.win).mono ?_
        rintro e x1 ⟨rfl, hw, hf⟩
        have P1 := Lib.hid (PL0.out.turn hw hf)
        have HS1 : Hid (x1.rangeAt b (o + k * 10) (.int .i64 (O k) :: ((P k).cs ++ [.int .i64 (X k)]))) := HR.out _ P1.out.be
        clear hw hf
        go_simp
        refine hK.out _ _ ?_ (fun _ => ?_)
        · exact HS1.out
        clear hK K
        try simp only [Act.put, List.setIfInBounds_toArray, List.set_cons_zero, List.set_cons_succ]
        refine wpAnyH_take (i := 17) (oi := ⟨some 16, _, _, _, _, _⟩) (v := ?_) rfl (by kernel_rfl) (by kernel_rfl) (by kernel_rfl) (fun _ _ _ h => h) (Or.inl ⟨by rfl, ?_⟩) HS1.out ?_
        rotate_left
        · (intro W hSW; clear hSW; go_simp)
          first | done | (with_reducible rfl)
        try simp only [Act.put, List.setIfInBounds_toArray, List.set_cons_zero, List.set_cons_succ]
        refine wpAnyH_done (by kernel_rfl) ?_ _
        go_upto_region 18 with fail
        refine wp_region_held_drew (S := fun W => W.rangeAt b (o + k * 10) (.int .i64 (O k) :: ((P k).cs ++ [.int .i64 (X k)]))) (by kernel_rfl) ?_ (fun _ => ?_)
        · exact HR.out _ (below_drewN P1.out.be 1)
        have HS0 : Hid (x1.drew.rangeAt b (o + k * 10) (.int .i64 (O k) :: ((P k).cs ++ [.int .i64 (X k)]))) := HR.out _ (below_drewN P1.out.be 1)
        have P2 := Lib.hid P1.out.drew
        clear P1
        generalize x1.drew = x3 at *
        refine wpAnyH_take (i := 1) (oi := ⟨some 130, _, _, _, _, _⟩) (v := ?_) rfl (by kernel_rfl) (by kernel_rfl) (by kernel_rfl) (fun _ _ _ h => h) (Or.inl ⟨by rfl, ?_⟩) HS0.out ?_
        rotate_left
        · (intro W hSW; clear hSW; go_simp)
          first | done | (with_reducible rfl)
        try simp only [Act.put, List.setIfInBounds_toArray, List.set_cons_zero, List.set_cons_succ]
        refine wpAnyH_take (i := 2) (oi := ⟨some 131, _, _, _, _, _⟩) (v := ?_) rfl (by kernel_rfl) (by kernel_rfl) (by kernel_rfl) (fun _ _ _ h => h) (Or.inl ⟨by rfl, ?_⟩) HS0.out ?_
        rotate_left
        · (intro W hSW; clear hSW; go_simp)
          first | done | (with_reducible rfl)
        try simp only [Act.put, List.setIfInBounds_toArray, List.set_cons_zero, List.set_cons_succ]
        refine wpAnyH_take (i := 3) (oi := ⟨some 132, _, _, _, _, _⟩) (v := ?_) rfl (by kernel_rfl) (by kernel_rfl) (by kernel_rfl) (fun _ _ _ h => h) (Or.inl ⟨by rfl, ?_⟩) HS0.out ?_
        rotate_left
        · (intro W hSW; clear hSW; go_simp)
          first | done | (with_reducible rfl)
        try simp only [Act.put, List.setIfInBounds_toArray, List.set_cons_zero, List.set_cons_succ]
        refine wpAnyH_take (i := 4) (oi := ⟨some 133, _, _, _, _, _⟩) (v := ?_) rfl (by kernel_rfl) (by kernel_rfl) (by kernel_rfl) (fun _ _ _ h => h) (Or.inl ⟨by rfl, ?_⟩) HS0.out ?_
        rotate_left
        · (intro W hSW; clear hSW; go_simp)
          first | done | (with_reducible rfl)
        try simp only [Act.put, List.setIfInBounds_toArray, List.set_cons_zero, List.set_cons_succ]
        refine wpAnyH_take (i := 5) (oi := ⟨some 134, _, _, _, _, _⟩) (v := .int .i64 (O k)) rfl (by kernel_rfl) (by kernel_rfl) (by kernel_rfl) (fun _ _ _ h => h) (Or.inl ⟨by rfl, ?_⟩) HS0.out ?_
        · (intro W hSW; have hc := seen_now hSW; clear hSW; go_simp)
        try simp only [Act.put, List.setIfInBounds_toArray, List.set_cons_zero, List.set_cons_succ]
        refine wpAnyH_take (i := 6) (oi := ⟨some 135, _, _, _, _, _⟩) (v := ?_) rfl (by kernel_rfl) (by kernel_rfl) (by kernel_rfl) (fun _ _ _ h => h) (Or.inl ⟨by rfl, ?_⟩) HS0.out ?_
        rotate_left
        · (intro W hSW; clear hSW; go_simp)
          first | done | (with_reducible rfl)
        try simp only [Act.put, List.setIfInBounds_toArray, List.set_cons_zero, List.set_cons_succ]
        refine wpAnyH_take (i := 7) (oi := ⟨some 136, _, _, _, _, _⟩) (v := ?_) rfl (by kernel_rfl) (by kernel_rfl) (by kernel_rfl) (fun _ _ _ h => h) (Or.inl ⟨by rfl, ?_⟩) HS0.out ?_
        rotate_left
        · (intro W hSW; clear hSW; go_simp)
          first | done | (with_reducible rfl)
        try simp only [Act.put, List.setIfInBounds_toArray, List.set_cons_zero, List.set_cons_succ]
        refine wpAnyH_take (i := 8) (oi := ⟨some 137, _, _, _, _, _⟩) (v := ?_) rfl (by kernel_rfl) (by kernel_rfl) (by kernel_rfl) (fun _ _ _ h => h) (Or.inl ⟨by rfl, ?_⟩) HS0.out ?_
        rotate_left
        · (intro W hSW; clear hSW; go_simp)
          first | done | (with_reducible rfl)
        try simp only [Act.put, List.setIfInBounds_toArray, List.set_cons_zero, List.set_cons_succ]
        refine wpAnyH_take (i := 9) (oi := ⟨some 138, _, _, _, _, _⟩) (v := ?_) rfl (by kernel_rfl) (by kernel_rfl) (by kernel_rfl) (fun _ _ _ h => h) (Or.inl ⟨by rfl, ?_⟩) HS0.out ?_
        rotate_left
        · (intro W hSW; clear hSW; go_simp)
          first | done | (with_reducible rfl)
        try simp only [Act.put, List.setIfInBounds_toArray, List.set_cons_zero, List.set_cons_succ]
        refine wpAnyH_take (i := 10) (oi := ⟨some 139, _, _, _, _, _⟩) (v := .agg (P k).cs.toArray) rfl (by kernel_rfl) (by kernel_rfl) (by kernel_rfl) (fun _ _ _ h => h) (yields_pre (by rfl) (.tmp 138) rfl b (o + k * 10 + 1) rfl (P k) (fun _ h => seen_pre h)) HS0.out ?_
        try simp only [Act.put, List.setIfInBounds_toArray, List.set_cons_zero, List.set_cons_succ]
        refine wpAnyH_take (i := 11) (oi := ⟨some 140, _, _, _, _, _⟩) (v := ?_) rfl (by kernel_rfl) (by kernel_rfl) (by kernel_rfl) (fun _ _ _ h => h) (Or.inl ⟨by rfl, ?_⟩) HS0.out ?_
        rotate_left
        · (intro W hSW; clear hSW; go_simp)
          first | done | (with_reducible rfl)
        try simp only [Act.put, List.setIfInBounds_toArray, List.set_cons_zero, List.set_cons_succ]
        refine wpAnyH_take (i := 12) (oi := ⟨some 141, _, _, _, _, _⟩) (v := ?_) rfl (by kernel_rfl) (by kernel_rfl) (by kernel_rfl) (fun _ _ _ h => h) (Or.inl ⟨by rfl, ?_⟩) HS0.out ?_
        rotate_left
        · (intro W hSW; clear hSW; go_simp)
          first | done | (with_reducible rfl)
        try simp only [Act.put, List.setIfInBounds_toArray, List.set_cons_zero, List.set_cons_succ]
        refine wpAnyH_take (i := 13) (oi := ⟨some 142, _, _, _, _, _⟩) (v := ?_) rfl (by kernel_rfl) (by kernel_rfl) (by kernel_rfl) (fun _ _ _ h => h) (Or.inl ⟨by rfl, ?_⟩) HS0.out ?_
        rotate_left
        · (intro W hSW; clear hSW; go_simp)
          first | done | (with_reducible rfl)
        try simp only [Act.put, List.setIfInBounds_toArray, List.set_cons_zero, List.set_cons_succ]
        refine wpAnyH_take (i := 14) (oi := ⟨some 143, _, _, _, _, _⟩) (v := ?_) rfl (by kernel_rfl) (by kernel_rfl) (by kernel_rfl) (fun _ _ _ h => h) (Or.inl ⟨by rfl, ?_⟩) HS0.out ?_
        rotate_left
        · (intro W hSW; clear hSW; go_simp)
          first | done | (with_reducible rfl)
        try simp only [Act.put, List.setIfInBounds_toArray, List.set_cons_zero, List.set_cons_succ]
        refine wpAnyH_take (i := 15) (oi := ⟨some 144, _, _, _, _, _⟩) (v := .int .i64 (X k)) rfl (by kernel_rfl) (by kernel_rfl) (by kernel_rfl) (fun _ _ _ h => h) (Or.inl ⟨by rfl, ?_⟩) HS0.out ?_
        · (intro W hSW; have hc := seen_num hSW; clear hSW; go_simp)
        try simp only [Act.put, List.setIfInBounds_toArray, List.set_cons_zero, List.set_cons_succ]
        refine wpAnyH_ready (rs := [0]) (by kernel_rfl) (by simp) ?_
        refine AllReadyH.cons (o := ⟨some 129, _, _, _, _, _⟩) rfl (fun K hK => ?_) AllReadyH.nil
        refine step_whole (by rfl) (.tmp 13) (by rfl) z (by rfl) A1 V'.L.length c1 V' P2.out.dz ?_
        refine hK.out _ _ ?_ (fun _ => ?_)
        · exact HS0.out
        clear hK K
        try simp only [Act.put, List.setIfInBounds_toArray, List.set_cons_zero, List.set_cons_succ]
        refine wpAnyH_ready (rs := [16]) (by kernel_rfl) (by simp) ?_
        refine AllReadyH.cons (o := ⟨some 145, _, _, _, _, _⟩) rfl (fun K hK => ?_) AllReadyH.nil
        go_simp
        refine (CD.out _ P2.out.la).mono ?_
        rintro e x4 ⟨A3, c3, rfl, hl, ⟨b3, rfl, hb3⟩, hbe⟩
        have P3 := Lib.hid (P2.out.below hbe)
        have L3 := Lib.hid hl
        have HB3 := Lib.hid (P2.out.past hb3)
        have HS1 : Hid (x4.rangeAt b (o + k * 10) (.int .i64 (O k) :: ((P k).cs ++ [.int .i64 (X k)]))) := HR.out _ P3.out.be
        clear hl hbe
        go_simp
        refine hK.out _ _ ?_ (fun _ => ?_)
        · exact HS1.out
        clear hK K
        try simp only [Act.put, List.setIfInBounds_toArray, List.set_cons_zero, List.set_cons_succ]
        refine wpAnyH_take (i := 17) (oi := ⟨some 128, _, _, _, _, _⟩) (v := ?_) rfl (by kernel_rfl) (by kernel_rfl) (by kernel_rfl) (fun _ _ _ h => h) (Or.inl ⟨by rfl, ?_⟩) HS1.out ?_
        rotate_left
        · (intro W hSW; clear hSW; go_simp)
          first | done | (with_reducible rfl)
        try simp only [Act.put, List.setIfInBounds_toArray, List.set_cons_zero, List.set_cons_succ]
        refine wpAnyH_take (i := 18) (oi := ⟨some 146, _, _, _, _, _⟩) (v := ?_) rfl (by kernel_rfl) (by kernel_rfl) (by kernel_rfl) (fun _ _ _ h => h) (Or.inl ⟨by rfl, ?_⟩) HS1.out ?_
        rotate_left
        · (intro W hSW; clear hSW; go_simp)
          first | done | (with_reducible rfl)
        try simp only [Act.put, List.setIfInBounds_toArray, List.set_cons_zero, List.set_cons_succ]
        refine wpAnyH_take (i := 19) (oi := ⟨some 147, _, _, _, _, _⟩) (v := ?_) rfl (by kernel_rfl) (by kernel_rfl) (by kernel_rfl) (fun _ _ _ h => h) (Or.inl ⟨by rfl, ?_⟩) HS1.out ?_
        rotate_left
        · (intro W hSW; clear hSW; go_simp)
          first | done | (with_reducible rfl)
        try simp only [Act.put, List.setIfInBounds_toArray, List.set_cons_zero, List.set_cons_succ]
        refine wpAnyH_ready (rs := [20]) (by kernel_rfl) (by simp) ?_
        refine AllReadyH.cons (o := ⟨none, _, _, _, _, _⟩) rfl (fun K hK => ?_) AllReadyH.nil
        refine step_lay (by rfl) 40 6 size40 (.tmp 13) (.tmp 146) (by rfl) z (dw (some ⟨b3, 0, none⟩) V2.L.length c3 V2) (by rfl) (by rfl) 40 (dw A1 V'.L.length c1 V') P3.out.dz rfl rfl (dw_one _ _ _ _) ?_
        intro x5 K5 F5
        have P4 := Lib.hid (P3.out.put K5.out F5.out L3.out HB3.out H0.out)
        have HS2 : Hid (x5.rangeAt b (o + k * 10) (.int .i64 (O k) :: ((P k).cs ++ [.int .i64 (X k)]))) := HR.out _ P4.out.be
        refine hK.out _ _ ?_ (fun _ => ?_)
        · exact HS2.out
        clear hK K
        try simp only [Act.put]
        refine wpAnyH_take (i := 21) (oi := ⟨some 17, _, _, _, _, _⟩) (v := ?_) rfl (by kernel_rfl) (by kernel_rfl) (by kernel_rfl) (fun _ _ _ h => h) (Or.inl ⟨by rfl, ?_⟩) HS2.out ?_
        rotate_left
        · (intro W hSW; clear hSW; go_simp)
          first | done | (with_reducible rfl)
        try simp only [Act.put, List.setIfInBounds_toArray, List.set_cons_zero, List.set_cons_succ]
        refine wpAnyH_done (by kernel_rfl) ?_ _
        go_upto_region 19 with fail
        refine wp_region_held_drew (S := fun W => Blk W z 40 (dw (some ⟨b3, 0, none⟩) V2.L.length c3 V2)) (by kernel_rfl) ?_ (fun _ => ?_)
        · exact P4.out.dz
        have HS0 : Hid (Blk x5.drew z 40 (dw (some ⟨b3, 0, none⟩) V2.L.length c3 V2)) := P4.out.dz
        have P5 := Lib.hid P4.out.drew
        clear P4
        generalize x5.drew = x6 at *
        refine wpAnyH_take (i := 0) (oi := ⟨some 148, _, _, _, _, _⟩) (v := ?_) rfl (by kernel_rfl) (by kernel_rfl) (by kernel_rfl) (fun _ _ _ h => h) (Or.inl ⟨by rfl, ?_⟩) HS0.out ?_
        rotate_left
        · (intro W hSW; clear hSW; go_simp)
          first | done | (with_reducible rfl)
        try simp only [Act.put, List.setIfInBounds_toArray, List.set_cons_zero, List.set_cons_succ]
        refine wpAnyH_take (i := 1) (oi := ⟨some 149, _, _, _, _, _⟩) (v := ?_) rfl (by kernel_rfl) (by kernel_rfl) (by kernel_rfl) (fun _ _ _ h => h) (Or.inl ⟨by rfl, ?_⟩) HS0.out ?_
        rotate_left
        · (intro W hSW; clear hSW; go_simp)
          first | done | (with_reducible rfl)
        try simp only [Act.put, List.setIfInBounds_toArray, List.set_cons_zero, List.set_cons_succ]
        refine wpAnyH_take (i := 2) (oi := ⟨some 150, _, _, _, _, _⟩) (v := .bool false) rfl (by kernel_rfl) (by kernel_rfl) (by kernel_rfl) (fun _ _ _ h => h) (Or.inl ⟨by rfl, ?_⟩) HS0.out ?_
        · (intro W hSW; clear hSW; go_simp)
        try simp only [Act.put, List.setIfInBounds_toArray, List.set_cons_zero, List.set_cons_succ]
        refine wpAnyH_take (i := 3) (oi := ⟨some 151, _, _, _, _, _⟩) (v := ?_) rfl (by kernel_rfl) (by kernel_rfl) (by kernel_rfl) (fun _ _ _ h => h) (Or.inl ⟨by rfl, ?_⟩) HS0.out ?_
        rotate_left
        · (intro W hSW; clear hSW; go_simp)
          first | done | (with_reducible rfl)
        try simp only [Act.put, List.setIfInBounds_toArray, List.set_cons_zero, List.set_cons_succ]
        refine wpAnyH_take (i := 4) (oi := ⟨some 152, _, _, _, _, _⟩) (v := ?_) rfl (by kernel_rfl) (by kernel_rfl) (by kernel_rfl) (fun _ _ _ h => h) (Or.inl ⟨by rfl, ?_⟩) HS0.out ?_
        rotate_left
        · (intro W hSW; clear hSW; go_simp)
          first | done | (with_reducible rfl)
        try simp only [Act.put, List.setIfInBounds_toArray, List.set_cons_zero, List.set_cons_succ]
        refine wpAnyH_take (i := 6) (oi := ⟨some 154, _, _, _, _, _⟩) (v := ?_) rfl (by kernel_rfl) (by kernel_rfl) (by kernel_rfl) (fun _ _ _ h => h) (Or.inl ⟨by rfl, ?_⟩) HS0.out ?_
        rotate_left
        · (intro W hSW; clear hSW; go_simp)
          first | done | (with_reducible rfl)
        try simp only [Act.put, List.setIfInBounds_toArray, List.set_cons_zero, List.set_cons_succ]
        refine wpAnyH_take (i := 7) (oi := ⟨some 155, _, _, _, _, _⟩) (v := .int .i64 V2.no) rfl (by kernel_rfl) (by kernel_rfl) (by kernel_rfl) (fun _ _ _ h => h) (Or.inl ⟨by rfl, ?_⟩) HS0.out ?_
        · (intro W hSW; have hc := hSW.cell 5; clear hSW; go_simp)
        try simp only [Act.put, List.setIfInBounds_toArray, List.set_cons_zero, List.set_cons_succ]
        refine wpAnyH_ready (rs := [5]) (by kernel_rfl) (by simp) ?_
        refine AllReadyH.cons (o := ⟨some 153, _, _, _, _, _⟩) rfl (fun K hK => ?_) AllReadyH.nil
        go_simp
        refine (number_ g s q _ _ P5.out.win).mono ?_
        rintro e x1 ⟨rfl, hb⟩
        subst hb
        have HS1 := HS0
        clear HS0
        go_simp
        refine hK.out _ _ ?_ (fun _ => ?_)
        · exact HS1.out
        clear hK K
        try simp only [Act.put, List.setIfInBounds_toArray, List.set_cons_zero, List.set_cons_succ]
        refine wpAnyH_take (i := 8) (oi := ⟨some 156, _, _, _, _, _⟩) (v := .bool false) rfl (by kernel_rfl) (by kernel_rfl) (by kernel_rfl) (fun _ _ _ h => h) (Or.inl ⟨by rfl, ?_⟩) HS1.out ?_
        · (intro W hSW; clear hSW; go_simp)
        try simp only [Act.put, List.setIfInBounds_toArray, List.set_cons_zero, List.set_cons_succ]
        refine wpAnyH_take (i := 9) (oi := ⟨some 157, _, _, _, _, _⟩) (v := .bool false) rfl (by kernel_rfl) (by kernel_rfl) (by kernel_rfl) (fun _ _ _ h => h) (Or.inl ⟨by rfl, ?_⟩) HS1.out ?_
        · (intro W hSW; clear hSW; go_simp)
        try simp only [Act.put, List.setIfInBounds_toArray, List.set_cons_zero, List.set_cons_succ]
        refine wpAnyH_take (i := 10) (oi := ⟨some 158, _, _, _, _, _⟩) (v := ?_) rfl (by kernel_rfl) (by kernel_rfl) (by kernel_rfl) (fun _ _ _ h => h) (Or.inl ⟨by rfl, ?_⟩) HS1.out ?_
        rotate_left
        · (intro W hSW; clear hSW; go_simp)
          first | done | (with_reducible rfl)
        try simp only [Act.put, List.setIfInBounds_toArray, List.set_cons_zero, List.set_cons_succ]
        refine wpAnyH_take (i := 11) (oi := ⟨some 159, _, _, _, _, _⟩) (v := ?_) rfl (by kernel_rfl) (by kernel_rfl) (by kernel_rfl) (fun _ _ _ h => h) (Or.inl ⟨by rfl, ?_⟩) HS1.out ?_
        rotate_left
        · (intro W hSW; clear hSW; go_simp)
          first | done | (with_reducible rfl)
        try simp only [Act.put, List.setIfInBounds_toArray, List.set_cons_zero, List.set_cons_succ]
        refine wpAnyH_take (i := 13) (oi := ⟨some 161, _, _, _, _, _⟩) (v := ?_) rfl (by kernel_rfl) (by kernel_rfl) (by kernel_rfl) (fun _ _ _ h => h) (Or.inl ⟨by rfl, ?_⟩) HS1.out ?_
        rotate_left
        · (intro W hSW; clear hSW; go_simp)
          first | done | (with_reducible rfl)
        try simp only [Act.put, List.setIfInBounds_toArray, List.set_cons_zero, List.set_cons_succ]
        refine wpAnyH_take (i := 14) (oi := ⟨some 162, _, _, _, _, _⟩) (v := ?_) rfl (by kernel_rfl) (by kernel_rfl) (by kernel_rfl) (fun _ _ _ h => h) (Or.inl ⟨by rfl, ?_⟩) HS1.out ?_
        rotate_left
        · (intro W hSW; clear hSW; go_simp)
          first | done | (with_reducible rfl)
        try simp only [Act.put, List.setIfInBounds_toArray, List.set_cons_zero, List.set_cons_succ]
        refine wpAnyH_take (i := 15) (oi := ⟨some 163, _, _, _, _, _⟩) (v := .slice (some ⟨b3, 0, none⟩) V2.L.length c3) rfl (by kernel_rfl) (by kernel_rfl) (by kernel_rfl) (fun _ _ _ h => h) (Or.inl ⟨by rfl, ?_⟩) HS1.out ?_
        · (intro W hSW; have hc := hSW.cell 0; clear hSW; go_simp)
        try simp only [Act.put, List.setIfInBounds_toArray, List.set_cons_zero, List.set_cons_succ]
        refine wpAnyH_ready (rs := [12]) (by kernel_rfl) (by simp) ?_
        refine AllReadyH.cons (o := ⟨some 160, _, _, _, _, _⟩) rfl (fun K hK => ?_) AllReadyH.nil
        go_simp
        refine (wslots_ g s q _ _ P5.out.win).mono ?_
        rintro e x2 ⟨A5, c5, rfl, hbe, hr⟩
        have L5 := Lib.hid (row_lat hr)
        have P6 := Lib.hid (P5.out.below hbe)
        have HS2 : Hid (Blk x2 z 40 (dw (some ⟨b3, 0, none⟩) V2.L.length c3 V2)) := P6.out.dz
        clear hbe hr
        go_simp
        refine hK.out _ _ ?_ (fun _ => ?_)
        · exact HS2.out
        clear hK K
        try simp only [Act.put, List.setIfInBounds_toArray, List.set_cons_zero, List.set_cons_succ]
        refine wpAnyH_ready (rs := [16]) (by kernel_rfl) (by simp) ?_
        refine AllReadyH.cons (o := ⟨some 164, _, _, _, _, _⟩) rfl (fun K hK => ?_) AllReadyH.nil
        go_simp
        refine (same_ A5 (some ⟨b3, 0, none⟩) c5 c3 V2.L _ L5.out P6.out.la P6.out.win.sk.oks (by have := P6.out.win.sk.few; omega)).mono ?_
        rintro e x3 ⟨rfl, hbe⟩
        have P7 := Lib.hid (P6.out.below hbe)
        have HS3 : Hid (Blk x3 z 40 (dw (some ⟨b3, 0, none⟩) V2.L.length c3 V2)) := P7.out.dz
        clear hbe
        go_simp
        refine hK.out _ _ ?_ (fun _ => ?_)
        · exact HS3.out
        clear hK K
        try simp only [Act.put, List.setIfInBounds_toArray, List.set_cons_zero, List.set_cons_succ]
        refine wpAnyH_take (i := 17) (oi := ⟨some 165, _, _, _, _, _⟩) (v := .bool false) rfl (by kernel_rfl) (by kernel_rfl) (by kernel_rfl) (fun _ _ _ h => h) (Or.inl ⟨by rfl, ?_⟩) HS3.out ?_
        · (intro W hSW; clear hSW; go_simp)
        try simp only [Act.put, List.setIfInBounds_toArray, List.set_cons_zero, List.set_cons_succ]
        refine wpAnyH_take (i := 18) (oi := ⟨some 166, _, _, _, _, _⟩) (v := .bool false) rfl (by kernel_rfl) (by kernel_rfl) (by kernel_rfl) (fun _ _ _ h => h) (Or.inl ⟨by rfl, ?_⟩) HS3.out ?_
        · (intro W hSW; clear hSW; go_simp)
        try simp only [Act.put, List.setIfInBounds_toArray, List.set_cons_zero, List.set_cons_succ]
        refine wpAnyH_done (by kernel_rfl) ?_ _
        go_wp2_with fail
        go_roundw
        case rel => exact ⟨k + 1, V2, _, _, by omega, by go_num, P7.out⟩
        case measure => simp [intOf]; omega
    · go_wp2
      go_ret
      exact ⟨rfl, PL.out.be⟩
end Go.Proofs.Yteeobeeoefokdaa
