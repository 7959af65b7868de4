/- The contracts of the turns' New, Awake and of all calls of nil. Conditions: those of each theorem. -/
import Derived.Test.YtknalphhnicffaaTLast
namespace Go.Proofs.Ytknalphhnicffaa
open Go.RowKit

/-- The cells of new turns. -/
def cells0 (Q n : Nat) : List Value := Value.int .i64 (Q : Nat) :: .int .i64 (n : Nat) :: ((List.range 129).flatMap (fun _ => [Value.int .i64 0, .bool false])) ++ (Value.int .i64 0 :: List.replicate 129 (.int .i64 0))
theorem good0 (n Q : Nat) : Good n Q [] (cells0 Q n) := by
  unfold cells0
  exact Good.new n Q
theorem eql_nil (ad : Addr) (m c : Nat) (w : World) : (binOp .eql 30 (.slice (some ad) m c) (.slice none 0 0)).run Try.prog w = .ok (.bool false) w := by kernel_rfl
theorem eql_nil2 (w : World) : (binOp .eql 30 (.slice none 0 0) (.slice none 0 0)).run Try.prog w = .ok (.bool true) w := by kernel_rfl
theorem built65 (Q n : Nat) (w : World) : (Instr.build 65 #[(0, .int .i64 (Q : Int)), (1, .int .i64 (n : Int))]).run Try.prog w = .ok (.agg (cells0 Q n).toArray) w := run_build w 65 _ _ (by kernel_rfl)
theorem wpList_build {ops : Array Oper} {rest : List Oper} {o : Oper} {a : Act} {w : World} {Q : Exit → Act → World → Prop} (hgd : o.guard = none) (ty : TypeId) (parts : List (Nat × Operand)) (ho : o.op = .build ty parts.toArray)
    (vals : List (Nat × Value)) (hp : (parts.map fun px => (px.1, a.eval px.2)) = vals) (cells : List Value) (hb : (Instr.build ty vals.toArray).run Try.prog w = .ok (.agg cells.toArray) w)
    (h : wpList Try.prog ops Q rest (a.put o.dst (.agg cells.toArray)) w) : wpList Try.prog ops Q (o :: rest) a w := by
  subst hp
  refine wpList_plain hgd fun K hK => ?_
  unfold Oper.wp
  simp only [execOp, ho, List.map_toArray]
  simp [hb, Oper.upon]
  exact hK _ _ h
set_option maxHeartbeats 1000000 in
theorem new_ (n Q : Nat) (x y : Int) (w : World) (hx : x = n) (hy : y = Q) (h1 : 1 ≤ n) (h2 : n ≤ 129) (h3 : 1 ≤ Q) (h4 : Q ≤ 1073741824) :
    Calls Try.prog 10 #[.int .i64 x, .int .i64 y] w fun e w' => ∃ g, e = .returned (.tuple #[.pointer (some ⟨g, 0, none⟩), .int .i64 0]) ∧ TAt (fun k => w.heap.size ≤ k) w' g n Q [] ∧ Below w.heap.size w w' := by
  subst hx hy
  have HT : Hid (TAt (fun k => w.heap.size ≤ k) (w.alloc (.cells (cells0 Q n).toArray 65)) w.heap.size n Q []) := ⟨Nat.le_refl _, h2, h3, h4, Ok.nil, cells0 Q n, Blk.new w 65 _, good0 n Q⟩
  have HB := Lib.hid (fun W => built65 Q n W)
  have d1 : decide ((n : Int) < 1) = false := by simp; omega
  have d1' : decide (n < 1) = false := by simp; omega
  have d2 : decide ((129 : Int) < (n : Int)) = false := by simp; omega
  have d3 : decide ((Q : Int) < 1) = false := by simp; omega
  have d4 : decide ((1073741824 : Int) < (Q : Int)) = false := by simp; omega
  generalize cells0 Q n = C at *
  go_enter Try.func10, Try.ntmps10
  go_upto_region 3 with fail
  go_wp2_with (refine wpList_build rfl 65 [(0, .tmp 20), (1, .tmp 21)] rfl [(0, .int .i64 (Q : Int)), (1, .int .i64 (n : Int))] rfl C (by exact HB.out _) ?_)
  go_ret2
  exact ⟨_, rfl, HT.out, below_one _ _⟩
theorem low_cases {x y : Int} (h : x < 1 ∨ 129 < x ∨ y < 1 ∨ 1073741824 < y) : (decide (x < 1) = true) ∨ (decide (x < 1) = false ∧ decide (129 < x) = true) ∨ (decide (x < 1) = false ∧ decide (129 < x) = false ∧ decide (y < 1) = true) ∨ (decide (x < 1) = false ∧ decide (129 < x) = false ∧ decide (y < 1) = false ∧ decide (1073741824 < y) = true) := by
  simp
  omega
set_option maxHeartbeats 1000000 in
theorem newbad_ (x y : Int) (w : World) (h : x < 1 ∨ 129 < x ∨ y < 1 ∨ 1073741824 < y) :
    Calls Try.prog 10 #[.int .i64 x, .int .i64 y] w fun e w' => e = .returned (.tuple #[.pointer none, .int .i64 1]) ∧ Below w.heap.size w w' := by
  rcases low_cases h with h1 | ⟨h1, h2⟩ | ⟨h1, h2, h3⟩ | ⟨h1, h2, h3, h4⟩
  all_goals
    clear h
    go_enter Try.func10, Try.ntmps10
    go_wp2
    go_ret2
    exact ⟨rfl, Below.refl _ _⟩
set_option maxHeartbeats 1000000 in
theorem clone_ (ad : Addr) (m c : Nat) (zs : List Int) (w : World) (h : Vals w (some ad) m (ints zs)) (hl : zs.length = m) (hm : m ≤ 129) :
    Calls Try.prog 25 #[.slice (some ad) m c] w fun e w' => (∃ A c, e = .returned (.slice A m c) ∧ Vals w' A m (ints zs) ∧ ∀ ad, A = some ad → w.heap.size ≤ ad.block ∧ ad.block < w'.heap.size) ∧ Below w.heap.size w w' := by
  have HO : Hid ((w.alloc (Obj.cells #[] 3)).ownsRow w.heap.size 3 1 (.slice (some ⟨w.heap.size, 0, none⟩) 0 0) 0 (ints [])) := World.ownsRow_lit (base := w.heap.size) (e := 3) (size := 1) w #[] 0 (Nat.le_refl _) (by simp) (by simp)
  have W1 : Hid (Below w.heap.size w (w.alloc (Obj.cells #[] 3))) := below_one w _
  have HV := Lib.hid (h.below W1.out)
  clear h
  have hq := eql_nil
  have hq2 := eql_nil2
  go_enter Try.func25, Try.ntmps25
  go_wp2_with (at_builtin; refine wpList_appI rfl (.tmp 5) (.tmp 6) rfl w.heap.size (.slice (some ⟨w.heap.size, 0, none⟩) 0 0) 0 [] rfl (by exact HO.out) (some ad) m c zs rfl (by exact HV.out) m (Nat.zero_add _) zs rfl (by omega) (by exact W1.out.size) ?_; intro A' c' w' O1 G1 E1; have W2 : Hid (Below w.heap.size w w') := W1.out.grown G1.out W1.out.size (fun k e => by simp [Value.ownBlock] at e; omega))
  go_ret
  exact ⟨⟨A', c', rfl, Vals.of_own O1.out, fun a e => by subst e; exact O1.out.lt _ rfl⟩, W2.out⟩
set_option maxHeartbeats 400000 in
theorem awake_ (b : Nat → Prop) (g n Q : Nat) (L : List Cls) (w : World) (h : TAt b w g n Q L) :
    Calls Try.prog 12 #[.pointer (some ⟨g, 0, none⟩)] w fun e w' => (∃ A c, e = .returned (.slice A L.length c) ∧ Vals w' A L.length (ints (who L)) ∧ ∀ ad, A = some ad → w.heap.size ≤ ad.block ∧ ad.block < w'.heap.size) ∧ Below w.heap.size w w' := by
  have HT := Lib.hid h
  clear h
  go_enter Try.func12, Try.ntmps12
  go_wp2_with (go_at_call 24; (with_reducible refine (line_ b g n Q L _ HT.out).mono ?_); rintro e w1 ⟨rfl, hb⟩; have B1 := Lib.hid hb; have T1 := Lib.hid (HT.out.below hb); clear hb)
  refine (clone_ ⟨g, 261, none⟩ L.length 129 (who L) w1 T1.out.vals (who_length L) T1.out.len_le).mono ?_
  rintro e w2 ⟨⟨A, c, rfl, V, ha⟩, hb⟩
  have W2 : Hid (Below w.heap.size w w2) := B1.out.trans (hb.mono B1.out.size)
  have HV := Lib.hid V
  have HA : Hid (∀ ad, A = some ad → w.heap.size ≤ ad.block ∧ ad.block < w2.heap.size) := fun ad e => ⟨Nat.le_trans B1.out.size (ha ad e).1, (ha ad e).2⟩
  clear hb V ha
  go_wp2_with fail
  go_ret
  exact ⟨⟨A, c, rfl, HV.out, HA.out⟩, W2.out⟩
set_option maxHeartbeats 400000 in
theorem clone_nil (w : World) : Calls Try.prog 25 #[.slice none 0 0] w fun e w' => e = .returned (.slice none 0 0) ∧ w = w' := by
  have hq := eql_nil
  have hq2 := eql_nil2
  go_enter Try.func25, Try.ntmps25
  go_wp2
  go_ret
  exact ⟨rfl, rfl⟩
set_option maxHeartbeats 400000 in
theorem wake_nil (c : Int) (w : World) : Calls Try.prog 11 #[.pointer none, .int .i64 c] w fun e w' => e = .returned (.bool false) ∧ Below w.heap.size w w' := by
  go_enter Try.func11, Try.ntmps11
  go_wp2_with (go_at_call 22; (with_reducible refine (has_nil _ _).mono ?_); rintro e w' ⟨rfl, rfl⟩)
  go_ret
  exact ⟨rfl, Below.refl _ _⟩
set_option maxHeartbeats 400000 in
theorem awake_nil (w : World) : Calls Try.prog 12 #[.pointer none] w fun e w' => (∃ A c, e = .returned (.slice A 0 c)) ∧ Below w.heap.size w w' := by
  go_enter Try.func12, Try.ntmps12
  go_wp2_with (first | (go_at_call 24; (with_reducible refine (line_nil _).mono ?_); rintro e w' ⟨rfl, rfl⟩) | (go_at_call 25; (with_reducible refine (clone_nil _).mono ?_); rintro e w' ⟨rfl, rfl⟩))
  go_ret
  exact ⟨⟨none, 0, rfl⟩, Below.refl _ _⟩
end Go.Proofs.Ytknalphhnicffaa
