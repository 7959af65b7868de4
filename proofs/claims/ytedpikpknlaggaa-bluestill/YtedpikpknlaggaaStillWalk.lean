/- The walk of the law BlueStill: for any setup and any acts it returns true and turns nothing that was there. -/
import Derived.Test.YtedpikpknlaggaaAloneWalk
namespace Go.Proofs.Ytedpikpknlaggaa
open Go.RowKit

/-- What was read, level by level: bytes, then probability. -/
def rowv (B : Bins) (M j : Nat) : List Value := (List.range (2 * j)).map fun a => .int .i64 ((if a % 2 = 0 then (B (a / 2 / M) (a / 2 % M)).b else (B (a / 2 / M) (a / 2 % M)).p : Nat) : Int)
theorem rowv_snoc {B : Bins} {M l i : Nat} (hi : i < M) : rowv B M (l * M + i) ++ [.int .i64 ((B l i).b : Nat), .int .i64 ((B l i).p : Nat)] = rowv B M (l * M + i + 1) := by
  have h1 : (l * M + i) / M = l := by rw [Nat.add_comm, Nat.add_mul_div_right _ _ (by omega), Nat.div_eq_of_lt hi, Nat.zero_add]
  have h2 : (l * M + i) % M = i := by rw [Nat.add_comm, Nat.add_mul_mod_self_right, Nat.mod_eq_of_lt hi]
  generalize l * M + i = j at *
  unfold rowv
  rw [show 2 * (j + 1) = 2 * j + 1 + 1 by omega, List.range_succ, List.range_succ]
  simp only [List.map_append, List.map_cons, List.map_nil, List.append_assoc, List.cons_append, List.nil_append]
  rw [show 2 * j % 2 = 0 by omega, show (2 * j + 1) % 2 = 1 by omega, show 2 * j / 2 = j by omega, show (2 * j + 1) / 2 = j by omega, h1, h2]
  rfl
theorem rowv_at {B : Bins} {M N l i : Nat} (hl : l < N) (hi : i < M) : (rowv B M (N * M))[2 * (l * M + i)]? = some (.int .i64 ((B l i).b : Nat)) ∧ (rowv B M (N * M))[2 * (l * M + i) + 1]? = some (.int .i64 ((B l i).p : Nat)) := by
  have h1 : (l * M + i) / M = l := by rw [Nat.add_comm, Nat.add_mul_div_right _ _ (by omega), Nat.div_eq_of_lt hi, Nat.zero_add]
  have h2 : (l * M + i) % M = i := by rw [Nat.add_comm, Nat.add_mul_mod_self_right, Nat.mod_eq_of_lt hi]
  have h3 : l * M + i < N * M := by
    have := Nat.mul_le_mul_right M (show l + 1 ≤ N by omega)
    rw [Nat.add_mul, Nat.one_mul] at this
    omega
  generalize l * M + i = j at *
  generalize N * M = J at *
  unfold rowv
  refine ⟨?_, ?_⟩
  · rw [List.getElem?_map, List.getElem?_range (by omega)]
    simp only [Option.map_some]
    rw [show 2 * j % 2 = 0 by omega, show 2 * j / 2 = j by omega, h1, h2]
    rfl
  · rw [List.getElem?_map, List.getElem?_range (by omega)]
    simp only [Option.map_some]
    rw [show (2 * j + 1) % 2 = 1 by omega, show (2 * j + 1) / 2 = j by omega, h1, h2]
    rfl
theorem rowv_zero (B : Bins) (M : Nat) : rowv B M 0 = [] := rfl
theorem info2 : (Try.prog.info? 2).map (fun i => (i.zero, i.size, i.bytes)) = some (some (.int .i64 0), 1, 8) := by kernel_rfl
theorem BAt.grown {w w' : World} {g s base n : Nat} {q : Nat → Nat} {V : Blu} {v : Value} {xs : List Value} (h : BAt w g s q V) (ho : w.ownsRow base 2 1 v n xs) (hg : w.grownBy w' v.ownBlock) : BAt w' g s q V := by
  obtain ⟨⟨c, h1⟩, ⟨cs, h2, h3⟩, h4, h5, h6⟩ := h
  exact ⟨⟨c, h1.grown hg (h1.row_apart ho (by decide))⟩, ⟨cs, h2.grown hg (h2.row_apart ho (by decide)), h3⟩, fun l hl => (h4 l hl).grown hg ((h4 l hl).row_apart ho (by decide)), h5, h6⟩
/-- append of two numbers onto an own row. -/
theorem wpList_two {w : World} {ops : Array Oper} {rest : List Oper} {o : Oper} {a : Act} {Q : Exit → Act → World → Prop} (hgd : o.guard = none) (s x : Operand)
    (ho : o.op = .call { callee := .builtin .append, args := #[s, x], argTypes := #[46, 46] })
    (base n : Nat) (v : Value) (xs : List Value) (hs : a.eval s = v) (hown : w.ownsRow base 2 1 v n xs)
    (b c : Nat) (y z : Int) (hx : a.eval x = .slice (some ⟨b, 0, none⟩) 2 c) (h : Blk w b 2 [.int .i64 y, .int .i64 z]) (hn : n ≤ 1000) (hb : base ≤ w.heap.size)
    (hK : ∀ v' w', Hid (w'.ownsRow base 2 1 v' (n + 2) (xs ++ [.int .i64 y, .int .i64 z])) → Hid (w.grownBy w' v.ownBlock) → wpList Try.prog ops Q rest (a.put o.dst v') w') : wpList Try.prog ops Q (o :: rest) a w := by
  refine wpList_plain hgd fun K hK' => ?_
  obtain ⟨v', w', hrun, h2, h3, h5⟩ := run_append_vals (P := Try.prog) w base 46 o.type 2 (.int .i64 0) 8 Try.underlying46 info2 rfl v n xs hown (some ⟨b, 0, none⟩) 2 c [.int .i64 y, .int .i64 z] (Vals.of_blk h rfl) (by intro u hu; simp at hu; rcases hu with rfl | rfl <;> rfl) (by omega) (by omega) hb
  unfold Oper.wp
  simp [execOp, ho, resolve, invoke, builtin, hs, hx, hrun, Result.andThen]
  exact hK' _ _ (hK v' w' h2 h3)

/-- What stands while all is read. -/
structure SlRel (w1 : World) (g s : Nat) (q : Nat → Nat) (V : Blu) (bx : Nat) (a0 a1 a2 : Value) (W : World) : Prop where
  at_ : BAt W g s q V
  box : Blk W bx 40 [a0, a1, a2]
  be : Below w1.heap.size w1 W
/-- The row that was read. -/
def RowAt (w1 : World) (B : Bins) (M j : Nat) (v : Value) (W : World) : Prop := W.ownsRow w1.heap.size 2 1 v (2 * j) (rowv B M j)
theorem ownsRow_below {w w' : World} {base : Nat} {e : TypeId} {size n : Nat} {v : Value} {xs : List Value} (h : w.ownsRow base e size v n xs) (hb : Below w.heap.size w w') : w'.ownsRow base e size v n xs :=
  (Far.of_below hb nobody).row h (fun _ _ e => e)
section
variable {w1 W : World} {g s bx M j : Nat} {q : Nat → Nat} {V : Blu} {a0 a1 a2 v : Value} {B : Bins}
theorem SlRel.below {W' : World} (h : SlRel w1 g s q V bx a0 a1 a2 W) (hb : Below W.heap.size W W') : SlRel w1 g s q V bx a0 a1 a2 W' := ⟨h.at_.below hb, h.box.below hb, h.be.trans (hb.mono h.be.size)⟩
theorem RowAt.below {W' : World} (h : RowAt w1 B M j v W) (hb : Below W.heap.size W W') : RowAt w1 B M j v W' := ownsRow_below h hb
theorem SlRel.grown {W' : World} (h : SlRel w1 g s q V bx a0 a1 a2 W) (hr : RowAt w1 B M j v W) (hg : W.grownBy W' v.ownBlock) : SlRel w1 g s q V bx a0 a1 a2 W' :=
  ⟨h.at_.grown hr hg, h.box.grown hg (h.box.row_apart hr (by decide)), h.be.grown hg h.be.size (fun i e => (hr.lt i e).1)⟩
theorem RowAt.more {l i : Nat} {v' : Value} {W' : World} (hi : i < M) (h : W'.ownsRow w1.heap.size 2 1 v' (2 * (l * M + i) + 2) (rowv B M (l * M + i) ++ [.int .i64 ((B l i).b : Nat), .int .i64 ((B l i).p : Nat)])) : RowAt w1 B M (l * M + i + 1) v' W' := by
  rw [rowv_snoc hi] at h
  exact h
theorem RowAt.nil : RowAt w1 B M 0 (.slice none 0 0) W := World.ownsRow_nil _ _ _ _
end

theorem put_p {V : Blu} {X : List Int} {z : Int} (i j : Nat) : ((putV V X z).B i j).p = (V.B i j).p := by
  unfold putV
  split
  · show (upd _ _ _ _ i j).p = _
    unfold upd
    split <;> rfl
  · rfl
theorem take_p {V : Blu} {X : List Int} {z : Int} (i j : Nat) : ((takeV V X z).B i j).p = (V.B i j).p := by
  unfold takeV
  split
  · show (upd _ _ _ _ i j).p = _
    unfold upd
    split <;> rfl
  · rfl
theorem touch_b {V : Blu} {X : List Int} {z : Int} (i j : Nat) : ((touchV V X z).B i j).b = (V.B i j).b := by
  unfold touchV
  split
  · show (upd _ _ _ _ i j).b = _
    unfold upd
    split
    · unfold touchB
      (repeat' split) <;> rfl
    · rfl
  · rfl
theorem put_n (V : Blu) (X : List Int) (z : Int) : (putV V X z).n = V.n ∧ (putV V X z).m = V.m := by unfold putV; split <;> exact ⟨rfl, rfl⟩
theorem take_n (V : Blu) (X : List Int) (z : Int) : (takeV V X z).n = V.n ∧ (takeV V X z).m = V.m := by unfold takeV; split <;> exact ⟨rfl, rfl⟩
theorem touch_n (V : Blu) (X : List Int) (z : Int) : (touchV V X z).n = V.n ∧ (touchV V X z).m = V.m := by unfold touchV; split <;> exact ⟨rfl, rfl⟩
/-- What stands behind the act. -/
structure CkRel (w1 : World) (g s : Nat) (q : Nat → Nat) (V : Blu) (bx : Nat) (a0 a1 a2 : Value) (NN M : Nat) (v : Value) (tb : Bool) (V' : Blu) (W : World) : Prop where
  n : V'.n = NN
  m : V'.m = M
  at_ : SlRel w1 g s q V' bx a0 a1 a2 W
  row : RowAt w1 V.B M (NN * M) v W
  b : tb = true → ∀ i j, (V'.B i j).b = (V.B i j).b
  p : tb = false → ∀ i j, (V'.B i j).p = (V.B i j).p
theorem CkRel.mk_ {w1 W W' : World} {g s bx NN M : Nat} {q : Nat → Nat} {V V' : Blu} {a0 a1 a2 v : Value} {tb : Bool} (hV : V'.n = NN ∧ V'.m = M) (h : SlRel w1 g s q V bx a0 a1 a2 W) (hr : RowAt w1 V.B M (NN * M) v W) (hn : V.n = NN) (ha : BAt W' g s q V') (hf : Far (own NN g q) W W') (hb : ¬ own NN g q bx) (hlo : w1.heap.size ≤ g) (hlos : ∀ i, i < NN → w1.heap.size ≤ q i)
    (h1 : tb = true → ∀ i j, (V'.B i j).b = (V.B i j).b) (h2 : tb = false → ∀ i j, (V'.B i j).p = (V.B i j).p) : CkRel w1 g s q V bx a0 a1 a2 NN M v tb V' W' := by
  refine ⟨hV.1, hV.2, ⟨ha, h.box.far hf hb, far_low h.be hf hlo hlos h.be.size⟩, hf.row hr (fun i e e' => ?_), h1, h2⟩
  obtain ⟨⟨c, b1⟩, _, b3, _⟩ := h.at_
  rcases e' with rfl | ⟨l, hl, rfl⟩
  · exact b1.row_apart hr (by decide) e
  · exact (b3 l (hn ▸ hl)).row_apart hr (by decide) e
theorem CkRel.below {w1 W W' : World} {g s bx NN M : Nat} {q : Nat → Nat} {V V' : Blu} {a0 a1 a2 v : Value} {tb : Bool} (h : CkRel w1 g s q V bx a0 a1 a2 NN M v tb V' W) (hb : Below W.heap.size W W') : CkRel w1 g s q V bx a0 a1 a2 NN M v tb V' W' :=
  ⟨h.n, h.m, h.at_.below hb, h.row.below hb, h.b, h.p⟩
theorem RowAt.cells {w1 W : World} {B : Bins} {M NN : Nat} {v : Value} (h : RowAt w1 B M (NN * M) v W) (hp : 1 ≤ NN * M) : ∃ rb rc, v = .slice (some ⟨rb, 0, none⟩) (2 * (NN * M)) rc ∧
    ∀ W', RowAt w1 B M (NN * M) v W' → ∀ l i, l < NN → i < M → W'.cell? ⟨rb, 2 * (l * M + i), none⟩ = some (.int .i64 ((B l i).b : Nat)) ∧ W'.cell? ⟨rb, 2 * (l * M + i) + 1, none⟩ = some (.int .i64 ((B l i).p : Nat)) := by
  rcases h.2 with ⟨_, h0⟩ | ⟨rb, rc, _, rfl, _, _, _, _, _, _⟩
  · omega
  · refine ⟨rb, rc, rfl, fun W' h' l i hl hi => ?_⟩
    have hc := World.ownsRow.cells h' (g := rb) rfl
    have ⟨r1, r2⟩ := rowv_at (B := B) hl hi
    have e1 := hc _ _ r1
    have e2 := hc _ _ r2
    rw [Addr.add_at, Nat.zero_add] at e1 e2
    exact ⟨e1, e2⟩
theorem bin_at {g s l k : Nat} {q : Nat → Nat} {V : Blu} {w : World} (h : BAt w g s q V) (hl : l < V.n) (hk : k < V.m) :
    Calls Try.prog 24 #[.pointer (some ⟨g, 0, none⟩), .int .i64 (l : Nat), .int .i64 (k : Nat)] w fun e w' => e = .returned (.tuple #[.int .i64 ((V.B l k).b : Nat), .int .i64 ((V.B l k).p : Nat)]) ∧ Below w.heap.size w w' := by
  have := bin_ g s q V (l : Nat) (k : Nat) w h
  rw [show binV V (l : Nat) (k : Nat) = V.B l k by unfold binV; rw [hasV_iff.2 ⟨l, k, rfl, rfl, hl, hk⟩]; rfl] at this
  exact this
set_option maxRecDepth 100000 in
set_option maxHeartbeats 2000000 in
theorem still_far (x0 x1 x2 x3 x4 x5 : Int) (A : Option Addr) (n c : Nat) (K : Nat → Int) (P : Nat → Option Addr) (L C : Nat → Nat) (X : Nat → List Int) (N : Nat → Int) (w : World) (hn : n ≤ 9223372036854775807) (h : ActsIn w A n K P L C X N) (hf : fewB n L = false) :
    Calls Try.prog 5 #[.agg #[.int .i64 x0, .int .i64 x1, .int .i64 x2, .int .i64 x3, .int .i64 x4, .int .i64 x5], .slice A n c] w fun e w' => e = .returned (.bool true) ∧ Below w.heap.size w w' := by
  have B0 : Hid (Below w.heap.size w (w.alloc (setOf x0 x1 x2 x3 x4 x5))) := (Below.refl _ w).alloc (Nat.le_refl _) _
  have HA := Lib.hid h
  clear h
  go_enter Try.func5, Try.ntmps5
  go_wp2_with fail
  refine (awake_any _).mono ?_
  rintro e w1 ⟨rfl, hb1⟩
  have W1 : Hid (Below w.heap.size w w1) := B0.out.trans (hb1.mono B0.out.size)
  clear hb1 B0
  go_wp2_with fail
  refine (few_ A n c K P L C X N w1 hn (HA.out.below W1.out)).mono ?_
  rintro e w2 ⟨rfl, rfl⟩
  rw [hf]
  go_wp2_with fail
  refine (awake_any _).mono ?_
  rintro e w2 ⟨rfl, hb2⟩
  have W2 : Hid (Below w.heap.size w w2) := W1.out.trans (hb2.mono W1.out.size)
  clear hb2 W1
  go_wp2_with fail
  go_ret
  exact ⟨rfl, W2.out⟩
set_option maxRecDepth 100000 in
set_option maxHeartbeats 8000000 in
theorem still_near (x0 x1 x2 x3 x4 x5 : Int) (A : Option Addr) (n c : Nat) (K : Nat → Int) (P : Nat → Option Addr) (L C : Nat → Nat) (X : Nat → List Int) (N : Nat → Int) (w : World) (_hs : SetOk x0 x1 x2 x3 x4 x5) (h : ActsIn w A n K P L C X N) (hf : fewB n L = true) :
    Calls Try.prog 5 #[.agg #[.int .i64 x0, .int .i64 x1, .int .i64 x2, .int .i64 x3, .int .i64 x4, .int .i64 x5], .slice A n c] w fun e w' => e = .returned (.bool true) ∧ Below w.heap.size w w' := by
  have B0 : Hid (Below w.heap.size w (w.alloc (setOf x0 x1 x2 x3 x4 x5))) := (Below.refl _ w).alloc (Nat.le_refl _) _
  have K0 : Hid (Blk (w.alloc (setOf x0 x1 x2 x3 x4 x5)) w.heap.size 23 [.int .i64 x0, .int .i64 x1, .int .i64 x2, .int .i64 x3, .int .i64 x4, .int .i64 x5]) := Blk.new w 23 _
  have HA := Lib.hid h
  obtain ⟨hn, hL⟩ := few_yes hf
  have HL := Lib.hid hL
  clear h hL
  go_enter Try.func5, Try.ntmps5
  go_wp2_with fail
  refine (awake_any _).mono ?_
  rintro e w1 ⟨rfl, hb1⟩
  have W1 : Hid (Below w.heap.size w w1) := B0.out.trans (hb1.mono B0.out.size)
  have K1 := Lib.hid (K0.out.below (hb1.mono (Nat.le_refl _)))
  clear hb1 B0 K0
  go_wp2_with fail
  refine (few_ A n c K P L C X N w1 (by omega) (HA.out.below W1.out)).mono ?_
  rintro e w2 ⟨rfl, rfl⟩
  rw [hf]
  clear hf
  have k0 := K1.out.cell 0
  have k1 := K1.out.cell 1
  have k2 := K1.out.cell 2
  have k3 := K1.out.cell 3
  have k4 := K1.out.cell 4
  have k5 := K1.out.cell 5
  by_cases hg : Good x0 x1 x4 x5 x2 x3
  · have HN := Lib.hid (new_good x0 x1 x4 x5 x2 x3 w1 hg)
    obtain ⟨h1, h2, h3, h4, h5, h6, h7⟩ := hg
    clear h5 h6 h7
    obtain ⟨NN, rfl⟩ : ∃ k : Nat, x0 = k := ⟨x0.toNat, by omega⟩
    obtain ⟨M, rfl⟩ : ∃ k : Nat, x1 = k := ⟨x1.toNat, by omega⟩
    simp only [Int.toNat_natCast] at HN
    go_upto_region 4 with (go_at_call 9; (with_reducible refine HN.out.mono ?_); rintro e w3 ⟨g, s, q, rfl, h1, h2, h3⟩; have H1 := Lib.hid h1; have A1 := Lib.hid h2; have B1 := Lib.hid h3; clear h1 h2 h3)
    have HA1 := Lib.hid (HA.out.below W1.out)
    have HB : Hid (w1.heap.size ≤ g ∧ ∀ i, i < NN → w1.heap.size ≤ q i) := ⟨A1.out.1, A1.out.2.2⟩
    have S3 : Hid (∃ V : Blu, V.n = NN ∧ V.m = M ∧ BAt w3 g s q V ∧ Below w1.heap.size w1 w3) := ⟨_, rfl, rfl, H1.out, B1.out⟩
    have hbxs : w.heap.size < w1.heap.size := K1.out.lt
    clear A1 H1 B1 HN HA k0 k1 k2 k3 k4 k5
    go_wp2_with fail
    go_loopw [7, 8, 9, 10, 11, 12, 13, 14, 15, 16, 17, 18, 19, 50] (fun _ _ _ _ _ _ _ _ _ _ _ _ _ i w' => ∃ k : Nat, k ≤ n ∧ i = .int .i64 k ∧ ∃ V : Blu, V.n = NN ∧ V.m = M ∧ BAt w' g s q V ∧ Below w1.heap.size w1 w') (fun _ _ _ _ _ _ _ _ _ _ _ _ _ i _ => n - (intOf i).toNat)
    case atStart => exact ⟨0, by omega, rfl, S3.out⟩
    case round =>
      clear S3
      obtain ⟨k, hk, rfl, V, hVn, hVm, hr1, hr2⟩ := hrel
      have S4 := Lib.hid hr1
      have W4 := Lib.hid hr2
      clear hr1 hr2
      by_cases hlt : k < n
      · have hd1 : decide ((k : Int) < (n : Int)) = true := by simp; omega
        obtain ⟨a, rfl, ha⟩ := HA1.out k hlt
        have hLk := HL.out k hlt
        have Q4 := Lib.hid (ha.below W4.out)
        have I4 := Lib.hid ha.ints
        clear ha
        generalize K k = K0 at *
        generalize P k = P0 at *
        generalize L k = L0 at *
        generalize C k = C0 at *
        generalize X k = X0 at *
        generalize N k = N0 at *
        have q0 := Q4.out.c0
        have q1 := Q4.out.c1
        have q2 := Q4.out.c2
        go_upto_region 10 with fail
        have Y5 : Hid (Below wr.heap.size wr (wr.alloc (.cells #[.int .u8 K0, .slice P0 L0 C0, .int .i64 N0] 40))) := (Below.refl _ wr).alloc (Nat.le_refl _) _
        have S5 : Hid (SlRel w1 g s q V wr.heap.size (.int .u8 K0) (.slice P0 L0 C0) (.int .i64 N0) (wr.alloc (.cells #[.int .u8 K0, .slice P0 L0 C0, .int .i64 N0] 40))) := ⟨S4.out.below Y5.out, Blk.new wr 40 _, W4.out.trans (Y5.out.mono W4.out.size)⟩
        have HNB : Hid (¬ own NN g q wr.heap.size) := own_not S4.out.lt.1 (fun i hi => S4.out.lt.2.2 i (hVn ▸ hi))
        have hk0 := Q4.out.k0
        have hk1 := Q4.out.k1
        clear q0 q1 q2 S4 W4 Q4 Y5
        generalize wr.heap.size = bx at *
        generalize wr.alloc (.cells #[.int .u8 K0, .slice P0 L0 C0, .int .i64 N0] 40) = w5 at *
        have b0 := (K1.out.below S5.out.be).cell 0
        go_upto_region 12 with fail
        clear b0
        have hM64 : M ≤ 64 := by omega
        have hN4 : NN ≤ 4 := by omega
        go_loopw [9, 10, 11, 12, 13, 59] (fun v _ _ _ _ i w' => ∃ l : Nat, l ≤ NN ∧ i = .int .i64 l ∧ SlRel w1 g s q V bx (.int .u8 K0) (.slice P0 L0 C0) (.int .i64 N0) w' ∧ RowAt w1 V.B M (l * M) v w') (fun _ _ _ _ _ i _ => NN - (intOf i).toNat)
        case atStart => exact ⟨0, by omega, rfl, S5.out, by rw [Nat.zero_mul]; exact RowAt.nil⟩
        case round =>
          clear S5
          obtain ⟨l, hl, rfl, hr1, hr2⟩ := hrel
          have S6 := Lib.hid hr1
          have R6 := Lib.hid hr2
          clear hr1 hr2
          by_cases hlt2 : l < NN
          · have hd2 : decide ((l : Int) < (NN : Int)) = true := by simp; omega
            have b1 := (K1.out.below S6.out.be).cell 1
            go_upto_region 15 with fail
            clear b1
            go_loopw [9, 11, 12, 13, 64] (fun v _ _ _ i w' => ∃ j : Nat, j ≤ M ∧ i = .int .i64 j ∧ SlRel w1 g s q V bx (.int .u8 K0) (.slice P0 L0 C0) (.int .i64 N0) w' ∧ RowAt w1 V.B M (l * M + j) v w') (fun _ _ _ _ i _ => M - (intOf i).toNat)
            case atStart => exact ⟨0, by omega, rfl, S6.out, R6.out⟩
            case round =>
              clear S6 R6
              obtain ⟨j, hj, rfl, hr1, hr2⟩ := hrel
              have S7 := Lib.hid hr1
              have R7 := Lib.hid hr2
              clear hr1 hr2
              by_cases hlt3 : j < M
              · have hd3 : decide ((j : Int) < (M : Int)) = true := by simp; omega
                have hcnt : 2 * (l * M + j) ≤ 1000 := by
                  have := Nat.mul_le_mul (show l ≤ 4 by omega) hM64
                  omega
                have HBIN := Lib.hid (bin_at S7.out.at_ (l := l) (k := j) (by omega) (by omega))
                have HMORE := Lib.hid (fun (v' : Value) (W' : World) h => RowAt.more (w1 := w1) (B := V.B) (M := M) (l := l) (i := j) (v' := v') (W' := W') hlt3 h)
                generalize hcn : l * M + j = cnt at *
                generalize (V.B l j).b = bb at *
                generalize (V.B l j).p = pp at *
                go_upto_region 18 with (go_at_call 24; (with_reducible refine HBIN.out.mono ?_); rintro e w7 ⟨rfl, hb7⟩; have S8 := Lib.hid (S7.out.below hb7); have R8 := Lib.hid (R7.out.below hb7); clear hb7)
                have Y8 : Hid (Below w7.heap.size w7 (w7.alloc (.cells #[.int .i64 (bb : Nat), .int .i64 (pp : Nat)] 2))) := (Below.refl _ w7).alloc (Nat.le_refl _) _
                have S9 := Lib.hid (S8.out.below Y8.out)
                have R9 := Lib.hid (R8.out.below Y8.out)
                have N9 : Hid (Blk (w7.alloc (.cells #[.int .i64 (bb : Nat), .int .i64 (pp : Nat)] 2)) w7.heap.size 2 [.int .i64 (bb : Nat), .int .i64 (pp : Nat)]) := Blk.new w7 2 _
                clear S7 R7 S8 R8 Y8 HBIN
                go_wp2_with (at_builtin; refine wpList_two rfl (.tmp 74) (.tmp 77) rfl w1.heap.size (2 * cnt) _ _ rfl (by exact R9.out) w7.heap.size 2 _ _ rfl (by exact N9.out) (by omega) (by exact S9.out.be.size) ?_; intro v' w8 O8 G8; have S10 := Lib.hid (S9.out.grown R9.out G8.out); have R10 := Lib.hid (HMORE.out v' w8 O8.out); clear S9 R9 N9 O8 G8)
                go_roundw
                case rel => exact ⟨j + 1, by omega, by go_num, S10.out, by rw [← Nat.add_assoc, hcn]; exact R10.out⟩
                case measure => simp [intOf]; omega
              · obtain rfl : j = M := by omega
                have hd3 : decide ((j : Int) < (j : Int)) = false := by simp
                go_wp2_with fail
                go_roundw
                case rel => exact ⟨l + 1, by omega, by go_num, S7.out, by rw [Nat.add_mul, Nat.one_mul]; exact R7.out⟩
                case measure => simp [intOf]; omega
          · obtain rfl : l = NN := by omega
            have hd2 : decide ((l : Int) < (l : Int)) = false := by simp
            have s0 := S6.out.box.cell 0
            have s1 := S6.out.box.cell 1
            have s2 := S6.out.box.cell 2
            have HP1 := Lib.hid (put_ g s q V P0 L0 C0 X0 N0 wr S6.out.at_ (I4.out.below S6.out.be) (by omega) (Apart.below I4.out HB.out.1 (fun i hi => HB.out.2 i (hVn ▸ hi))))
            have HP2 := Lib.hid (take_ g s q V P0 L0 C0 X0 N0 wr S6.out.at_ (I4.out.below S6.out.be) (by omega) (Apart.below I4.out HB.out.1 (fun i hi => HB.out.2 i (hVn ▸ hi))))
            have HP3 := Lib.hid (bTouch_ g s q V P0 L0 C0 X0 N0 wr S6.out.at_ (I4.out.below S6.out.be) (by omega) (Apart.below I4.out HB.out.1 (fun i hi => HB.out.2 i (hVn ▸ hi))))
            go_upto_region 22 with fail
            obtain ⟨r, hr⟩ : ∃ r, K0 % 3 = r := ⟨_, rfl⟩
            rw [hr]
            obtain ⟨tb, htb⟩ : ∃ tb, (r == 2) = tb := ⟨_, rfl⟩
            rw [htb]
            have HTB := Lib.hid htb
            have hr3 : r = 0 ∨ r = 1 ∨ r = 2 := by omega
            clear htb
            go_upto_block 6 with fail
            go_cut [87] from 88 to 109 (fun _ wx => ∃ V' : Blu, CkRel w1 g s q V bx (.int .u8 K0) (.slice P0 L0 C0) (.int .i64 N0) l M u9 tb V' wx)
            case first =>
              rcases hr3 with rfl | rfl | rfl
              · go_wp2_with (go_at_call 11; (with_reducible refine HP1.out.mono ?_); rintro e w8 ⟨rfl, h8, f8⟩)
                go_meet
                case rel => exact ⟨_, CkRel.mk_ (hVn ▸ hVm ▸ put_n V X0 N0) S6.out R6.out hVn h8 (hVn ▸ f8) HNB.out HB.out.1 HB.out.2 (fun h => by rw [← HTB.out] at h; cases h) (fun _ i j => put_p i j)⟩
              · go_wp2_with (go_at_call 16; (with_reducible refine HP2.out.mono ?_); rintro e w8 ⟨rfl, h8, f8⟩)
                go_meet
                case rel => exact ⟨_, CkRel.mk_ (hVn ▸ hVm ▸ take_n V X0 N0) S6.out R6.out hVn h8 (hVn ▸ f8) HNB.out HB.out.1 HB.out.2 (fun h => by rw [← HTB.out] at h; cases h) (fun _ i j => take_p i j)⟩
              · go_wp2_with (go_at_call 17; (with_reducible refine HP3.out.mono ?_); rintro e w8 ⟨rfl, h8, f8⟩)
                go_meet
                case rel => exact ⟨_, CkRel.mk_ (hVn ▸ hVm ▸ touch_n V X0 N0) S6.out R6.out hVn h8 (hVn ▸ f8) HNB.out HB.out.1 HB.out.2 (fun _ i j => touch_b i j) (fun h => by rw [← HTB.out] at h; cases h)⟩
            case rest =>
              obtain ⟨V', hck⟩ := hcut
              have C9 := Lib.hid hck
              clear hck HP1 HP2 HP3 S6 R6 s0 s1 s2
              have hpos : 1 ≤ l * M := Nat.mul_le_mul (show 1 ≤ l by omega) (show 1 ≤ M by omega)
              obtain ⟨rb, rc, rfl, hcel⟩ := C9.out.row.cells hpos
              have HCEL := Lib.hid hcel
              clear hcel
              have hJ : l * M ≤ 256 := Nat.mul_le_mul hN4 hM64
              have b0 := (K1.out.below C9.out.at_.be).cell 0
              go_upto_region 29 with fail
              clear b0
              go_loopw [15, 16, 17, 18, 19, 112] (fun _ _ _ _ _ i w' => ∃ l' : Nat, l' ≤ l ∧ i = .int .i64 l' ∧ CkRel w1 g s q V bx (.int .u8 K0) (.slice P0 L0 C0) (.int .i64 N0) l M (.slice (some ⟨rb, 0, none⟩) (2 * (l * M)) rc) tb V' w') (fun _ _ _ _ _ i _ => l - (intOf i).toNat)
              case atStart => exact ⟨0, by omega, rfl, C9.out⟩
              case round =>
                clear C9
                obtain ⟨l', hl', rfl, hr⟩ := hrel
                have C10 := Lib.hid hr
                clear hr
                by_cases hlt2 : l' < l
                · have hd2 : decide ((l' : Int) < (l : Int)) = true := by simp; omega
                  have b1 := (K1.out.below C10.out.at_.be).cell 1
                  go_upto_region 32 with fail
                  clear b1
                  go_loopw [16, 17, 18, 19, 117] (fun _ _ _ _ i w' => ∃ j : Nat, j ≤ M ∧ i = .int .i64 j ∧ CkRel w1 g s q V bx (.int .u8 K0) (.slice P0 L0 C0) (.int .i64 N0) l M (.slice (some ⟨rb, 0, none⟩) (2 * (l * M)) rc) tb V' w') (fun _ _ _ _ i _ => M - (intOf i).toNat)
                  case atStart => exact ⟨0, by omega, rfl, C10.out⟩
                  case round =>
                    clear C10
                    obtain ⟨j, hj, rfl, hr⟩ := hrel
                    have C11 := Lib.hid hr
                    clear hr
                    by_cases hlt3 : j < M
                    · have hd3 : decide ((j : Int) < (M : Int)) = true := by simp; omega
                      have HBIN := Lib.hid (bin_at C11.out.at_.at_ (l := l') (k := j) (by rw [C11.out.n]; omega) (by rw [C11.out.m]; omega))
                      have hix : l' * M + j < l * M := by
                        have := Nat.mul_le_mul_right M (show l' + 1 ≤ l by omega)
                        rw [Nat.add_mul, Nat.one_mul] at this
                        omega
                      have HCE := Lib.hid (fun W' h' => HCEL.out W' h' l' j hlt2 hlt3)
                      have hpp := ((C11.out.at_.at_.ok.B) l' j).p
                      have hlm : (l' : Int) * (M : Int) = ((l' * M : Nat) : Int) := by simp
                      have HB2 := Lib.hid (fun h => C11.out.b h l' j)
                      have HP2 := Lib.hid (fun h => C11.out.p h l' j)
                      generalize l' * M = lm at *
                      generalize (V.B l' j).b = bb at *
                      generalize (V.B l' j).p = pp at *
                      generalize (V'.B l' j).b = bb' at *
                      generalize (V'.B l' j).p = pp' at *
                      generalize hJe : l * M = J at *
                      go_upto_region 35 with (go_at_call 24; (with_reducible refine HBIN.out.mono ?_); rintro e w12 ⟨rfl, hb12⟩; have C12 := Lib.hid (C11.out.below hb12); clear hb12)
                      have b1 := (K1.out.below C12.out.at_.be).cell 1
                      obtain ⟨e1, e2⟩ := HCE.out w12 (by have := C12.out.row; rw [hJe] at this; exact this)
                      go_upto_region 36 with fail
                      clear b1
                      rcases tb with _ | _
                      · have hpe := HP2.out rfl
                        subst hpe
                        go_wp2_with fail
                        go_roundw
                        case rel => exact ⟨j + 1, by omega, by go_num, C12.out⟩
                        case measure => simp [intOf]; omega
                      · have hbe := HB2.out rfl
                        subst hbe
                        go_wp2_with fail
                        go_roundw
                        case rel => exact ⟨j + 1, by omega, by go_num, C12.out⟩
                        case measure => simp [intOf]; omega
                    · obtain rfl : j = M := by omega
                      have hd3 : decide ((j : Int) < (j : Int)) = false := by simp
                      go_wp2_with fail
                      go_roundw
                      case rel => exact ⟨l' + 1, by omega, by go_num, C11.out⟩
                      case measure => simp [intOf]; omega
                · obtain rfl : l' = l := by omega
                  have hd2 : decide ((l' : Int) < (l' : Int)) = false := by simp
                  go_wp2_with fail
                  go_roundw
                  case rel => exact ⟨k + 1, by omega, by go_num, V', C10.out.n, C10.out.m, C10.out.at_.at_, C10.out.at_.be⟩
                  case measure => simp [intOf]; omega
      · obtain rfl : k = n := by omega
        have hd1 : decide ((k : Int) < (k : Int)) = false := by simp
        have WE : Hid (Below w.heap.size w wr) := W1.out.trans (W4.out.mono W1.out.size)
        go_wp2_with fail
        go_ret
        exact ⟨rfl, WE.out⟩
  · have HN := Lib.hid (new_bad x0 x1 x4 x5 x2 x3 w1 hg)
    clear hg
    go_wp2_with (go_at_call 9; (with_reducible refine HN.out.mono ?_); rintro e w3 ⟨rfl, rfl⟩)
    go_ret
    exact ⟨rfl, W1.out⟩
end Go.Proofs.Ytedpikpknlaggaa
