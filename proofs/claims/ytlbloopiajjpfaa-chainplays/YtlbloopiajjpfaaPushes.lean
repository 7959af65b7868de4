/- The contract of the document's Push, where a place is pushed. Conditions: those of each theorem. -/
import Derived.Test.YtlbloopiajjpfaaRefPush
namespace Go.Proofs.Ytlbloopiajjpfaa
open Go.RowKit

/-- append of places onto an own row, as one step of a region that draws its order. -/
theorem step_nums {ops : Array Oper} {o : Oper} {a : Act} {w : World} {K : Act → World → Prop} {Q : Exit → Act → World → Prop} {E : Prop} (hgd : o.guard = none) (s x : Operand)
    (ho : o.op = .call { callee := .builtin .append, args := #[s, x], argTypes := #[60, 60] })
    (base : Nat) (v : Value) (n : Nat) (xs : List Nat) (hs : a.eval s = v) (hown : w.ownsRow base 3 1 v n (nums xs))
    (A : Option Addr) (m c : Nat) (bs : List Nat) (hx : a.eval x = .slice A m c) (h : Vals w A m (nums bs)) (k : Nat) (hk : n + m = k) (zs : List Nat) (hz : xs ++ bs = zs) (hn : k ≤ 1000000) (hb : base ≤ w.heap.size)
    (hK : ∀ A' c' w', Hid (w'.ownsRow base 3 1 (.slice A' k c') k (nums zs)) → Hid (w.grownBy w' v.ownBlock) → K (a.put o.dst (.slice A' k c')) w') : if Region.wanted o (yielded ops a.tmps) = true then Oper.wp Try.prog o a w K Q else E := by
  subst hk hz
  have hw : Region.wanted o (yielded ops a.tmps) = true := by simp [Region.wanted, hgd]
  rw [if_pos hw]
  obtain ⟨v', w', hrun, h2, h3, _⟩ := run_append_vals (P := Try.prog) w base 60 o.type 3 (.int .i64 0) 8 Try.underlying60 info3 rfl v n (nums xs) hown A m c (nums bs) h (nums_one bs) hn (by omega) hb
  rw [← nums_app] at h2
  obtain ⟨A', c', rfl, _⟩ := Vals.of_row h2
  unfold Oper.wp
  simp [execOp, ho, resolve, invoke, builtin, hs, hx, hrun, Result.andThen]
  exact hK A' c' w' h2 h3
theorem row_of_own {b : Nat → Prop} {base c k : Nat} {w : World} {A : Option Addr} {xs : List Nat} (h : w.ownsRow base 3 1 (.slice A k c) k (nums xs)) (hk : xs.length = k) (hb : ∀ k, base ≤ k → b k) : RowAt b w A c xs := by
  obtain ⟨A', c', e, h1, h2, h3, h4, _⟩ := Vals.of_row h
  cases e
  subst hk
  refine ⟨h3, h1, h2, fun ad e => ?_⟩
  subst e
  exact ⟨hb _ (h.lt ad.block rfl).1, (h.lt ad.block rfl).2⟩
/-- What stands where the two rows are made: an empty one, and one of the place p. -/
def eRow : Obj := Obj.cells #[] 3
def pRow (p : Nat) : Obj := Obj.cells #[Value.int IntKind.i64 (p : Nat)] 3
theorem own_b (w : World) : (w.alloc (Obj.cells #[] 3)).drew.ownsRow w.heap.size 3 1 (.slice (some ⟨w.heap.size, 0, none⟩) 0 0) 0 (nums []) :=
  (World.ownsRow_lit (base := w.heap.size) (e := 3) (size := 1) w #[] 0 (Nat.le_refl _) (by simp) (by simp)).drew
theorem own_d (w : World) (o : Obj) : ((w.alloc (Obj.cells #[] 3)).alloc o).drew.ownsRow w.heap.size 3 1 (.slice (some ⟨w.heap.size, 0, none⟩) 0 0) 0 (nums []) :=
  ((World.ownsRow_lit (base := w.heap.size) (e := 3) (size := 1) w #[] 0 (Nat.le_refl _) (by simp) (by simp)).alloc o).drew
theorem own_e (w : World) (o : Obj) : ((w.alloc o).alloc (Obj.cells #[] 3)).drew.ownsRow w.heap.size 3 1 (.slice (some ⟨w.heap.size + 1, 0, none⟩) 0 0) 0 (nums []) := by
  have hs : (w.alloc o).heap.size = w.heap.size + 1 := by simp
  have := (World.ownsRow_lit (base := w.heap.size) (e := 3) (size := 1) (w.alloc o) #[] 0 (by rw [hs]; omega) (by simp) (by simp)).drew
  rw [hs] at this
  exact this
theorem below_one (w : World) (o : Obj) : Below w.heap.size w (w.alloc o).drew := ((Below.refl _ _).alloc (Nat.le_refl _) _).drew
theorem below_twod (w : World) (o o' : Obj) : Below w.heap.size w ((w.alloc o).alloc o').drew := (below_two w o o').drew
theorem blk_d (w : World) (p : Nat) : Blk ((w.alloc (Obj.cells #[] 3)).alloc (Obj.cells #[Value.int IntKind.i64 (p : Nat)] 3)).drew (w.heap.size + 1) 3 (nums [p]) := by
  have hs : (w.alloc (Obj.cells #[] 3)).heap.size = w.heap.size + 1 := by simp
  have := (Blk.new (w.alloc (Obj.cells #[] 3)) 3 (nums [p])).drew
  rw [hs] at this
  exact this
theorem blk_e (w : World) (p : Nat) : Blk ((w.alloc (Obj.cells #[Value.int IntKind.i64 (p : Nat)] 3)).alloc (Obj.cells #[] 3)).drew w.heap.size 3 (nums [p]) := ((Blk.new w 3 (nums [p])).alloc _).drew
theorem below_app {w W w5 : World} {k : Nat} (hb : Below w.heap.size w W) (hg : W.grownBy w5 (some k)) (hk : w.heap.size ≤ k) : Below w.heap.size w w5 := hb.grown hg hb.size (fun j e => by cases e; exact hk)
theorem below_own {w W w6 : World} {v : Value} {n : Nat} {xs : List Value} (hb : Below w.heap.size w W) (hg : W.grownBy w6 v.ownBlock) (ho : W.ownsRow w.heap.size 3 1 v n xs) : Below w.heap.size w w6 := hb.grown hg hb.size (fun k e => (ho.lt k e).1)
theorem keep4 {w w3 W : World} {ad : Addr} {u v z : Value} {l : Nat} (h0 : w3.cell? ⟨w.heap.size, 0, none⟩ = some u) (h1 : w3.cell? ⟨w.heap.size, 1, none⟩ = some v) (h2 : w3.cell? (ad.add l) = some z) (hb : Below w3.heap.size w3 W) :
    W.cell? ⟨w.heap.size, 0, none⟩ = some u ∧ W.cell? ⟨w.heap.size, 1, none⟩ = some v ∧ W.cell? (ad.add l) = some z :=
  ⟨(hb.cell (World.block_lt_of_cell? w3 _ h0)).trans h0, (hb.cell (World.block_lt_of_cell? w3 _ h1)).trans h1, (hb.cell (World.block_lt_of_cell? w3 _ h2)).trans h2⟩
theorem keep5 {w w3 W : World} {ad : Addr} {u v z x y : Value} {l : Nat} (h0 : w3.cell? ⟨w.heap.size, 0, none⟩ = some u) (h1 : w3.cell? ⟨w.heap.size, 1, none⟩ = some v) (h2 : w3.cell? (ad.add l) = some z) (hl : ad.block < w.heap.size) (hb : Below w3.heap.size w3 W) :
    ((W.setCell ⟨w.heap.size + 1, 0, none⟩ x).setCell ⟨w.heap.size + 1, 1, none⟩ y).cell? ⟨w.heap.size, 0, none⟩ = some u ∧ ((W.setCell ⟨w.heap.size + 1, 0, none⟩ x).setCell ⟨w.heap.size + 1, 1, none⟩ y).cell? ⟨w.heap.size, 1, none⟩ = some v ∧
    ((W.setCell ⟨w.heap.size + 1, 0, none⟩ x).setCell ⟨w.heap.size + 1, 1, none⟩ y).cell? (ad.add l) = some z := by
  obtain ⟨k0, k1, k2⟩ := keep4 h0 h1 h2 hb
  have hf : Far (fun k => k = w.heap.size + 1) W ((W.setCell ⟨w.heap.size + 1, 0, none⟩ x).setCell ⟨w.heap.size + 1, 1, none⟩ y) := ((Far.refl (fun k => k = w.heap.size + 1) _).set_ (p := ⟨w.heap.size + 1, 0, none⟩) (fun _ => rfl) _).set_ (p := ⟨w.heap.size + 1, 1, none⟩) (fun _ => rfl) _
  have hc : ∀ (a : Addr) (t : Value), W.cell? a = some t → a.block ≠ w.heap.size + 1 → ((W.setCell ⟨w.heap.size + 1, 0, none⟩ x).setCell ⟨w.heap.size + 1, 1, none⟩ y).cell? a = some t := fun a t ha hn =>
    (World.cell?_of_block (hf.block _ (World.block_lt_of_cell? W _ ha) hn)).trans ha
  exact ⟨hc _ _ k0 (by simp), hc _ _ k1 (by simp), hc _ _ k2 (by rw [Addr.block_add]; omega)⟩
set_option maxHeartbeats 4000000 in
theorem refPush3_ (b : Nat → Prop) (n m c l p : Nat) (A : Option Addr) (L : List (List Nat)) (xs : List Nat) (w : World) (h : RefAt b w A L) (hn : L.length = n) (hnn : n ≤ 129) (hsh : Short L) (hl : L[l]? = some xs) (hp : p < m) (he : lineOf L (p : Int) = none) (hbw : ∀ k, w.heap.size ≤ k → b k) :
    Calls Try.prog 12 #[.agg #[.slice A n c, .int .i64 (m : Nat)], .int .i64 (l : Nat), .int .i64 (p : Nat)] w (RefPushed b n m L l p w) := by
  have hln : l < n := by have := (List.getElem?_eq_some_iff.1 hl).1; omega
  have HB := Lib.hid (boxed_new w A n m c)
  have HL : Hid (Calls Try.prog 24 #[.agg #[.slice A n c, .int .i64 (m : Nat)], .int .i64 (p : Nat)] ((w.alloc (Obj.cells #[Value.slice A n c, Value.int IntKind.i64 (m : Nat)] 32)).alloc (Obj.cells #[Value.slice none 0 0, Value.int IntKind.i64 0] 32)) fun e w' => e = .returned (.int .i64 (toInt (lineOf L p))) ∧ Below (((w.alloc (Obj.cells #[Value.slice A n c, Value.int IntKind.i64 (m : Nat)] 32)).alloc (Obj.cells #[Value.slice none 0 0, Value.int IntKind.i64 0] 32))).heap.size ((w.alloc (Obj.cells #[Value.slice A n c, Value.int IntKind.i64 (m : Nat)] 32)).alloc (Obj.cells #[Value.slice none 0 0, Value.int IntKind.i64 0] 32)) w') := refLine_ b n m c A p L _ (h.below (below_two _ _ _)) hn hnn hsh
  rw [he] at HL
  have hti : toInt none = -1 := rfl
  rw [hti] at HL
  have d1 : decide ((l : Int) < 0) = false := by simp
  have d2 : decide ((n : Int) ≤ (l : Int)) = false := by simp; omega
  have d2' : decide (n ≤ l) = false := by simp; omega
  have d3 : decide ((p : Int) < 0) = false := by simp
  have d4 : decide ((m : Int) ≤ (p : Int)) = false := by simp; omega
  have d4' : decide (m ≤ p) = false := by simp; omega
  have hrow : ∃ (ad : Addr) (B : Option Addr) (c2 : Nat), A = some ad ∧ w.cell? (ad.add l) = some (.slice B xs.length c2) ∧ RowAt b w B c2 xs := h.row hl
  obtain ⟨ad, B, c2, rfl, hcl, hrw⟩ := hrow
  have hadl : ad.block < w.heap.size := by have := World.block_lt_of_cell? w _ hcl; rwa [Addr.block_add] at this
  have hxl := hsh l xs hl
  have hr0 : rowOf L (l : Int) = some xs := rowOf_nat hl
  have hcan : canPush m L (l : Int) (p : Int) = true := by simp [canPush, hr0, he]; omega
  have hpo : pushOf m L (l : Int) (p : Int) = L.set l (xs ++ [p]) := by simp [pushOf, hcan, hr0]
  have HCAN := Lib.hid hcan
  have HPO := Lib.hid hpo
  have H0 := Lib.hid h
  have HRW := Lib.hid hrw
  have HCL := Lib.hid hcl
  have HN := Lib.hid hn
  clear h hn he hti hsh hrw hcl hr0 hcan hpo hl
  generalize hr : xs.length = r at *
  have HR := Lib.hid hr
  clear hr
  go_enter Try.func12, Try.ntmps12
  go_wp2_with (go_at_call 24; (with_reducible refine HL.out.mono ?_); rintro e w3 ⟨rfl, hb3⟩; have hbx := HB.out.below hb3; have HX := Lib.hid hbx; clear hbx hb3)
  have q0 : w3.cell? ⟨w.heap.size, 0, none⟩ = some (.slice (some ad) n c) := HX.out.2.1.cell 0
  have q1 : w3.cell? ⟨w.heap.size, 1, none⟩ = some (.int .i64 (m : Nat)) := HX.out.2.1.cell 1
  have qc : w3.cell? (ad.add l) = some (.slice B r c2) := (HX.out.1.cell (World.block_lt_of_cell? w _ HCL.out)).trans HCL.out
  have HV3 : Hid (Vals w3 B r (nums xs)) := by have := (HRW.out.1.below HX.out.1); rw [HR.out] at this; exact this
  have hs4 : w.heap.size + 1 < w3.heap.size := HX.out.2.2.lt
  have HS0 := Lib.hid (H0.out.weak (b' := fun k => b k ∧ k ≠ w.heap.size + 1) (fun k hk h => ⟨h, by omega⟩))
  have HBW := Lib.hid hbw
  have HX1 : Hid (Below w.heap.size w w3) := HX.out.1
  have hs3 := HX1.out.size
  have OB := Lib.hid (own_b w3)
  have OD := Lib.hid (own_d w3 (Obj.cells #[Value.int IntKind.i64 (p : Nat)] 3))
  have OE := Lib.hid (own_e w3 (Obj.cells #[Value.int IntKind.i64 (p : Nat)] 3))
  have VB := Lib.hid (HV3.out.below (below_one w3 (Obj.cells #[] 3)))
  have VD := Lib.hid (HV3.out.below (below_twod w3 (Obj.cells #[] 3) (Obj.cells #[Value.int IntKind.i64 (p : Nat)] 3)))
  have VE := Lib.hid (HV3.out.below (below_twod w3 (Obj.cells #[Value.int IntKind.i64 (p : Nat)] 3) (Obj.cells #[] 3)))
  have PD := Lib.hid (blk_d w3 p)
  have PE := Lib.hid (blk_e w3 p)
  clear HL HB
  go_region_held3 (fun W => W.cell? ⟨w.heap.size, 0, none⟩ = some (.slice (some ad) n c) ∧ W.cell? ⟨w.heap.size, 1, none⟩ = some (.int .i64 (m : Nat)) ∧ W.cell? (ad.add l) = some (.slice B r c2))
    (first | exact keep4 q0 q1 qc ((Below.refl _ _).drew) | exact keep4 q0 q1 qc (below_one w3 _) | exact keep4 q0 q1 qc (below_twod w3 _ _) | exact keep4 q0 q1 qc B7.out | exact keep4 q0 q1 qc B6.out | exact keep4 q0 q1 qc (B5.out.alloc B5.out.size _) | exact keep4 q0 q1 qc B5.out | exact keep5 q0 q1 qc hadl B7.out)
    (first | (refine step_nums (by rfl) (.tmp 36) (.tmp 41) (by rfl) w3.heap.size (.slice (some ⟨w3.heap.size, 0, none⟩) 0 0) 0 [] (by rfl) (by exact OB.out) _ r _ xs (by rfl) (by exact VB.out) r (by omega) xs (by rfl) (by omega) (by simp <;> omega) ?_; intro A5 c5 w5 H1 H2; have B5 : Hid (Below w3.heap.size w3 w5) := below_app (below_one w3 _) H2.out (Nat.le_refl _)) | (refine step_nums (by rfl) (.tmp 36) (.tmp 41) (by rfl) w3.heap.size (.slice (some ⟨w3.heap.size, 0, none⟩) 0 0) 0 [] (by rfl) (by exact OD.out) _ r _ xs (by rfl) (by exact VD.out) r (by omega) xs (by rfl) (by omega) (by simp <;> omega) ?_; intro A5 c5 w5 H1 H2; have B5 : Hid (Below w3.heap.size w3 w5) := below_app (below_twod w3 _ _) H2.out (Nat.le_refl _); have HP : Hid (Blk w5 (w3.heap.size + 1) 3 (nums [p])) := PD.out.grown H2.out (by simp [Value.ownBlock])) | (refine step_nums (by rfl) (.tmp 36) (.tmp 41) (by rfl) w3.heap.size (.slice (some ⟨w3.heap.size + 1, 0, none⟩) 0 0) 0 [] (by rfl) (by exact OE.out) _ r _ xs (by rfl) (by exact VE.out) r (by omega) xs (by rfl) (by omega) (by simp <;> omega) ?_; intro A5 c5 w5 H1 H2; have B5 : Hid (Below w3.heap.size w3 w5) := below_app (below_twod w3 _ _) H2.out (Nat.le_succ _); have HP : Hid (Blk w5 w3.heap.size 3 (nums [p])) := PE.out.grown H2.out (by simp [Value.ownBlock])) | (refine step_nums (by rfl) (.tmp 42) (.tmp 44) (by rfl) w3.heap.size (.slice A5 r c5) r xs (by rfl) (by exact H1.out.alloc _) _ 1 _ [p] (by rfl) (by exact Vals.of_blk (Blk.new w5 3 (nums [p])) rfl) (r + 1) (by omega) (xs ++ [p]) (by rfl) (by omega) (by have := B5.out.size; simp; omega) ?_; intro A6 c6 w6 G1 G2; have B6 : Hid (Below w3.heap.size w3 w6) := below_own (B5.out.alloc B5.out.size _) G2.out (H1.out.alloc _)) | (refine step_nums (by rfl) (.tmp 42) (.tmp 44) (by rfl) w3.heap.size (.slice A5 r c5) r xs (by rfl) (by exact H1.out) _ 1 _ [p] (by rfl) (by exact Vals.of_blk HP.out rfl) (r + 1) (by omega) (xs ++ [p]) (by rfl) (by omega) (by exact B5.out.size) ?_; intro A6 c6 w6 G1 G2; have B6 : Hid (Below w3.heap.size w3 w6) := below_own (B5.out) G2.out (H1.out)) | (go_at_call 25; (with_reducible refine (with_ (fun k => b k ∧ k ≠ w.heap.size + 1) n m c l (r + 1) c6 (some ad) A6 _ L (xs ++ [p]) w6 (HS0.out.below (HX1.out.trans (B6.out.mono hs3))) HN.out hnn hln rfl (row_of_own G1.out (by simp [HR.out]) (fun k hk => ⟨HBW.out k (by omega), by omega⟩)) (by simp [HR.out]) (fun k hk => ⟨HBW.out k (by have := B6.out.size; omega), by have := B6.out.size; omega⟩)).mono ?_); rintro e w7 ⟨⟨A7, c7, rfl, hr7⟩, hb7⟩; have R7 := Lib.hid hr7; have B7 : Hid (Below w3.heap.size w3 w7) := B6.out.trans (hb7.mono B6.out.size); have X7 := Lib.hid (HX.out.below B7.out); have q2 : w7.cell? ⟨w.heap.size + 1, 0, none⟩ = some (.slice none 0 0) := X7.out.2.2.cell 0; have q3 : w7.cell? ⟨w.heap.size + 1, 1, none⟩ = some (.int .i64 0) := X7.out.2.2.cell 1; have f2 := X7.out.2.2.frozen 0; have f3 := X7.out.2.2.frozen 1; clear hr7 hb7))
  all_goals
    go_wp2_with fail
    refine bodyPost_ret (v := .tuple #[.agg #[.slice A7 n c7, .int .i64 (m : Nat)], .bool true]) ?_ rfl ⟨⟨A7, c7, by rw [HCAN.out], ?_⟩, X7.out.set_ _ _⟩
    · simp [results, Try.results12, go_sem, *]
    · rw [HPO.out]
      refine (R7.out.far (S := fun k => k = w.heap.size + 1) (((Far.refl (fun k => k = w.heap.size + 1) _).set_ (p := ⟨w.heap.size + 1, 0, none⟩) (fun _ => rfl) _).set_ (p := ⟨w.heap.size + 1, 1, none⟩) (fun _ => rfl) _) (fun k hk => hk.2)).weak (fun k _ hk => hk.1)
end Go.Proofs.Ytlbloopiajjpfaa
