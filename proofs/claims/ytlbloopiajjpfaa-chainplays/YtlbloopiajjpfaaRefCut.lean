/- The contracts of the document's Push and Cut, whatever is pushed and cut. Conditions: those of each theorem. -/
import Derived.Test.YtlbloopiajjpfaaPushes
namespace Go.Proofs.Ytlbloopiajjpfaa
open Go.RowKit

theorem refPush_ (b : Nat → Prop) (n m c : Nat) (A : Option Addr) (x y : Int) (L : List (List Nat)) (w : World) (h : RefAt b w A L) (hn : L.length = n) (hnn : n ≤ 129) (hsh : Short L) (hbw : ∀ k, w.heap.size ≤ k → b k) :
    Calls Try.prog 12 #[.agg #[.slice A n c, .int .i64 (m : Nat)], .int .i64 x, .int .i64 y] w (RefPushed b n m L x y w) := by
  by_cases hx : x < 0 ∨ (n : Int) ≤ x ∨ y < 0 ∨ (m : Int) ≤ y
  · refine refPush1_ b n m c A x y L w h hx ?_
    rcases e : canPush m L x y with _ | _
    · rfl
    · simp [canPush] at e
      obtain ⟨⟨⟨h1, h2⟩, h3⟩, _⟩ := e
      obtain ⟨xs, h1⟩ := Option.isSome_iff_exists.1 h1
      obtain ⟨l, rfl, hl⟩ := rowOf_some h1
      have := (List.getElem?_eq_some_iff.1 hl).1
      omega
  · obtain ⟨l, rfl⟩ : ∃ l : Nat, x = l := ⟨x.toNat, by omega⟩
    obtain ⟨p, rfl⟩ : ∃ p : Nat, y = p := ⟨y.toNat, by omega⟩
    rcases e : lineOf L (p : Int) with _ | l'
    · exact refPush3_ b n m c l p A L _ w h hn hnn hsh (List.getElem?_eq_getElem (by omega)) (by omega) e hbw
    · exact refPush2_ b n m c l p l' A L w h hn hnn hsh (by omega) (by omega) e
/-- What the document's Cut answers. -/
def RefCutOut (b : Nat → Prop) (n m : Nat) (L : List (List Nat)) (x k : Int) (w : World) (e : Ending) (w' : World) : Prop :=
  (∃ A' c', e = .returned (.agg #[.slice A' n c', .int .i64 (m : Nat)]) ∧ RefAt b w' A' (cutOf L x k)) ∧ Below w.heap.size w w'
theorem cutout_not {b : Nat → Prop} {n m c : Nat} {A : Option Addr} {L : List (List Nat)} {x k : Int} {w W : World} (h : RefAt b w A L) (hc : atOf L x k = none) (hB : Below w.heap.size w W) :
    RefCutOut b n m L x k w (.returned (.agg #[.slice A n c, .int .i64 (m : Nat)])) W := by
  refine ⟨⟨A, c, rfl, ?_⟩, hB⟩
  have : cutOf L x k = L := by simp [cutOf, hc]
  rw [this]
  exact h.below hB
set_option maxHeartbeats 1000000 in
theorem refCut1_ (b : Nat → Prop) (n m c : Nat) (A : Option Addr) (x k : Int) (L : List (List Nat)) (w : World) (h : RefAt b w A L) (hn : L.length = n) (he : atOf L x k = none) :
    Calls Try.prog 16 #[.agg #[.slice A n c, .int .i64 (m : Nat)], .int .i64 x, .int .i64 k] w (RefCutOut b n m L x k w) := by
  have HR := Lib.hid (fun W hB => cutout_not (n := n) (m := m) (c := c) (W := W) h he hB)
  have HB := Lib.hid (boxed_new w A n m c)
  have HL : Hid (Calls Try.prog 15 #[.agg #[.slice A n c, .int .i64 (m : Nat)], .int .i64 x, .int .i64 k] ((w.alloc (Obj.cells #[Value.slice A n c, Value.int IntKind.i64 (m : Nat)] 32)).alloc (Obj.cells #[Value.slice none 0 0, Value.int IntKind.i64 0] 32)) fun e w' => e = .returned (.int .i64 (toInt (atOf L x k))) ∧ Below (((w.alloc (Obj.cells #[Value.slice A n c, Value.int IntKind.i64 (m : Nat)] 32)).alloc (Obj.cells #[Value.slice none 0 0, Value.int IntKind.i64 0] 32))).heap.size ((w.alloc (Obj.cells #[Value.slice A n c, Value.int IntKind.i64 (m : Nat)] 32)).alloc (Obj.cells #[Value.slice none 0 0, Value.int IntKind.i64 0] 32)) w') := refAt_ b n m c A x k L _ (h.below (below_two _ _ _)) hn
  rw [he] at HL
  have hti : toInt none = -1 := rfl
  rw [hti] at HL
  clear h hn he hti
  go_enter Try.func16, Try.ntmps16
  go_wp2_with (go_at_call 15; (with_reducible refine HL.out.mono ?_); rintro e w3 ⟨rfl, hb3⟩; have hbx := HB.out.below hb3; have q0 : w3.cell? ⟨w.heap.size, 0, none⟩ = some (.slice A n c) := hbx.2.1.cell 0; have q1 : w3.cell? ⟨w.heap.size, 1, none⟩ = some (.int .i64 (m : Nat)) := hbx.2.1.cell 1; have q2 : w3.cell? ⟨w.heap.size + 1, 0, none⟩ = some (.slice none 0 0) := hbx.2.2.cell 0; have q3 : w3.cell? ⟨w.heap.size + 1, 1, none⟩ = some (.int .i64 0) := hbx.2.2.cell 1; have f2 := hbx.2.2.frozen 0; have f3 := hbx.2.2.frozen 1; have HX := Lib.hid hbx; clear hbx hb3)
  refine bodyPost_ret (v := .agg #[.slice A n c, .int .i64 (m : Nat)]) ?_ rfl (HR.out _ (HX.out.set_ _ _))
  simp [results, Try.results16, go_sem, *]
theorem run_upto60 {A : Option Addr} {n c k : Nat} (W : World) (hk : k ≤ c) :
    (Instr.slice 60 (.slice A n c) none (some (.int .i64 k)) none).run Try.prog W = .ok (.slice A k c) W := by
  have h := run_slice_h (P := Try.prog) (w := W) 60 A n c (by kernel_rfl) .i64 (k : Int) (by omega) (by omega)
  rw [h]
  simp [sliced, go_sem]
theorem run_from60 {A : Option Addr} {n c k : Nat} (W : World) (hk : k + 1 ≤ n) :
    (Instr.slice 60 (.slice A n c) (some (.int .i64 ((k : Int) + 1))) none none).run Try.prog W = .ok (.slice (if c = k + 1 then A else A.map (·.add (k + 1))) (n - (k + 1)) (c - (k + 1))) W := by
  have h := run_slice_l (P := Try.prog) (w := W) 60 A n c (by kernel_rfl) .i64 ((k : Int) + 1) (by omega) (by omega)
  rw [h, show ((k : Int) + 1).toNat = k + 1 by omega]
  simp [sliced, go_sem]
theorem nums_take (zs : List Nat) (k : Nat) : (nums zs).take k = nums (zs.take k) := by simp [nums, List.map_take]
theorem nums_drop (zs : List Nat) (k : Nat) : (nums zs).drop k = nums (zs.drop k) := by simp [nums, List.map_drop]
set_option maxHeartbeats 4000000 in
theorem refCut2_ (b : Nat → Prop) (n m c l j p : Nat) (A : Option Addr) (L : List (List Nat)) (xs : List Nat) (w : World) (h : RefAt b w A L) (hn : L.length = n) (hnn : n ≤ 129) (hsh : Short L) (hl : L[l]? = some xs) (hj : xs[j]? = some p) (hbw : ∀ k, w.heap.size ≤ k → b k) :
    Calls Try.prog 16 #[.agg #[.slice A n c, .int .i64 (m : Nat)], .int .i64 (l : Nat), .int .i64 (j : Nat)] w (RefCutOut b n m L l j w) := by
  have hln : l < n := by have := (List.getElem?_eq_some_iff.1 hl).1; omega
  have hjl : j < xs.length := (List.getElem?_eq_some_iff.1 hj).1
  have hr0 : rowOf L (l : Int) = some xs := rowOf_nat hl
  have hat : atOf L (l : Int) (j : Int) = some p := by simp [atOf, hr0, hj]
  have hco : cutOf L (l : Int) (j : Int) = L.set l (xs.eraseIdx j) := by simp [cutOf, hat, hr0]
  have HB := Lib.hid (boxed_new w A n m c)
  have HL : Hid (Calls Try.prog 15 #[.agg #[.slice A n c, .int .i64 (m : Nat)], .int .i64 (l : Nat), .int .i64 (j : Nat)] ((w.alloc (Obj.cells #[Value.slice A n c, Value.int IntKind.i64 (m : Nat)] 32)).alloc (Obj.cells #[Value.slice none 0 0, Value.int IntKind.i64 0] 32)) fun e w' => e = .returned (.int .i64 (toInt (atOf L l j))) ∧ Below (((w.alloc (Obj.cells #[Value.slice A n c, Value.int IntKind.i64 (m : Nat)] 32)).alloc (Obj.cells #[Value.slice none 0 0, Value.int IntKind.i64 0] 32))).heap.size ((w.alloc (Obj.cells #[Value.slice A n c, Value.int IntKind.i64 (m : Nat)] 32)).alloc (Obj.cells #[Value.slice none 0 0, Value.int IntKind.i64 0] 32)) w') := refAt_ b n m c A l j L _ (h.below (below_two _ _ _)) hn
  rw [hat] at HL
  have hti : toInt (some p) = (p : Int) := rfl
  rw [hti] at HL
  have d1 : decide ((p : Int) < 0) = false := by simp
  obtain ⟨ad, B, c2, rfl, hcl, hrw⟩ := h.row hl
  have hadl : ad.block < w.heap.size := by have := World.block_lt_of_cell? w _ hcl; rwa [Addr.block_add] at this
  have hxl := hsh l xs hl
  have HCO := Lib.hid hco
  have H0 := Lib.hid h
  have HRW := Lib.hid hrw
  have HCL := Lib.hid hcl
  have HN := Lib.hid hn
  have hc2 : xs.length ≤ c2 := hrw.2.1
  have HER : Hid (xs.take j ++ xs.drop (j + 1) = xs.eraseIdx j) := (List.eraseIdx_eq_take_drop_succ xs j).symm
  have HEL : Hid ((xs.eraseIdx j).length = xs.length - 1) := by show _ = _; rw [List.length_eraseIdx, if_pos hjl]
  have HVT := Lib.hid (hrw.1.upto (k := j) (by omega))
  have HVF := Lib.hid (hrw.1.from_ (k := j + 1) (by omega) hc2)
  clear h hn hti hsh hrw hcl hr0 hat hco hl hj
  generalize hr : xs.length = r at *
  clear hr
  have hs1 := fun W => run_upto60 (A := B) (n := r) (c := c2) (k := j) W (by omega)
  have hs2 := fun W => run_from60 (A := B) (n := r) (c := c2) (k := j) W (by omega)
  generalize (if c2 = j + 1 then B else B.map (·.add (j + 1))) = Z at *
  have hwp : IntKind.i64.wrap ((j : Int) + 1) = (j : Int) + 1 := by rw [IntKind.wrap_i64]; omega
  go_enter Try.func16, Try.ntmps16
  go_wp2_with (go_at_call 15; (with_reducible refine HL.out.mono ?_); rintro e w3 ⟨rfl, hb3⟩; have hbx := HB.out.below hb3; have HX := Lib.hid hbx; clear hbx hb3)
  have q0 : w3.cell? ⟨w.heap.size, 0, none⟩ = some (.slice (some ad) n c) := HX.out.2.1.cell 0
  have q1 : w3.cell? ⟨w.heap.size, 1, none⟩ = some (.int .i64 (m : Nat)) := HX.out.2.1.cell 1
  have qc : w3.cell? (ad.add l) = some (.slice B r c2) := (HX.out.1.cell (World.block_lt_of_cell? w _ HCL.out)).trans HCL.out
  have HX1 : Hid (Below w.heap.size w w3) := HX.out.1
  have HV1 : Hid (∀ W, Below w3.heap.size w3 W → Vals W B j (nums (xs.take j)) ∧ Vals W Z (r - (j + 1)) (nums (xs.drop (j + 1)))) := by
    intro W hW
    have h1 := (HVT.out.below HX1.out).below hW
    have h2 := (HVF.out.below HX1.out).below hW
    rw [nums_take] at h1
    rw [nums_drop] at h2
    exact ⟨h1, h2⟩
  have hs3 := HX1.out.size
  have hs4 : w.heap.size + 1 < w3.heap.size := HX.out.2.2.lt
  have HS0 := Lib.hid (H0.out.weak (b' := fun k => b k ∧ k ≠ w.heap.size + 1) (fun k hk h => ⟨h, by omega⟩))
  have HBW := Lib.hid hbw
  have OB := Lib.hid (own_b w3)
  clear HL HB
  go_region_held3 (fun W => W.cell? ⟨w.heap.size, 0, none⟩ = some (.slice (some ad) n c) ∧ W.cell? ⟨w.heap.size, 1, none⟩ = some (.int .i64 (m : Nat)) ∧ W.cell? (ad.add l) = some (.slice B r c2))
    (first | exact keep4 q0 q1 qc ((Below.refl _ _).drew) | exact keep4 q0 q1 qc (below_one w3 _) | exact keep4 q0 q1 qc B7.out | exact keep4 q0 q1 qc B6.out | exact keep4 q0 q1 qc B5.out | exact keep5 q0 q1 qc hadl B7.out)
    (first | (refine step_nums (by rfl) (.tmp 15) (.tmp 22) (by rfl) w3.heap.size (.slice (some ⟨w3.heap.size, 0, none⟩) 0 0) 0 [] (by rfl) (by exact OB.out) _ j _ (xs.take j) (by rfl) (by exact (HV1.out _ (below_one w3 _)).1) j (by omega) (xs.take j) (by rfl) (by omega) (by simp) ?_; intro A5 c5 w5 H1 H2; have B5 : Hid (Below w3.heap.size w3 w5) := below_app (below_one w3 _) H2.out (Nat.le_refl _)) | (refine step_nums (by rfl) (.tmp 23) (.tmp 31) (by rfl) w3.heap.size (.slice A5 j c5) j (xs.take j) (by rfl) (by exact H1.out) _ (r - (j + 1)) _ (xs.drop (j + 1)) (by rfl) (by exact (HV1.out _ B5.out).2) (r - 1) (by omega) (xs.eraseIdx j) (by exact HER.out) (by omega) (by exact B5.out.size) ?_; intro A6 c6 w6 G1 G2; have B6 : Hid (Below w3.heap.size w3 w6) := below_own B5.out G2.out H1.out) | (go_at_call 25; (with_reducible refine (with_ (fun k => b k ∧ k ≠ w.heap.size + 1) n m c l (r - 1) c6 (some ad) A6 _ L (xs.eraseIdx j) w6 (HS0.out.below (HX1.out.trans (B6.out.mono hs3))) HN.out hnn hln rfl (row_of_own G1.out HEL.out (fun k hk => ⟨HBW.out k (by omega), by omega⟩)) HEL.out (fun k hk => ⟨HBW.out k (by have := B6.out.size; omega), by have := B6.out.size; omega⟩)).mono ?_); rintro e w7 ⟨⟨A7, c7, rfl, hr7⟩, hb7⟩; have R7 := Lib.hid hr7; have B7 : Hid (Below w3.heap.size w3 w7) := B6.out.trans (hb7.mono B6.out.size); have X7 := Lib.hid (HX.out.below B7.out); have q2 : w7.cell? ⟨w.heap.size + 1, 0, none⟩ = some (.slice none 0 0) := X7.out.2.2.cell 0; have q3 : w7.cell? ⟨w.heap.size + 1, 1, none⟩ = some (.int .i64 0) := X7.out.2.2.cell 1; have f2 := X7.out.2.2.frozen 0; have f3 := X7.out.2.2.frozen 1; clear hr7 hb7))
  all_goals
    go_wp2_with fail
    refine bodyPost_ret (v := .agg #[.slice A7 n c7, .int .i64 (m : Nat)]) ?_ rfl ⟨⟨A7, c7, rfl, ?_⟩, X7.out.set_ _ _⟩
    · simp [results, Try.results16, go_sem, *]
    · rw [HCO.out]
      exact (R7.out.far (S := fun k => k = w.heap.size + 1) (((Far.refl (fun k => k = w.heap.size + 1) _).set_ (p := ⟨w.heap.size + 1, 0, none⟩) (fun _ => rfl) _).set_ (p := ⟨w.heap.size + 1, 1, none⟩) (fun _ => rfl) _) (fun k hk => hk.2)).weak (fun k _ hk => hk.1)
theorem refCut_ (b : Nat → Prop) (n m c : Nat) (A : Option Addr) (x k : Int) (L : List (List Nat)) (w : World) (h : RefAt b w A L) (hn : L.length = n) (hnn : n ≤ 129) (hsh : Short L) (hbw : ∀ k, w.heap.size ≤ k → b k) :
    Calls Try.prog 16 #[.agg #[.slice A n c, .int .i64 (m : Nat)], .int .i64 x, .int .i64 k] w (RefCutOut b n m L x k w) := by
  rcases e : atOf L x k with _ | p
  · exact refCut1_ b n m c A x k L w h hn e
  · obtain ⟨l, j, xs, rfl, rfl, hl, hj, _⟩ := atOf_some e
    exact refCut2_ b n m c l j p A L xs w h hn hnn hsh hl hj hbw
end Go.Proofs.Ytlbloopiajjpfaa
