/- The contract of the document's Wake. Conditions: those of each theorem. -/
import Derived.Test.YtknalphhnicffaaDocAwake
namespace Go.Proofs.Ytknalphhnicffaa
open Go.RowKit

/-- The argument in block w.heap.size, the result's empty block behind it. -/
def Two3 (w : World) (A : Option Addr) (m c n Q : Nat) (W : World) : Prop := Below w.heap.size w W ∧ BoxAt w.heap.size A m c n Q W ∧ Blk W (w.heap.size + 1) 34 [.int .i64 0, .int .i64 0, .slice none 0 0]
abbrev noneOf : Obj := .cells #[.int .i64 0, .int .i64 0, .slice none 0 0] 34
theorem Two3.new (w : World) (A : Option Addr) (m c n Q : Nat) : Two3 w A m c n Q ((w.alloc (boxOf A m c n Q)).alloc noneOf) := by
  refine ⟨((Below.refl _ _).alloc (Nat.le_refl _) _).alloc (by simp) _, Blk.alloc (BoxAt.new w A m c n Q) _, ?_⟩
  have := Blk.new (w.alloc (boxOf A m c n Q)) 34 [.int .i64 0, .int .i64 0, .slice none 0 0]
  simpa using this
section
variable {w : World} {A : Option Addr} {m c n Q : Nat} {W W' : World}
theorem Two3.be (h : Two3 w A m c n Q W) : Below w.heap.size w W := h.1
theorem Two3.below (h : Two3 w A m c n Q W) (hb : Below W.heap.size W W') : Two3 w A m c n Q W' :=
  ⟨h.1.trans (hb.mono h.1.size), h.2.1.below hb, h.2.2.far (Far.of_below hb nobody) (fun e => e)⟩
theorem Two3.none_ (h : Two3 w A m c n Q W) : W.cell? ⟨w.heap.size + 1, 0, none⟩ = some (.int .i64 0) ∧ W.cell? ⟨w.heap.size + 1, 1, none⟩ = some (.int .i64 0) ∧ W.cell? ⟨w.heap.size + 1, 2, none⟩ = some (.slice none 0 0) ∧ W.frozen? ⟨w.heap.size + 1, 0, none⟩ = false ∧ W.frozen? ⟨w.heap.size + 1, 1, none⟩ = false ∧ W.frozen? ⟨w.heap.size + 1, 2, none⟩ = false :=
  ⟨h.2.2.cell 0, h.2.2.cell 1, h.2.2.cell 2, h.2.2.frozen 0, h.2.2.frozen 1, h.2.2.frozen 2⟩
end
/-- What stands when a value has been stored into block h. -/
abbrev stored3 (W : World) (h : Nat) (A : Option Addr) (m c n Q : Nat) : World := ((W.setCell ⟨h, 0, none⟩ (.int .i64 (n : Nat))).setCell ⟨h, 1, none⟩ (.int .i64 (Q : Nat))).setCell ⟨h, 2, none⟩ (.slice A m c)
theorem below_stored {w W : World} {B h : Nat} (hb : Below B w W) (hh : B ≤ h) (A : Option Addr) (m c n Q : Nat) : Below B w (stored3 W h A m c n Q) := ((hb.setCell hh _).setCell hh _).setCell hh _
theorem far_stored (W : World) (h : Nat) (A : Option Addr) (m c n Q : Nat) : Far (fun k => k = h) W (stored3 W h A m c n Q) := (((Far.refl (fun k => k = h) _).set_ (p := ⟨h, 0, none⟩) (fun _ => rfl) _).set_ (p := ⟨h, 1, none⟩) (fun _ => rfl) _).set_ (p := ⟨h, 2, none⟩) (fun _ => rfl) _
/-- What the document's Wake and Sleep answer. -/
def DocOut (b : Nat → Prop) (n Q : Nat) (L' : List Cls) (ok : Bool) (w : World) (e : Ending) (w' : World) : Prop :=
  (∃ A' c', L'.length ≤ c' ∧ e = .returned (.tuple #[doc A' L'.length c' n Q, .bool ok]) ∧ DocAt b w' A' L') ∧ Below w.heap.size w w'
theorem docOut_not {b : Nat → Prop} {m c n Q : Nat} {A : Option Addr} {L : List Cls} {w W : World} (h : DocAt b w A L) (hm : L.length = m) (hc : m ≤ c) (hB : Below w.heap.size w W) :
    DocOut b n Q L false w (.returned (.tuple #[doc A m c n Q, .bool false])) W := by
  subst hm
  exact ⟨⟨A, c, hc, rfl, h.below hB⟩, hB⟩
theorem docOut_yes {b : Nat → Prop} {k c' n Q B : Nat} {A' : Option Addr} {L' : List Cls} {w W W2 : World} (hbw : ∀ k, w.heap.size ≤ k → b k) (h : W2.ownsRow B 71 3 (.slice A' k c') k (cls L')) (hk : L'.length = k) (hB : w.heap.size + 1 < B) (hW2 : Below W2.heap.size W2 W) (hW : Below w.heap.size w W) :
    DocOut b n Q L' true w (.returned (.tuple #[doc A' k c' n Q, .bool true])) (stored3 W (w.heap.size + 1) A' k c' n Q) := by
  have h1 := ((doc_of_own (b := fun k => B ≤ k) h hk (fun _ h => h)).below hW2).far (far_stored W (w.heap.size + 1) A' k c' n Q) (fun k hk e => by have : B ≤ k := hk; omega)
  have hc : k ≤ c' := by
    rcases h.2 with ⟨e, h0⟩ | ⟨g, cap, cur, e, _, _, hnc, _⟩
    · omega
    · injection e with _ _ e; omega
  subst hk
  exact ⟨⟨A', c', hc, rfl, h1.weak (fun k _ hk => hbw k (by have : B ≤ k := hk; omega))⟩, below_stored hW (by omega) _ _ _ _ _⟩
theorem own66_b (w : World) : (w.alloc (Obj.cells #[] 71)).drew.ownsRow w.heap.size 71 3 (.slice (some ⟨w.heap.size, 0, none⟩) 0 0) 0 (cls []) :=
  (World.ownsRow_lit (base := w.heap.size) (e := 71) (size := 3) w #[] 0 (Nat.le_refl _) (by simp) (by simp)).drew
theorem own66_d (w : World) (o : Obj) : ((w.alloc (Obj.cells #[] 71)).alloc o).drew.ownsRow w.heap.size 71 3 (.slice (some ⟨w.heap.size, 0, none⟩) 0 0) 0 (cls []) :=
  ((World.ownsRow_lit (base := w.heap.size) (e := 71) (size := 3) w #[] 0 (Nat.le_refl _) (by simp) (by simp)).alloc o).drew
theorem own66_e (w : World) (o : Obj) : ((w.alloc o).alloc (Obj.cells #[] 71)).drew.ownsRow w.heap.size 71 3 (.slice (some ⟨w.heap.size + 1, 0, none⟩) 0 0) 0 (cls []) := by
  have hs : (w.alloc o).heap.size = w.heap.size + 1 := by simp
  have := (World.ownsRow_lit (base := w.heap.size) (e := 71) (size := 3) (w.alloc o) #[] 0 (by rw [hs]; omega) (by simp) (by simp)).drew
  rw [hs] at this
  exact this
/-- One that is awake, in a block of its own. -/
abbrev oneOf (x : Cls) : Obj := Obj.cells #[.int .i64 (x.n : Nat), .bool x.fresh, .int .i64 (x.d : Nat)] 71
theorem vals_one {W : World} {g : Nat} {x : Cls} (h : Blk W g 71 (cls [x])) : Vals W (some ⟨g, 0, none⟩) (1 * 3) (cls [x]) := Vals.of_blk h rfl
theorem blk66_d (w : World) (x : Cls) : Blk ((w.alloc (Obj.cells #[] 71)).alloc (oneOf x)).drew (w.heap.size + 1) 71 (cls [x]) := by
  have hs : (w.alloc (Obj.cells #[] 71)).heap.size = w.heap.size + 1 := by simp
  have : Blk ((w.alloc (Obj.cells #[] 71)).alloc (oneOf x)) (w.alloc (Obj.cells #[] 71)).heap.size 71 (cls [x]) := Blk.new (w.alloc (Obj.cells #[] 71)) 71 (cls [x])
  rw [hs] at this
  exact this
theorem blk66_e (w : World) (x : Cls) : Blk ((w.alloc (oneOf x)).alloc (Obj.cells #[] 71)).drew w.heap.size 71 (cls [x]) := ((Blk.new w 71 (cls [x])).alloc _)
theorem below_oned (w : World) (o : Obj) : Below w.heap.size w (w.alloc o).drew := ((Below.refl _ _).alloc (Nat.le_refl _) _).drew
theorem below_twod (w : World) (o o' : Obj) : Below w.heap.size w ((w.alloc o).alloc o').drew := (((Below.refl _ _).alloc (Nat.le_refl _) _).alloc (by simp) _).drew
theorem below_app {w W w5 : World} {k : Nat} (hb : Below w.heap.size w W) (hg : W.grownBy w5 (some k)) (hk : w.heap.size ≤ k) : Below w.heap.size w w5 := hb.grown hg hb.size (fun j e => by cases e; exact hk)
theorem below_own {w W w6 : World} {e : TypeId} {size n : Nat} {v : Value} {xs : List Value} (hb : Below w.heap.size w W) (hg : W.grownBy w6 v.ownBlock) (ho : W.ownsRow w.heap.size e size v n xs) : Below w.heap.size w w6 := hb.grown hg hb.size (fun k e => (ho.lt k e).1)
theorem kept5 {w : World} {A : Option Addr} {m c n Q : Nat} {w3 W : World} {u v z : Value} (h : BoxAt w.heap.size A m c n Q w3) (hB : Below w3.heap.size w3 W) :
    (((W.setCell ⟨w.heap.size + 1, 0, none⟩ u).setCell ⟨w.heap.size + 1, 1, none⟩ v).setCell ⟨w.heap.size + 1, 2, none⟩ z).cell? ⟨w.heap.size, 0, none⟩ = some (.int .i64 (n : Nat)) ∧ (((W.setCell ⟨w.heap.size + 1, 0, none⟩ u).setCell ⟨w.heap.size + 1, 1, none⟩ v).setCell ⟨w.heap.size + 1, 2, none⟩ z).cell? ⟨w.heap.size, 1, none⟩ = some (.int .i64 (Q : Nat)) ∧ (((W.setCell ⟨w.heap.size + 1, 0, none⟩ u).setCell ⟨w.heap.size + 1, 1, none⟩ v).setCell ⟨w.heap.size + 1, 2, none⟩ z).cell? ⟨w.heap.size, 2, none⟩ = some (.slice A m c) := by
  have hf : Far (fun k => k = w.heap.size + 1) W (((W.setCell ⟨w.heap.size + 1, 0, none⟩ u).setCell ⟨w.heap.size + 1, 1, none⟩ v).setCell ⟨w.heap.size + 1, 2, none⟩ z) := (((Far.refl (fun k => k = w.heap.size + 1) _).set_ (p := ⟨w.heap.size + 1, 0, none⟩) (fun _ => rfl) _).set_ (p := ⟨w.heap.size + 1, 1, none⟩) (fun _ => rfl) _).set_ (p := ⟨w.heap.size + 1, 2, none⟩) (fun _ => rfl) _
  have h2 : BoxAt w.heap.size A m c n Q _ := Blk.far (h.below hB) hf (by omega)
  exact h2.cells
set_option maxHeartbeats 1000000 in
theorem docWake1_ (b : Nat → Prop) (m c n Q : Nat) (A : Option Addr) (x : Int) (L : List Cls) (w : World) (h : DocAt b w A L) (hm : L.length = m) (hc : m ≤ c) (hm2 : m ≤ 129) (hw : canWake n L x = false) :
    Calls Try.prog 13 #[doc A m c n Q, .int .i64 x] w (DocOut b n Q L false w) := by
  have T0 := Lib.hid (Two3.new w A m c n Q)
  have C23 := Lib.hid (docPlace_ b m c n Q A x L _ (h.below T0.out.1) hm hm2)
  have HN := Lib.hid (fun W hB => docOut_not (c := c) (n := n) (Q := Q) (W := W) h hm hc hB)
  have HB2 : Hid (∀ o o', Below w.heap.size w ((w.alloc o).alloc o')) := fun o o' => ((Below.refl _ _).alloc (Nat.le_refl _) _).alloc (by simp) _
  by_cases h0 : x < 0
  · have d0 : decide (x < 0) = true := by simpa using h0
    clear h hm hw C23 h0
    obtain ⟨q0, q1, q2⟩ := T0.out.2.1.cells
    go_enter Try.func13, Try.ntmps13
    go_wp2
    refine bodyPost_ret (v := .tuple #[doc A m c n Q, .bool false]) ?_ rfl (HN.out _ (HB2.out _ _))
    simp [results, Try.results13, go_sem]
  · have d0 : decide (x < 0) = false := by simpa using h0
    by_cases h1 : (n : Int) ≤ x
    · have d1 : decide ((n : Int) ≤ x) = true := by simpa using h1
      clear h hm hw C23 h0 h1
      obtain ⟨q0, q1, q2⟩ := T0.out.2.1.cells
      go_enter Try.func13, Try.ntmps13
      go_wp2
      refine bodyPost_ret (v := .tuple #[doc A m c n Q, .bool false]) ?_ rfl (HN.out _ (HB2.out _ _))
      simp [results, Try.results13, go_sem]
    · have d1 : decide ((n : Int) ≤ x) = false := by simpa using h1
      have hi : isIn L x = true := by
        rcases e : isIn L x with _ | _
        · simp [canWake, e] at hw
          omega
        · rfl
      obtain ⟨k, y, _, _, h3, _⟩ := place_ex hi
      rw [h3] at C23
      have d2 : decide ((0 : Int) ≤ (k : Int)) = true := by simp
      clear h hm hw h0 h1 hi h3
      obtain ⟨q0, q1, q2⟩ := T0.out.2.1.cells
      go_enter Try.func13, Try.ntmps13
      go_wp2_with (go_at_call 26; (with_reducible refine C23.out.mono ?_); rintro e w3 ⟨rfl, hb⟩; have T3 := Lib.hid (T0.out.below hb); obtain ⟨p0, p1, p2⟩ := T3.out.2.1.cells; obtain ⟨r0, r1, r2, f0, f1, f2⟩ := T3.out.none_; clear hb)
      refine bodyPost_ret (v := .tuple #[doc A m c n Q, .bool false]) ?_ rfl (HN.out _ (below_stored T3.out.1 (by omega) _ _ _ _ _))
      simp [results, Try.results13, go_sem, *]
set_option maxHeartbeats 4000000 in
theorem docWake2_ (b : Nat → Prop) (m c n Q p : Nat) (A : Option Addr) (L : List Cls) (w : World) (h : DocAt b w A L) (hm : L.length = m) (hm2 : m ≤ 129) (hp : p < n) (hi : isIn L (p : Int) = false) (hbw : ∀ k, w.heap.size ≤ k → b k) :
    Calls Try.prog 13 #[doc A m c n Q, .int .i64 (p : Nat)] w (DocOut b n Q (L ++ [⟨p, true, 0⟩]) true w) := by
  have T0 := Lib.hid (Two3.new w A m c n Q)
  have C23 := Lib.hid (docPlace_ b m c n Q A p L _ (h.below T0.out.1) hm hm2)
  rw [place_not hi] at C23
  have d0 : decide ((p : Int) < 0) = false := by simp
  have d1 : decide ((n : Int) ≤ (p : Int)) = false := by simp; omega
  have d1' : decide (n ≤ p) = false := by simp; omega
  have C24 := Lib.hid (fun B k cB W => docWith_ m c n Q k cB A B W)
  have HV := Lib.hid (fun W (hB : Below w.heap.size w W) => by have := (h.below hB).1; rw [hm] at this; exact this)
  have HY := Lib.hid (fun A' c' B W W2 h1 hB hW2 hW => docOut_yes (k := m + 1) (n := n) (Q := Q) (A' := A') (c' := c') (L' := L ++ [⟨p, true, 0⟩]) (B := B) (w := w) (W := W) (W2 := W2) hbw h1 (by rw [List.length_append, hm]; rfl) hB hW2 hW)
  have HM := Lib.hid hm
  clear h hm hi hbw
  obtain ⟨q0, q1, q2⟩ := T0.out.2.1.cells
  go_enter Try.func13, Try.ntmps13
  go_upto_region 3 with (go_at_call 26; (with_reducible refine C23.out.mono ?_); rintro e w3 ⟨rfl, hb⟩; have T3 := Lib.hid (T0.out.below hb); clear hb)
  clear q0 q1 q2 C23
  have V3 := Lib.hid (HV.out w3 T3.out.1)
  have hs3 : w.heap.size + 1 < w3.heap.size := T3.out.2.2.lt
  have OB := Lib.hid (own66_b w3)
  have OD := Lib.hid (own66_d w3 (oneOf ⟨p, true, 0⟩))
  have OE := Lib.hid (own66_e w3 (oneOf ⟨p, true, 0⟩))
  have VB := Lib.hid (V3.out.below (below_oned w3 (Obj.cells #[] 71)))
  have VD := Lib.hid (V3.out.below (below_twod w3 (Obj.cells #[] 71) (oneOf ⟨p, true, 0⟩)))
  have VE := Lib.hid (V3.out.below (below_twod w3 (oneOf ⟨p, true, 0⟩) (Obj.cells #[] 71)))
  have PD := Lib.hid (blk66_d w3 ⟨p, true, 0⟩)
  have PE := Lib.hid (blk66_e w3 ⟨p, true, 0⟩)
  go_region_held3 (fun W => W.cell? ⟨w.heap.size, 0, none⟩ = some (.int .i64 (n : Nat)) ∧ W.cell? ⟨w.heap.size, 1, none⟩ = some (.int .i64 (Q : Nat)) ∧ W.cell? ⟨w.heap.size, 2, none⟩ = some (.slice A m c))
    (first | exact T3.out.2.1.kept ((Below.refl _ _).drew) | exact T3.out.2.1.kept (below_oned w3 _) | exact T3.out.2.1.kept (below_twod w3 _ _) | exact T3.out.2.1.kept B7.out | exact T3.out.2.1.kept B6.out | exact T3.out.2.1.kept (B5.out.alloc B5.out.size _) | exact T3.out.2.1.kept B5.out | exact kept5 T3.out.2.1 B7.out)
    (first | (refine step_cls (by rfl) (.tmp 22) (.tmp 24) (by rfl) w3.heap.size (.slice (some ⟨w3.heap.size, 0, none⟩) 0 0) 0 [] (by rfl) (by exact OB.out) A m c L (by exact HM.out) (by rfl) (by exact VB.out) m (by omega) L (by rfl) (by omega) (by simp) ?_; intro A5 c5 w5 H1 H2; have B5 : Hid (Below w3.heap.size w3 w5) := below_app (below_oned w3 _) H2.out (Nat.le_refl _)) | (refine step_cls (by rfl) (.tmp 22) (.tmp 24) (by rfl) w3.heap.size (.slice (some ⟨w3.heap.size, 0, none⟩) 0 0) 0 [] (by rfl) (by exact OD.out) A m c L (by exact HM.out) (by rfl) (by exact VD.out) m (by omega) L (by rfl) (by omega) (by simp; omega) ?_; intro A5 c5 w5 H1 H2; have B5 : Hid (Below w3.heap.size w3 w5) := below_app (below_twod w3 _ _) H2.out (Nat.le_refl _); have HP : Hid (Blk w5 (w3.heap.size + 1) 71 (cls [⟨p, true, 0⟩])) := PD.out.grown H2.out (by simp [Value.ownBlock])) | (refine step_cls (by rfl) (.tmp 22) (.tmp 24) (by rfl) w3.heap.size (.slice (some ⟨w3.heap.size + 1, 0, none⟩) 0 0) 0 [] (by rfl) (by exact OE.out) A m c L (by exact HM.out) (by rfl) (by exact VE.out) m (by omega) L (by rfl) (by omega) (by simp; omega) ?_; intro A5 c5 w5 H1 H2; have B5 : Hid (Below w3.heap.size w3 w5) := below_app (below_twod w3 _ _) H2.out (Nat.le_succ _); have HP : Hid (Blk w5 w3.heap.size 71 (cls [⟨p, true, 0⟩])) := PE.out.grown H2.out (by simp [Value.ownBlock])) | (refine step_cls (by rfl) (.tmp 25) (.tmp 28) (by rfl) w3.heap.size (.slice A5 m c5) m L (by rfl) (by exact H1.out.alloc _) (some ⟨w5.heap.size, 0, none⟩) 1 1 [⟨p, true, 0⟩] rfl (by rfl) (by exact vals_one (Blk.new w5 71 (cls [⟨p, true, 0⟩]))) (m + 1) (by omega) (L ++ [⟨p, true, 0⟩]) (by rfl) (by omega) (by have := B5.out.size; simp; omega) ?_; intro A6 c6 w6 G1 G2; have B6 : Hid (Below w3.heap.size w3 w6) := below_own (B5.out.alloc B5.out.size _) G2.out (H1.out.alloc _)) | (refine step_cls (by rfl) (.tmp 25) (.tmp 28) (by rfl) w3.heap.size (.slice A5 m c5) m L (by rfl) (by exact H1.out) _ 1 1 [⟨p, true, 0⟩] rfl (by rfl) (by exact vals_one HP.out) (m + 1) (by omega) (L ++ [⟨p, true, 0⟩]) (by rfl) (by omega) (by exact B5.out.size) ?_; intro A6 c6 w6 G1 G2; have B6 : Hid (Below w3.heap.size w3 w6) := below_own B5.out G2.out H1.out) | (go_at_call 27; (with_reducible refine (C24.out A6 (m + 1) c6 w6).mono ?_); rintro e w7 ⟨rfl, hb⟩; have B67 := Lib.hid hb; have B7 : Hid (Below w3.heap.size w3 w7) := B6.out.trans (hb.mono B6.out.size); have T7 := Lib.hid (T3.out.below B7.out); obtain ⟨r0, r1, r2, f0, f1, f2⟩ := T7.out.none_; clear hb))
  all_goals
    go_wp2_with fail
    refine bodyPost_ret (v := .tuple #[doc A6 (m + 1) c6 n Q, .bool true]) ?_ rfl (HY.out A6 c6 w3.heap.size _ _ G1.out hs3 B67.out T7.out.1)
    simp [results, Try.results13, go_sem, *]
theorem docWake_ (b : Nat → Prop) (m c n Q : Nat) (A : Option Addr) (x : Int) (L : List Cls) (w : World) (h : DocAt b w A L) (hm : L.length = m) (hc : m ≤ c) (hm2 : m ≤ 129) (hbw : ∀ k, w.heap.size ≤ k → b k) :
    Calls Try.prog 13 #[doc A m c n Q, .int .i64 x] w (DocOut b n Q (wakeOf n L x) (canWake n L x) w) := by
  rcases hw : canWake n L x with _ | _
  · have e0 : wakeOf n L x = L := by simp [wakeOf, hw]
    rw [e0]
    exact docWake1_ b m c n Q A x L w h hm hc hm2 hw
  · have e0 : wakeOf n L x = L ++ [⟨x.toNat, true, 0⟩] := by simp [wakeOf, hw]
    rw [e0]
    simp [canWake] at hw
    obtain ⟨p, rfl⟩ : ∃ p : Nat, x = p := ⟨x.toNat, by omega⟩
    exact docWake2_ b m c n Q p A L w h hm hm2 (by omega) hw.2 hbw
end Go.Proofs.Ytknalphhnicffaa
