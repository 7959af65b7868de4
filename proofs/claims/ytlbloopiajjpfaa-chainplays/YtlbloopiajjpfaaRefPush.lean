/- The contract of the document's Push. Conditions: those of each theorem. -/
import Derived.Test.YtlbloopiajjpfaaWiths
import Derived.Deep.RegionHeld3
namespace Go.Proofs.Ytlbloopiajjpfaa
open Go.RowKit

/-- A copy of what is given, and room for the answer. -/
def Boxed (w : World) (A : Option Addr) (n m c : Nat) (w' : World) : Prop :=
  Below w.heap.size w w' ∧ Blk w' w.heap.size 32 [.slice A n c, .int .i64 (m : Nat)] ∧ Blk w' (w.heap.size + 1) 32 [.slice none 0 0, .int .i64 0]
theorem boxed_new (w : World) (A : Option Addr) (n m c : Nat) : Boxed w A n m c ((w.alloc (Obj.cells #[Value.slice A n c, Value.int IntKind.i64 (m : Nat)] 32)).alloc (Obj.cells #[Value.slice none 0 0, Value.int IntKind.i64 0] 32)) := by
  refine ⟨((Below.refl _ _).alloc (Nat.le_refl _) _).alloc (by simp) _, (Blk.new w 32 [Value.slice A n c, Value.int IntKind.i64 (m : Nat)]).alloc _, ?_⟩
  have := Blk.new (w.alloc (Obj.cells #[Value.slice A n c, Value.int IntKind.i64 (m : Nat)] 32)) 32 [Value.slice none 0 0, Value.int IntKind.i64 0]
  simpa using this
theorem Boxed.below {w w' w'' : World} {A : Option Addr} {n m c : Nat} (h : Boxed w A n m c w') (hb : Below w'.heap.size w' w'') : Boxed w A n m c w'' := by
  obtain ⟨h1, h2, h3⟩ := h
  exact ⟨h1.trans (hb.mono h1.size), h2.far (Far.of_below hb nobody) (fun e => e), h3.far (Far.of_below hb nobody) (fun e => e)⟩
/-- What the document's Push answers. -/
def RefPushed (b : Nat → Prop) (n m : Nat) (L : List (List Nat)) (x y : Int) (w : World) (e : Ending) (w' : World) : Prop :=
  (∃ A' c', e = .returned (.tuple #[.agg #[.slice A' n c', .int .i64 (m : Nat)], .bool (canPush m L x y)]) ∧ RefAt b w' A' (pushOf m L x y)) ∧ Below w.heap.size w w'
/-- Nothing is pushed. -/
theorem pushed_not {b : Nat → Prop} {n m c : Nat} {A : Option Addr} {L : List (List Nat)} {x y : Int} {w W : World} (h : RefAt b w A L) (hc : canPush m L x y = false) (hB : Below w.heap.size w W) :
    RefPushed b n m L x y w (.returned (.tuple #[.agg #[.slice A n c, .int .i64 (m : Nat)], .bool false])) W := by
  refine ⟨⟨A, c, by rw [hc], ?_⟩, hB⟩
  have : pushOf m L x y = L := by simp [pushOf, hc]
  rw [this]
  exact h.below hB
theorem Boxed.set_ {w w' : World} {A : Option Addr} {n m c : Nat} (h : Boxed w A n m c w') (u v : Value) : Below w.heap.size w ((w'.setCell ⟨w.heap.size + 1, 0, none⟩ u).setCell ⟨w.heap.size + 1, 1, none⟩ v) := (h.1.setCell (by simp) _).setCell (by simp) _
theorem below_two (w : World) (o o' : Obj) : Below w.heap.size w ((w.alloc o).alloc o') := ((Below.refl _ _).alloc (Nat.le_refl _) _).alloc (by simp) _
set_option maxHeartbeats 1000000 in
theorem refPush1_ (b : Nat → Prop) (n m c : Nat) (A : Option Addr) (x y : Int) (L : List (List Nat)) (w : World) (h : RefAt b w A L) (hx : x < 0 ∨ (n : Int) ≤ x ∨ y < 0 ∨ (m : Int) ≤ y) (hc : canPush m L x y = false) :
    Calls Try.prog 12 #[.agg #[.slice A n c, .int .i64 (m : Nat)], .int .i64 x, .int .i64 y] w (RefPushed b n m L x y w) := by
  have HR := Lib.hid (fun W hB => pushed_not (n := n) (c := c) (W := W) h hc hB)
  clear h hc
  by_cases h1 : x < 0
  · have hd : decide (x < 0) = true := by simp; omega
    clear hx
    go_enter Try.func12, Try.ntmps12
    go_wp2
    refine bodyPost_ret (v := .tuple #[.agg #[.slice A n c, .int .i64 (m : Nat)], .bool false]) ?_ rfl (HR.out _ (below_two _ _ _))
    simp [results, Try.results12, go_sem]
  · have hd : decide (x < 0) = false := by simp; omega
    by_cases h2 : (n : Int) ≤ x
    · have hd2 : decide ((n : Int) ≤ x) = true := by simp; omega
      clear hx
      go_enter Try.func12, Try.ntmps12
      go_wp2
      refine bodyPost_ret (v := .tuple #[.agg #[.slice A n c, .int .i64 (m : Nat)], .bool false]) ?_ rfl (HR.out _ (below_two _ _ _))
      simp [results, Try.results12, go_sem]
    · have hd2 : decide ((n : Int) ≤ x) = false := by simp; omega
      by_cases h3 : y < 0
      · have hd3 : decide (y < 0) = true := by simp; omega
        clear hx
        go_enter Try.func12, Try.ntmps12
        go_wp2
        refine bodyPost_ret (v := .tuple #[.agg #[.slice A n c, .int .i64 (m : Nat)], .bool false]) ?_ rfl (HR.out _ (below_two _ _ _))
        simp [results, Try.results12, go_sem]
      · have hd3 : decide (y < 0) = false := by simp; omega
        have hd4 : decide ((m : Int) ≤ y) = true := by simp; omega
        clear hx
        go_enter Try.func12, Try.ntmps12
        go_wp2
        refine bodyPost_ret (v := .tuple #[.agg #[.slice A n c, .int .i64 (m : Nat)], .bool false]) ?_ rfl (HR.out _ (below_two _ _ _))
        simp [results, Try.results12, go_sem]
/-- No line is longer than this. -/
def Short (L : List (List Nat)) : Prop := ∀ (l : Nat) (xs : List Nat), L[l]? = some xs → xs.length ≤ 4096
set_option maxHeartbeats 1000000 in
theorem refPush2_ (b : Nat → Prop) (n m c l p l' : Nat) (A : Option Addr) (L : List (List Nat)) (w : World) (h : RefAt b w A L) (hn : L.length = n) (hnn : n ≤ 129) (hsh : Short L) (hl : l < n) (hp : p < m) (he : lineOf L (p : Int) = some l') :
    Calls Try.prog 12 #[.agg #[.slice A n c, .int .i64 (m : Nat)], .int .i64 (l : Nat), .int .i64 (p : Nat)] w (RefPushed b n m L l p w) := by
  have hc : canPush m L (l : Int) (p : Int) = false := by simp [canPush, he]
  have HR := Lib.hid (fun W hB => pushed_not (n := n) (c := c) (W := W) h hc hB)
  have HB := Lib.hid (boxed_new w A n m c)
  have HL : Hid (Calls Try.prog 24 #[.agg #[.slice A n c, .int .i64 (m : Nat)], .int .i64 (p : Nat)] ((w.alloc (Obj.cells #[Value.slice A n c, Value.int IntKind.i64 (m : Nat)] 32)).alloc (Obj.cells #[Value.slice none 0 0, Value.int IntKind.i64 0] 32)) fun e w' => e = .returned (.int .i64 (toInt (lineOf L p))) ∧ Below (((w.alloc (Obj.cells #[Value.slice A n c, Value.int IntKind.i64 (m : Nat)] 32)).alloc (Obj.cells #[Value.slice none 0 0, Value.int IntKind.i64 0] 32))).heap.size ((w.alloc (Obj.cells #[Value.slice A n c, Value.int IntKind.i64 (m : Nat)] 32)).alloc (Obj.cells #[Value.slice none 0 0, Value.int IntKind.i64 0] 32)) w') := refLine_ b n m c A p L _ (h.below (below_two _ _ _)) hn hnn hsh
  rw [he] at HL
  have hti : toInt (some l') = (l' : Int) := rfl
  rw [hti] at HL
  have d1 : decide ((l : Int) < 0) = false := by simp
  have d2 : decide ((n : Int) ≤ (l : Int)) = false := by simp; omega
  have d2' : decide (n ≤ l) = false := by simp; omega
  have d3 : decide ((p : Int) < 0) = false := by simp
  have d4 : decide ((m : Int) ≤ (p : Int)) = false := by simp; omega
  have d4' : decide (m ≤ p) = false := by simp; omega
  have d5 : decide ((0 : Int) ≤ (l' : Int)) = true := by simp
  clear h hn hc he hti hsh
  go_enter Try.func12, Try.ntmps12
  go_wp2_with (go_at_call 24; (with_reducible refine HL.out.mono ?_); rintro e w3 ⟨rfl, hb3⟩; have hbx := HB.out.below hb3; have q0 : w3.cell? ⟨w.heap.size, 0, none⟩ = some (.slice A n c) := hbx.2.1.cell 0; have q1 : w3.cell? ⟨w.heap.size, 1, none⟩ = some (.int .i64 (m : Nat)) := hbx.2.1.cell 1; have q2 : w3.cell? ⟨w.heap.size + 1, 0, none⟩ = some (.slice none 0 0) := hbx.2.2.cell 0; have q3 : w3.cell? ⟨w.heap.size + 1, 1, none⟩ = some (.int .i64 0) := hbx.2.2.cell 1; have f2 := hbx.2.2.frozen 0; have f3 := hbx.2.2.frozen 1; have HX := Lib.hid hbx; clear hbx hb3)
  refine bodyPost_ret (v := .tuple #[.agg #[.slice A n c, .int .i64 (m : Nat)], .bool false]) ?_ rfl (HR.out _ (HX.out.set_ _ _))
  simp [results, Try.results12, go_sem, *]
end Go.Proofs.Ytlbloopiajjpfaa
