/- The contract of the turns' Pick. Conditions: those of each theorem. -/
import Derived.Test.YtknalphhnicffaaTLook
import Derived.Test.YtknalphhnicffaaHeads
import Derived.Deep.LoopGhost
import Derived.Deep.WholeRow
import Derived.Defers
import Derived.Recover
namespace Go.Proofs.Ytknalphhnicffaa
open Go.RowKit

theorem size65 : (Try.prog.info? 65).map (·.size) = some 390 := by kernel_rfl
theorem zero65 (w : World) : (Instr.alloc 65 true (.tuple #[])).run Try.prog w = .ok (.pointer (some ⟨w.heap.size, 0, none⟩)) (w.alloc (.cells (cells0 0 0).toArray 65)) := by kernel_rfl
theorem wpList_new65 {ops : Array Oper} {rest : List Oper} {o : Oper} {a : Act} {w : World} {Q : Exit → Act → World → Prop} (hgd : o.guard = none) (ho : o.op = .alloc 65)
    (h : ∀ w', Hid (Blk w' w.heap.size 65 (cells0 0 0)) → Hid (Below w.heap.size w w') → wpList Try.prog ops Q rest (a.put o.dst (.pointer (some ⟨w.heap.size, 0, none⟩))) w') : wpList Try.prog ops Q (o :: rest) a w := by
  refine wpList_plain hgd fun K hK => ?_
  unfold Oper.wp
  simp only [execOp, ho]
  simp [zero65, Oper.upon]
  exact hK _ _ (h _ (Blk.new w 65 _) (below_one w _))
theorem wpList_whole65 {ops : Array Oper} {rest : List Oper} {op : Oper} {a : Act} {w : World} {Q : Exit → Act → World → Prop} (hw : Region.wanted op (yielded ops a.tmps) = true) (x : Operand) (ho : op.op = .load 65 x)
    (g : Nat) (hx : a.eval x = .pointer (some ⟨g, 0, none⟩)) {t : TypeId} (xs : List Value) (hb : Blk w g t xs) (hl : xs.length = 390)
    (h : wpList Try.prog ops Q rest (a.put op.dst (.agg xs.toArray)) w) : wpList Try.prog ops Q (op :: rest) a w := by
  unfold wpList
  rw [if_pos hw]
  exact .inl (wp_load_row 65 x ho g hx t xs.toArray (0, 0) _ hb Try.underlying65 rfl (by rw [List.size_toArray, hl]; exact size65) h)
theorem wpList_put65 {ops : Array Oper} {rest : List Oper} {o : Oper} {a : Act} {w : World} {Q : Exit → Act → World → Prop} (hgd : o.guard = none) (x y : Operand) (ho : o.op = .store 65 x y)
    (g : Nat) (xs : List Value) (hx : a.eval x = .pointer (some ⟨g, 0, none⟩)) (hy : a.eval y = .agg xs.toArray) (t : TypeId) (old : List Value) (hb : Blk w g t old) (hl : old.length = 390) (hxl : xs.length = 390) (h1 : xs.toArray.all (·.oneCell') = true)
    (h : ∀ w', Hid (Blk w' g t xs) → Hid (Far (sole g) w w') → wpList Try.prog ops Q rest (a.put o.dst undef) w') : wpList Try.prog ops Q (o :: rest) a w :=
  wpList_store_row hgd 65 x y ho g xs.toArray hx hy t old.toArray hb (by rw [List.size_toArray, hxl]; exact size65) (by rw [List.size_toArray, List.size_toArray, hl, hxl]) h1 (h _ (row_blk hb xs) (row_far w g _))
theorem Good.all {n Q : Nat} {L : List Cls} {cs : List Value} (h : Good n Q L cs) : cs.toArray.all (·.oneCell') = true := by
  simp
  exact h.one
theorem zero_length : (cells0 0 0).length = 390 := (good0 0 0).size
/-- The deferred closure where nobody panics. -/
theorem catch_idle (p0 p1 p2 p3 : Addr) (w : World) :
    CallsD Try.prog 30 #[.pointer (some p0), .pointer (some p1), .pointer (some p2), .pointer (some p3)] .returning w fun e u' w' => e = .returned (.tuple #[]) ∧ u' = .returning ∧ w' = w := by
  refine callsD_of_wpS Try.func30 rfl fun c₀ cs hu => ?_
  apply wpS_seq
  apply wpS_region
  simp [wpOpsS, go_sem, recoverD, hu, Try.ntmps30, Exit.thenS]
  refine wpS_cond (t := false) (by simp [Act.eval, Array.replicate]) ?_
  simp only [Bool.false_eq_true, if_false]
  refine wpS_of_wp (wp_skip ?_)
  cases c₀
  simp_all [bodyPostS, results, Try.results30]
/-- Blocks that b lets in, but for the three variables of the call's own. -/
def pb (b : Nat → Prop) (h : Nat) : Nat → Prop := fun k => b k ∧ k ≠ h ∧ k ≠ h + 1 ∧ k ≠ h + 2
/-- The three variables. -/
structure PV (h g : Nat) (v1 v2 : Value) (W : World) : Prop where
  t : Blk W h 25 [.pointer (some ⟨g, 0, none⟩)]
  c : Blk W (h + 1) 3 [v1]
  k : Blk W (h + 2) 4 [v2]
section
variable {b : Nat → Prop} {h g n Q m : Nat} {v1 v2 : Value} {A : Option Addr} {hs : List Int} {L L' : List Cls} {w W W' : World}
theorem PV.far {S : Nat → Prop} (p : PV h g v1 v2 W) (hf : Far S W W') (h0 : ¬ S h) (h1 : ¬ S (h + 1)) (h2 : ¬ S (h + 2)) : PV h g v1 v2 W' := ⟨p.t.far hf h0, p.c.far hf h1, p.k.far hf h2⟩
/-- What stands while Pick goes on: the turns, its own variables, the heads. -/
structure PI (b : Nat → Prop) (w : World) (g n Q : Nat) (A : Option Addr) (m : Nat) (hs : List Int) (L : List Cls) (W : World) : Prop where
  t : TAt (pb b w.heap.size) W g n Q L
  v : PV w.heap.size g (.int .i64 0) (.bool false) W
  f : Far b w W
  s : w.heap.size + 3 ≤ W.heap.size
  a : Vals W A m (ints hs)
theorem PI.below (p : PI b w g n Q A m hs L W) (hb : Below W.heap.size W W') : PI b w g n Q A m hs L W' :=
  ⟨p.t.below hb, p.v.far (Far.of_below hb nobody) (fun e => e) (fun e => e) (fun e => e), p.f.trans (Far.of_below hb b) (fun _ _ e => e), Nat.le_trans p.s hb.size, p.a.below hb⟩
theorem PI.drew (p : PI b w g n Q A m hs L W) : PI b w g n Q A m hs L W.drew :=
  p.below ((Below.refl _ W).drew)
theorem PI.turn (p : PI b w g n Q A m hs L W) (hA : ∀ ad, A = some ad → 0 < m → ¬ b ad.block) (ht : TAt (pb b w.heap.size) W' g n Q L') (hf : Far (pb b w.heap.size) W W') : PI b w g n Q A m hs L' W' := by
  refine ⟨ht, p.v.far hf (fun e => e.2.1 rfl) (fun e => e.2.2.1 rfl) (fun e => e.2.2.2 rfl), p.f.trans hf (fun _ _ e => e.1), Nat.le_trans p.s hf.size, ?_⟩
  by_cases hm : 0 < m
  · exact p.a.far hf (fun ad e k => hA ad e hm k.1)
  · exact ⟨p.a.1, fun e => absurd e hm⟩
theorem PI.new (ht : TAt b w g n Q L) (hv : Vals w A m (ints hs)) :
    PI b w g n Q A m hs L (((w.alloc (Obj.cells #[Value.pointer (some ⟨g, 0, none⟩)] 25)).alloc (Obj.cells #[Value.int .i64 0] 3)).alloc (Obj.cells #[Value.bool false] 4)) := by
  have hb : Below w.heap.size w (((w.alloc (Obj.cells #[Value.pointer (some ⟨g, 0, none⟩)] 25)).alloc (Obj.cells #[Value.int .i64 0] 3)).alloc (Obj.cells #[Value.bool false] 4)) := (((Below.refl _ _).alloc (Nat.le_refl _) _).alloc (by simp) _).alloc (by simp; omega) _
  refine ⟨(ht.weak (fun k hk e => ⟨e, by omega, by omega, by omega⟩)).below hb, ⟨?_, ?_, ?_⟩, Far.of_below hb b, by simp, hv.below hb⟩
  · exact ((Blk.new w 25 [Value.pointer (some ⟨g, 0, none⟩)]).alloc _).alloc _
  · have := (Blk.new (w.alloc (Obj.cells #[Value.pointer (some ⟨g, 0, none⟩)] 25)) 3 [Value.int .i64 0]).alloc (Obj.cells #[Value.bool false] 4)
    simpa using this
  · have := Blk.new ((w.alloc (Obj.cells #[Value.pointer (some ⟨g, 0, none⟩)] 25)).alloc (Obj.cells #[Value.int .i64 0] 3)) 4 [Value.bool false]
    simpa using this
/-- Behind the stores into the result's variables. -/
theorem PI.end_ (p : PI b w g n Q A m hs L W) (hbw : ∀ k, w.heap.size ≤ k → b k) (x : Int) (y : Bool) :
    TAt b ((W.setCell ⟨w.heap.size + 1, 0, none⟩ (.int .i64 x)).setCell ⟨w.heap.size + 1 + 1, 0, none⟩ (.bool y)) g n Q L ∧ Far b w ((W.setCell ⟨w.heap.size + 1, 0, none⟩ (.int .i64 x)).setCell ⟨w.heap.size + 1 + 1, 0, none⟩ (.bool y)) ∧
      ((W.setCell ⟨w.heap.size + 1, 0, none⟩ (.int .i64 x)).setCell ⟨w.heap.size + 1 + 1, 0, none⟩ (.bool y)).cell? ⟨w.heap.size + 1, 0, none⟩ = some (.int .i64 x) ∧
      ((W.setCell ⟨w.heap.size + 1, 0, none⟩ (.int .i64 x)).setCell ⟨w.heap.size + 1 + 1, 0, none⟩ (.bool y)).cell? ⟨w.heap.size + 1 + 1, 0, none⟩ = some (.bool y) := by
  have hF : Far (fun k => k = w.heap.size + 1 ∨ k = w.heap.size + 1 + 1) W ((W.setCell ⟨w.heap.size + 1, 0, none⟩ (.int .i64 x)).setCell ⟨w.heap.size + 1 + 1, 0, none⟩ (.bool y)) :=
    ((Far.refl (fun k => k = w.heap.size + 1 ∨ k = w.heap.size + 1 + 1) W).set_ (p := ⟨w.heap.size + 1, 0, none⟩) (fun _ => .inl rfl) _).set_ (p := ⟨w.heap.size + 1 + 1, 0, none⟩) (fun _ => .inr rfl) _
  have h1 := (p.v.c.set_ 0 (.int .i64 x)).other (p := ⟨w.heap.size + 1 + 1, 0, none⟩) (by simp) (.bool y)
  have h2 := (Blk.other p.v.k (p := ⟨w.heap.size + 1, 0, none⟩) (by simp) (.int .i64 x)).set_ 0 (.bool y)
  refine ⟨(p.t.far hF (fun k e1 e2 => ?_)).weak (fun k _ e => e.1), p.f.trans hF (fun k _ e => hbw k ?_), h1.cell 0, h2.cell 0⟩
  · rcases e2 with e2 | e2
    · exact e1.2.2.1 e2
    · exact e1.2.2.2 e2
  · omega
end
theorem look_takes (b : Nat → Prop) (g n Q : Nat) (x : Cls) (xs : List Cls) (h : Int) (w : World) (ht : TAt b w g n Q (x :: xs)) (h1 : 1 ≤ h) (hm : len h ≤ due Q x) :
    Calls Try.prog 31 #[.pointer (some ⟨g, 0, none⟩), .int .i64 (x.n : Nat), .int .i64 h] w fun e w' => e = .returned (.bool true) ∧ TAt b w' g n Q (⟨x.n, false, due Q x - len h⟩ :: xs) ∧ Far b w w' := by
  rcases hf : x.fresh with _ | _
  · exact look_stale_takes b g n Q x xs h w ht hf h1 hm
  · exact look_fresh_takes b g n Q x xs h w ht hf h1 hm
theorem look_waits (b : Nat → Prop) (g n Q : Nat) (x : Cls) (xs : List Cls) (h : Int) (w : World) (ht : TAt b w g n Q (x :: xs)) (h1 : 1 ≤ h) (hm : due Q x < len h) :
    Calls Try.prog 31 #[.pointer (some ⟨g, 0, none⟩), .int .i64 (x.n : Nat), .int .i64 h] w fun e w' => e = .returned (.bool false) ∧ TAt b w' g n Q (xs ++ [⟨x.n, true, due Q x⟩]) ∧ Far b w w' := by
  rcases hf : x.fresh with _ | _
  · exact look_stale_waits b g n Q x xs h w ht hf h1 hm
  · exact look_fresh_waits b g n Q x xs h w ht hf h1 hm
/-- Where somebody panics only the result's two variables are looked at. -/
theorem leaves_alike {P : Program} {fn : Func} {t1 t2 : Array Value} {R : Ending → World → Prop} (h : results fn t1 = results fn t2) (ds : List Deferred) : Leaves P fn t1 R ds = Leaves P fn t2 R ds := by
  induction ds with
  | nil =>
    funext u w
    cases u <;> simp [Leaves, h]
  | cons d ds ih =>
    funext u w
    simp only [Leaves, ih]
theorem pan16 {R : Ending → World → Prop} {c : List PanicEntry} {a : Act} {w : World} {v : Value} (i : Nat) (h4 : i ≠ 4) (h5 : i ≠ 5) (h : bodyPostD Try.prog Try.f16 R (.panic c) (a.put (some i) v) w) : bodyPostD Try.prog Try.f16 R (.panic c) a w := by
  have e : results Try.f16 (a.put (some i) v).tmps = results Try.f16 a.tmps := by
    simp [results, Try.results16, Act.put, Array.getD_eq_getD_getElem?, Array.getElem?_setIfInBounds, h4, h5]
  have e2 : (a.put (some i) v).defers = a.defers := rfl
  show Leaves Try.prog Try.f16 a.tmps R a.defers (.panicking c) w
  rw [← leaves_alike e, ← e2]
  exact h
theorem told_none : told none = 0 := rfl
theorem told_some (k : Nat) : told (some k) = (k : Nat) := rfl
end Go.Proofs.Ytknalphhnicffaa
