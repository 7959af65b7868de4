/- The contract of the document's With: what one class has turned. Conditions: those of each theorem. -/
import Derived.Test.YtgjicnjibhofkaaRefs
namespace Go.Proofs.Ytgjicnjibhofkaa
open Go.RowKit

/-- append of numbers onto an own empty row. -/
theorem wpList_app2 {w : World} {ops : Array Oper} {rest : List Oper} {o : Oper} {a : Act} {Q : Exit → Act → World → Prop} (hgd : o.guard = none) (s x : Operand)
    (ho : o.op = .call { callee := .builtin .append, args := #[s, x], argTypes := #[30, 30] })
    (base : Nat) (v : Value) (hs : a.eval s = v) (hown : w.ownsRow base 2 1 v 0 [])
    (A : Option Addr) (m c : Nat) (vs : List Value) (hx : a.eval x = .slice A m c) (h : Vals w A m vs) (h1 : ∀ u ∈ vs, u.oneCell' = true) (hm : 1 ≤ m) (hn : m ≤ 1000000) (hb : base ≤ w.heap.size)
    (hK : ∀ g' c' w', Hid (w'.ownsRow base 2 1 (.slice (some ⟨g', 0, none⟩) m c') m vs) → Hid (w.grownBy w' v.ownBlock) → base ≤ g' → (v.ownBlock = some g' ∨ g' = w.heap.size) →
      wpList Try.prog ops Q rest (a.put o.dst (.slice (some ⟨g', 0, none⟩) m c')) w') : wpList Try.prog ops Q (o :: rest) a w := by
  refine wpList_plain hgd fun K hK' => ?_
  obtain ⟨v', w', hrun, h2, h3, h5⟩ := run_append_vals (P := Try.prog) w base 30 o.type 2 (.int .i64 0) 8 Try.underlying30 info2 rfl v 0 [] hown A m c vs h h1 (by omega) (by omega) hb
  rw [Nat.zero_add, List.nil_append] at h2
  obtain ⟨g', c', rfl, hg, _⟩ := h2.form (by omega)
  unfold Oper.wp
  simp [execOp, ho, resolve, invoke, builtin, hs, hx, hrun, Result.andThen]
  exact hK' _ _ (hK g' c' w' h2 h3 hg (by
    rcases h5 with h5 | h5
    · exact .inl h5.symm
    · injection h5 with h5
      exact .inr h5))
/-- The result's block, empty. -/
abbrev noneOf : Obj := .cells #[.slice none 0 0, .int .i64 0, .int .i64 0] 32
theorem with_facts {w W w4 : World} {A : Option Addr} {n c R S k g' c' : Nat} {L : List Nat} (hB : Below w.heap.size w W) (h1 : BoxAt w.heap.size A n c R S W) (h2 : Blk W (w.heap.size + 1) 32 [.slice none 0 0, .int .i64 0, .int .i64 0]) (hs : W.heap.size = w.heap.size + 1 + 1 + 1)
    (G1 : w4.ownsRow w.heap.size 2 1 (.slice (some ⟨g', 0, none⟩) n c') n (nums L)) (G2 : W.grownBy w4 (some (w.heap.size + 1 + 1))) (G4 : some (w.heap.size + 1 + 1) = some g' ∨ g' = W.heap.size) (hk : k < L.length) :
    Below w.heap.size w w4 ∧ w.heap.size ≠ g' ∧ w.heap.size + 1 ≠ g' ∧ BoxAt w.heap.size A n c R S w4 ∧ Blk w4 (w.heap.size + 1) 32 [.slice none 0 0, .int .i64 0, .int .i64 0] ∧ w4.frozen? ⟨g', k, none⟩ = false ∧ w4.cell? ⟨g', k, none⟩ = some (.int .i64 (atOf L k : Nat)) := by
  have k1 := Blk.grown h1 G2 (fun e => by injection e; omega)
  have k2 := h2.grown G2 (fun e => by injection e; omega)
  have hg : w.heap.size + 1 < g' := by
    rcases G4 with e | e
    · injection e; omega
    · omega
  refine ⟨hB.grown G2 hB.size (fun k e => by injection e; omega), by omega, by omega, k1, k2, G1.frozenAt k, ?_⟩
  rw [G1.cellAt k (by have := G1.1; rw [nums_length] at this; omega)]
  exact nums_at hk
set_option maxHeartbeats 1000000 in
theorem refWith_ (b : Nat → Prop) (n c R S k v : Nat) (A : Option Addr) (x d : Int) (L : List Nat) (w : World) (h : RefAt b w A L) (hn : L.length = n) (hnn : n ≤ 129) (hk : k < n) (hx : x = k) (hd : (atOf L k : Int) + d = (v : Nat)) (hv : v ≤ 1099511627776) :
    Calls Try.prog 26 #[doc A n c R S, .int .i64 x, .int .i64 d] w fun e w' => (∃ A' c', e = .returned (doc A' n c' R S) ∧ RefAt (fun k => w.heap.size ≤ k) w' A' (L.set k v)) ∧ Below w.heap.size w w' := by
  subst hx
  obtain ⟨h1, h2⟩ := h
  rw [hn] at h1
  have hkL : k < L.length := by omega
  have HO : Hid ((((w.alloc (boxOf A n c R S)).alloc noneOf).alloc (Obj.cells #[] 2)).ownsRow w.heap.size 2 1 (.slice (some ⟨w.heap.size + 1 + 1, 0, none⟩) 0 0) 0 []) := by
    have hs2 : ((w.alloc (boxOf A n c R S)).alloc noneOf).heap.size = w.heap.size + 1 + 1 := by simp
    have := World.ownsRow_lit (base := w.heap.size) (e := 2) (size := 1) ((w.alloc (boxOf A n c R S)).alloc noneOf) #[] 0 (by rw [hs2]; omega) (by simp) (by simp)
    rw [hs2] at this
    exact this
  have hB3 : Below w.heap.size w (((w.alloc (boxOf A n c R S)).alloc noneOf).alloc (Obj.cells #[] 2)) := (((Below.refl _ _).alloc (Nat.le_refl _) _).alloc (by simp) _).alloc (by simp; omega) _
  have HV3 := Lib.hid (h1.below hB3)
  have HB3 := Lib.hid hB3
  have HB1 : Hid (BoxAt w.heap.size A n c R S (((w.alloc (boxOf A n c R S)).alloc noneOf).alloc (Obj.cells #[] 2))) := Blk.alloc (Blk.alloc (BoxAt.new w A n c R S) _) _
  have HB2 : Hid (Blk (((w.alloc (boxOf A n c R S)).alloc noneOf).alloc (Obj.cells #[] 2)) (w.heap.size + 1) 32 [.slice none 0 0, .int .i64 0, .int .i64 0]) := by
    have := (Blk.new (w.alloc (boxOf A n c R S)) 32 [.slice none 0 0, .int .i64 0, .int .i64 0]).alloc (Obj.cells #[] 2)
    show Blk _ _ _ _
    simpa using this
  have HSZ : Hid ((((w.alloc (boxOf A n c R S)).alloc noneOf).alloc (Obj.cells #[] 2)).heap.size = w.heap.size + 1 + 1 + 1) := by show _ = _; simp
  have HN1 := Lib.hid (nums_one L)
  clear hB3 h1 h2
  have HD := Lib.hid hd
  generalize ha : atOf L k = a at *
  have hw : IntKind.i64.wrap ((a : Int) + d) = (v : Nat) := by rw [IntKind.wrap_i64]; omega
  go_enter Try.func26, Try.ntmps26
  go_wp2_with (at_builtin; refine wpList_app2 rfl (.tmp 8) (.tmp 10) rfl w.heap.size (.slice (some ⟨w.heap.size + 1 + 1, 0, none⟩) 0 0) rfl (by exact HO.out) A n c (nums L) rfl (by exact HV3.out) (by exact HN1.out) (by omega) (by omega) (by exact HB3.out.size) ?_; intro g' c' w4 G1 G2 hg' G4; obtain ⟨hB4, hne3, hne4, k1, k2, fo, ho⟩ := with_facts (k := k) HB3.out HB1.out HB2.out HSZ.out G1.out G2.out G4 hkL; obtain ⟨q0, q1, q2⟩ := k1.cells; have r0 : w4.cell? ⟨w.heap.size + 1, 0, none⟩ = some (.slice none 0 0) := k2.cell 0; have r1 : w4.cell? ⟨w.heap.size + 1, 1, none⟩ = some (.int .i64 0) := k2.cell 1; have r2 : w4.cell? ⟨w.heap.size + 1, 2, none⟩ = some (.int .i64 0) := k2.cell 2; have f0 := k2.frozen 0; have f1 := k2.frozen 1; have f2 := k2.frozen 2; have HB4 := Lib.hid hB4; rw [ha] at ho; clear hB4 G4 k1 k2)
  have HF : Far (fun j => j = w.heap.size + 1) (w4.setCell ⟨g', k, none⟩ (.int .i64 (v : Nat))) ((((w4.setCell ⟨g', k, none⟩ (.int .i64 (v : Nat))).setCell ⟨w.heap.size + 1, 0, none⟩ (.slice (some ⟨g', 0, none⟩) n c')).setCell ⟨w.heap.size + 1, 1, none⟩ (.int .i64 (R : Nat))).setCell ⟨w.heap.size + 1, 2, none⟩ (.int .i64 (S : Nat))) := (((Far.refl (fun j => j = w.heap.size + 1) _).set_ (p := ⟨w.heap.size + 1, 0, none⟩) (fun _ => rfl) _).set_ (p := ⟨w.heap.size + 1, 1, none⟩) (fun _ => rfl) _).set_ (p := ⟨w.heap.size + 1, 2, none⟩) (fun _ => rfl) _
  have HROW := HF.row (G1.out.stored k (.int .i64 (v : Nat))).1 (fun j e e' => by
    simp [Value.ownBlock] at e
    omega)
  rw [nums_set] at HROW
  have HBE : Below w.heap.size w ((((w4.setCell ⟨g', k, none⟩ (.int .i64 (v : Nat))).setCell ⟨w.heap.size + 1, 0, none⟩ (.slice (some ⟨g', 0, none⟩) n c')).setCell ⟨w.heap.size + 1, 1, none⟩ (.int .i64 (R : Nat))).setCell ⟨w.heap.size + 1, 2, none⟩ (.int .i64 (S : Nat))) := (((HB4.out.setCell hg' _).setCell (by simp) _).setCell (by simp) _).setCell (by simp) _
  refine bodyPost_ret (v := .agg #[.slice (some ⟨g', 0, none⟩) n c', .int .i64 (R : Nat), .int .i64 (S : Nat)]) ?_ rfl ⟨⟨_, _, rfl, ?_, fun ad e => ?_⟩, HBE⟩
  · simp [results, Try.results26, go_sem, *]
  · rw [List.length_set, hn]
    exact Vals.of_own HROW
  · injection e with e
    subst e
    exact ⟨hg', (HROW.lt g' rfl).2⟩
end Go.Proofs.Ytgjicnjibhofkaa
