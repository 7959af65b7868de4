/- The contract of the document's 'with': lines with a line as another one. Conditions: those of each theorem. -/
import Derived.Test.YtlbloopiajjpfaaRefs
import Derived.Deep.AppendLies
namespace Go.Proofs.Ytlbloopiajjpfaa
open Go.RowKit

theorem info60 : (Try.prog.info? 60).map (fun i => (i.zero, i.size, i.bytes)) = some (some (.slice none 0 0), 1, 24) := by kernel_rfl
theorem info3 : (Try.prog.info? 3).map (fun i => (i.zero, i.size, i.bytes)) = some (some (.int .i64 0), 1, 8) := by kernel_rfl
/-- append of lines onto an own empty row. -/
theorem wpList_lines {w : World} {ops : Array Oper} {rest : List Oper} {o : Oper} {a : Act} {Q : Exit → Act → World → Prop} (hgd : o.guard = none) (s x : Operand)
    (ho : o.op = .call { callee := .builtin .append, args := #[s, x], argTypes := #[30, 30] })
    (base : Nat) (v : Value) (hs : a.eval s = v) (hown : w.ownsRow base 60 1 v 0 [])
    (A : Option Addr) (m c : Nat) (vs : List Value) (hx : a.eval x = .slice A m c) (h : Vals w A m vs) (h1 : ∀ u ∈ vs, u.oneCell' = true) (hm : 1 ≤ m) (hn : m ≤ 1000000) (hb : base ≤ w.heap.size)
    (hK : ∀ g' c' w', Hid (w'.ownsRow base 60 1 (.slice (some ⟨g', 0, none⟩) m c') m vs) → Hid (w.grownBy w' v.ownBlock) → base ≤ g' → (v.ownBlock = some g' ∨ g' = w.heap.size) →
      wpList Try.prog ops Q rest (a.put o.dst (.slice (some ⟨g', 0, none⟩) m c')) w') : wpList Try.prog ops Q (o :: rest) a w := by
  refine wpList_plain hgd fun K hK' => ?_
  obtain ⟨v', w', hrun, h2, h3, h5⟩ := run_append_vals (P := Try.prog) w base 30 o.type 60 (.slice none 0 0) 24 Try.underlying30 info60 rfl v 0 [] hown A m c vs h h1 (by omega) (by omega) hb
  rw [Nat.zero_add, List.nil_append] at h2
  obtain ⟨g', c', rfl, hg, _⟩ := h2.form (by omega)
  unfold Oper.wp
  simp [execOp, ho, resolve, invoke, builtin, hs, hx, hrun, Result.andThen]
  exact hK' _ _ (hK g' c' w' h2 h3 hg (by
    rcases h5 with h5 | h5
    · exact .inl h5.symm
    · injection h5 with h5
      exact .inr h5))
theorem ref_with {b : Nat → Prop} {n l c2 c' g' : Nat} {w W : World} {B : Option Addr} {L : List (List Nat)} {xs : List Nat} {vs : List Value} (hv : ∀ (l : Nat) (xs : List Nat), L[l]? = some xs → ∃ (B : Option Addr) (c : Nat), vs[l]? = some (.slice B xs.length c) ∧ RowAt b w B c xs)
    (hr : RowAt b w B c2 xs) (hb : ∀ k, w.heap.size ≤ k → b k) (hn : L.length = n) (hl : l < n) (hlv : vs.length = n) (ho : W.ownsRow w.heap.size 60 1 (.slice (some ⟨g', 0, none⟩) n c') n (vs.set l (.slice B xs.length c2))) (hg : w.heap.size ≤ g') (hlt : g' < W.heap.size) (hW : Below w.heap.size w W) :
    RefAt b W (some ⟨g', 0, none⟩) (L.set l xs) := by
  refine ⟨vs.set l (.slice B xs.length c2), by simpa [hn] using Vals.of_own ho, fun ad e => ?_, fun l' xs' hl' => ?_⟩
  · injection e with e
    subst e
    exact ⟨hb _ hg, hlt⟩
  · by_cases e : l = l'
    · subst e
      rw [List.getElem?_set_self (by omega)] at hl'
      injection hl' with hl'
      subst hl'
      exact ⟨B, c2, List.getElem?_set_self (by omega), hr.below hW⟩
    · rw [List.getElem?_set_ne e] at hl'
      obtain ⟨B', c3, h1, h2⟩ := hv l' xs' hl'
      exact ⟨B', c3, by rw [List.getElem?_set_ne e]; exact h1, h2.below hW⟩
theorem with_facts {w W w4 : World} {A : Option Addr} {n m c l g' c' : Nat} {vs : List Value} (hB : Below w.heap.size w W) (h1 : Blk W w.heap.size 32 [.slice A n c, .int .i64 (m : Nat)]) (h2 : Blk W (w.heap.size + 1) 32 [.slice none 0 0, .int .i64 0]) (hs : W.heap.size = w.heap.size + 1 + 1 + 1)
    (G1 : w4.ownsRow w.heap.size 60 1 (.slice (some ⟨g', 0, none⟩) n c') n vs) (G2 : W.grownBy w4 (some (w.heap.size + 1 + 1))) (G4 : some (w.heap.size + 1 + 1) = some g' ∨ g' = W.heap.size) (hl : l < n) (hv : vs.length = n) :
    Below w.heap.size w w4 ∧ w.heap.size ≠ g' ∧ w.heap.size + 1 ≠ g' ∧ w4.cell? ⟨w.heap.size, 1, none⟩ = some (.int .i64 (m : Nat)) ∧ w4.cell? ⟨w.heap.size + 1, 0, none⟩ = some (.slice none 0 0) ∧ w4.cell? ⟨w.heap.size + 1, 1, none⟩ = some (.int .i64 0) ∧
    w4.frozen? ⟨w.heap.size + 1, 0, none⟩ = false ∧ w4.frozen? ⟨w.heap.size + 1, 1, none⟩ = false ∧ w4.frozen? ⟨g', l, none⟩ = false ∧ ∃ o, w4.cell? ⟨g', l, none⟩ = some o := by
  have k1 := h1.grown G2 (fun e => by injection e; omega)
  have k2 := h2.grown G2 (fun e => by injection e; omega)
  have hg : w.heap.size + 1 < g' := by
    rcases G4 with e | e
    · injection e; omega
    · omega
  exact ⟨hB.grown G2 hB.size (fun k e => by injection e; omega), by omega, by omega, k1.cell 1, k2.cell 0, k2.cell 1, k2.frozen 0, k2.frozen 1, G1.frozenAt l, by
    rw [G1.cellAt l (by omega)]
    exact ⟨_, List.getElem?_eq_getElem (by omega)⟩⟩
set_option maxHeartbeats 1000000 in
theorem with_ (b : Nat → Prop) (n m c l r c2 : Nat) (A B : Option Addr) (x : Int) (L : List (List Nat)) (xs : List Nat) (w : World) (h : RefAt b w A L) (hn : L.length = n) (hnn : n ≤ 129) (hl : l < n) (hx : x = l) (hr : RowAt b w B c2 xs) (hlen : xs.length = r) (hb : ∀ k, w.heap.size ≤ k → b k) :
    Calls Try.prog 25 #[.agg #[.slice A n c, .int .i64 (m : Nat)], .int .i64 x, .slice B r c2] w fun e w' => (∃ A' c', e = .returned (.agg #[.slice A' n c', .int .i64 (m : Nat)]) ∧ RefAt b w' A' (L.set l xs)) ∧ Below w.heap.size w w' := by
  subst hx hlen
  obtain ⟨vs, h1, h2, h3⟩ := h
  have hlv : vs.length = n := by rw [← hn]; exact h1.1
  rw [hn] at h1
  have hone : ∀ u ∈ vs, u.oneCell' = true := by
    intro u hu
    obtain ⟨i, hi⟩ := List.getElem?_of_mem hu
    have hil := (List.getElem?_eq_some_iff.1 hi).1
    obtain ⟨B', c3, h4, _⟩ := h3 i L[i] (List.getElem?_eq_getElem (by omega))
    rw [hi] at h4
    injection h4 with h4
    subst h4
    rfl
  have HW := Lib.hid (fun W c' g' ho hg hlt hW => ref_with (W := W) (c' := c') (g' := g') h3 hr hb hn hl hlv ho hg hlt hW)
  have HV := Lib.hid h1
  have H1 := Lib.hid hone
  clear h1 h2 h3 hr hone
  generalize xs.length = r at *
  have HO : Hid ((((w.alloc (Obj.cells #[Value.slice A n c, Value.int IntKind.i64 (m : Nat)] 32)).alloc (Obj.cells #[Value.slice none 0 0, Value.int IntKind.i64 0] 32)).alloc (Obj.cells #[] 60)).ownsRow w.heap.size 60 1 (.slice (some ⟨w.heap.size + 1 + 1, 0, none⟩) 0 0) 0 []) := by
    have hs2 : ((w.alloc (Obj.cells #[Value.slice A n c, Value.int IntKind.i64 (m : Nat)] 32)).alloc (Obj.cells #[Value.slice none 0 0, Value.int IntKind.i64 0] 32)).heap.size = w.heap.size + 1 + 1 := by simp
    have := World.ownsRow_lit (base := w.heap.size) (e := 60) (size := 1) ((w.alloc (Obj.cells #[Value.slice A n c, Value.int IntKind.i64 (m : Nat)] 32)).alloc (Obj.cells #[Value.slice none 0 0, Value.int IntKind.i64 0] 32)) #[] 0 (by rw [hs2]; omega) (by simp) (by simp)
    rw [hs2] at this
    exact this
  have hB3 : Below w.heap.size w (((w.alloc (Obj.cells #[Value.slice A n c, Value.int IntKind.i64 (m : Nat)] 32)).alloc (Obj.cells #[Value.slice none 0 0, Value.int IntKind.i64 0] 32)).alloc (Obj.cells #[] 60)) := (((Below.refl _ _).alloc (Nat.le_refl _) _).alloc (by simp) _).alloc (by simp; omega) _
  have HV3 := Lib.hid (HV.out.below hB3)
  have HB3 := Lib.hid hB3
  have hb1 : Blk (((w.alloc (Obj.cells #[Value.slice A n c, Value.int IntKind.i64 (m : Nat)] 32)).alloc (Obj.cells #[Value.slice none 0 0, Value.int IntKind.i64 0] 32)).alloc (Obj.cells #[] 60)) w.heap.size 32 [Value.slice A n c, Value.int IntKind.i64 (m : Nat)] := ((Blk.new w 32 [Value.slice A n c, Value.int IntKind.i64 (m : Nat)]).alloc _).alloc _
  have hb2 : Blk (((w.alloc (Obj.cells #[Value.slice A n c, Value.int IntKind.i64 (m : Nat)] 32)).alloc (Obj.cells #[Value.slice none 0 0, Value.int IntKind.i64 0] 32)).alloc (Obj.cells #[] 60)) (w.heap.size + 1) 32 [Value.slice none 0 0, Value.int IntKind.i64 0] := by
    have := (Blk.new (w.alloc (Obj.cells #[Value.slice A n c, Value.int IntKind.i64 (m : Nat)] 32)) 32 [Value.slice none 0 0, Value.int IntKind.i64 0]).alloc (Obj.cells #[] 60)
    simpa using this
  have HB1 := Lib.hid hb1
  have HB2 := Lib.hid hb2
  have hsz : (((w.alloc (Obj.cells #[Value.slice A n c, Value.int IntKind.i64 (m : Nat)] 32)).alloc (Obj.cells #[Value.slice none 0 0, Value.int IntKind.i64 0] 32)).alloc (Obj.cells #[] 60)).heap.size = w.heap.size + 1 + 1 + 1 := by simp
  have HSZ := Lib.hid hsz
  clear hB3 hb1 hb2 hsz HV
  go_enter Try.func25, Try.ntmps25
  go_wp2_with (at_builtin; refine wpList_lines rfl (.tmp 8) (.tmp 10) rfl w.heap.size (.slice (some ⟨w.heap.size + 1 + 1, 0, none⟩) 0 0) rfl (by exact HO.out) A n c vs rfl (by exact HV3.out) (by exact H1.out) (by omega) (by omega) (by exact HB3.out.size) ?_; intro g' c' w4 G1 G2 hg' G4; obtain ⟨hB4, hne3, hne4, q1, q2, q3, f2, f3, fo, o, ho⟩ := with_facts (l := l) HB3.out HB1.out HB2.out HSZ.out G1.out G2.out G4 hl hlv; have HB4 := Lib.hid hB4; clear hB4 G4)
  have HF : Far (fun k => k = w.heap.size + 1) (w4.setCell ⟨g', l, none⟩ (.slice B r c2)) (((w4.setCell ⟨g', l, none⟩ (.slice B r c2)).setCell ⟨w.heap.size + 1, 0, none⟩ (.slice (some ⟨g', 0, none⟩) n c')).setCell ⟨w.heap.size + 1, 1, none⟩ (.int .i64 (m : Nat))) := ((Far.refl (fun k => k = w.heap.size + 1) _).set_ (p := ⟨w.heap.size + 1, 0, none⟩) (fun _ => rfl) _).set_ (p := ⟨w.heap.size + 1, 1, none⟩) (fun _ => rfl) _
  have HROW := HF.row (G1.out.stored l (.slice B r c2)).1 (fun k e e' => by
    simp [Value.ownBlock] at e
    omega)
  have HBE : Below w.heap.size w (((w4.setCell ⟨g', l, none⟩ (.slice B r c2)).setCell ⟨w.heap.size + 1, 0, none⟩ (.slice (some ⟨g', 0, none⟩) n c')).setCell ⟨w.heap.size + 1, 1, none⟩ (.int .i64 (m : Nat))) := ((HB4.out.setCell hg' _).setCell (by simp) _).setCell (by simp) _
  refine bodyPost_ret (v := .agg #[.slice (some ⟨g', 0, none⟩) n c', .int .i64 (m : Nat)]) ?_ rfl ⟨⟨_, _, rfl, HW.out _ c' g' HROW hg' (HROW.lt g' rfl).2 HBE⟩, HBE⟩
  simp [results, Try.results25, go_sem, *]
end Go.Proofs.Ytlbloopiajjpfaa
