/- Where the law SlabPlays stands: what the program's slab has, and what the law's own lists say. Conditions: those of each theorem. -/
import Derived.Test.YtmkegonlepkhdaaRowed
namespace Go.Proofs.Ytmkegonlepkhdaa
open Go.RowKit

/-- The law's lists say the same as the slab. -/
structure Same (n : Nat) (vs : List (Option Value)) (hs ws : List Value) : Prop where
  lh : hs.length = n
  lw : ws.length = n
  lv : vs.length = n
  has : ∀ (i : Nat) (o : Option Value), vs[i]? = some o → hs[i]? = some (Value.bool o.isSome)
  what : ∀ (i : Nat) (v : Value), vs[i]? = some (some v) → ws[i]? = some v ∧ ∃ z, v = Value.int .i64 z
section
variable {n p : Nat} {vs : List (Option Value)} {hs ws : List Value}
theorem Same.first (n : Nat) : Same n (List.replicate n none) (madeCells #[.bool false] n).toList (madeCells #[.int .i64 0] n).toList := by
  refine ⟨by simpa using size_madeCells #[.bool false] n, by simpa using size_madeCells #[.int .i64 0] n, by simp, fun i o ho => ?_, fun i v hv => ?_⟩
  · rw [List.getElem?_replicate] at ho
    split at ho
    case isTrue hi =>
      injection ho with ho
      subst ho
      rw [toList_madeCells_one, List.getElem?_replicate, if_pos hi]
      rfl
    case isFalse => cases ho
  · rw [List.getElem?_replicate] at hv
    split at hv <;> cases hv
theorem Same.take (h : Same n vs hs ws) (hp : p < n) (z : Int) : Same n (vs.set p (some (.int .i64 z))) (hs.set p (.bool true)) (ws.set p (.int .i64 z)) := by
  have h1 := h.lh
  have h2 := h.lw
  have h3 := h.lv
  refine ⟨by simpa using h1, by simpa using h2, by simpa using h3, fun i o ho => ?_, fun i v hv => ?_⟩
  · by_cases e : p = i
    · subst e
      rw [List.getElem?_set_self (by omega)] at ho ⊢
      injection ho with ho
      subst ho
      rfl
    · rw [List.getElem?_set_ne e] at ho ⊢
      exact h.has i o ho
  · by_cases e : p = i
    · subst e
      rw [List.getElem?_set_self (by omega)] at hv ⊢
      injection hv with hv
      injection hv with hv
      subst hv
      exact ⟨rfl, _, rfl⟩
    · rw [List.getElem?_set_ne e] at hv ⊢
      exact h.what i v hv
theorem Same.give (h : Same n vs hs ws) (hp : p < n) : Same n (vs.set p none) (hs.set p (.bool false)) ws := by
  have h1 := h.lh
  have h3 := h.lv
  refine ⟨by simpa using h1, h.lw, by simpa using h3, fun i o ho => ?_, fun i v hv => ?_⟩
  · by_cases e : p = i
    · subst e
      rw [List.getElem?_set_self (by omega)] at ho ⊢
      injection ho with ho
      subst ho
      rfl
    · rw [List.getElem?_set_ne e] at ho ⊢
      exact h.has i o ho
  · by_cases e : p = i
    · subst e
      rw [List.getElem?_set_self (by omega)] at hv
      cases hv
    · rw [List.getElem?_set_ne e] at hv
      exact h.what i v hv
theorem Same.set_ {v : Value} (h : Same n vs hs ws) (hv : vs[p]? = some (some v)) (z : Int) : Same n (vs.set p (some (.int .i64 z))) hs (ws.set p (.int .i64 z)) := by
  have h1 := h.lh
  have h2 := h.lw
  have h3 := h.lv
  have hp := (List.getElem?_eq_some_iff.1 hv).1
  refine ⟨h1, by simpa using h2, by simpa using h3, fun i o ho => ?_, fun i u hu => ?_⟩
  · by_cases e : p = i
    · subst e
      rw [List.getElem?_set_self (by omega)] at ho
      injection ho with ho
      subst ho
      exact h.has p (some v) hv
    · rw [List.getElem?_set_ne e] at ho
      exact h.has i o ho
  · by_cases e : p = i
    · subst e
      rw [List.getElem?_set_self (by omega)] at hu ⊢
      injection hu with hu
      injection hu with hu
      subst hu
      exact ⟨rfl, _, rfl⟩
    · rw [List.getElem?_set_ne e] at hu ⊢
      exact h.what i u hu
end
/-- Two blocks alone. -/
def both (b c : Nat) : Nat → Prop := fun k => k = b ∨ k = c
/-- Where the loop stands: the slab, the lists in blocks b and c, t places taken. -/
def PlaysRel (w : World) (g q f b c n : Nat) (vs : List (Option Value)) (fr : List Nat) (t : Nat) (w' : World) : Prop :=
  ∃ hs ws, SlabAt 49 51 (.int .i64 0) w' g q f n vs fr ∧ Blk w' b 4 hs ∧ Blk w' c 3 ws ∧ Same n vs hs ws ∧ fr.length + t = n ∧ Below w.heap.size w w'
/-- The five blocks are new, and five. -/
structure Five (w : World) (g q f b c : Nat) : Prop where
  lg : w.heap.size ≤ g
  lq : w.heap.size ≤ q
  lf : w.heap.size ≤ f
  lb : w.heap.size ≤ b
  lc : w.heap.size ≤ c
  b3 : ¬ three g q f b
  c3 : ¬ three g q f c
  bc : b ≠ c
section
variable {w wr w' : World} {g q f b c n t p : Nat} {vs : List (Option Value)} {fr : List Nat}
theorem PlaysRel.turn (h : PlaysRel w g q f b c n vs fr t wr) (h5 : Five w g q f b c) {hs ws : List Value} {vs' : List (Option Value)} {fr' : List Nat} {t' : Nat} {w'' : World} (hr : SlabAt 49 51 (.int .i64 0) w' g q f n vs' fr') (hf : Far (three g q f) wr w')
    (hw : Far (both b c) w' w'') (hb : Blk w'' b 4 hs) (hc : Blk w'' c 3 ws) (hs' : Same n vs' hs ws) (ht : fr'.length + t' = n) : PlaysRel w g q f b c n vs' fr' t' w'' := by
  obtain ⟨_, _, _, _, _, _, _, h4⟩ := h
  have h6 := below_three h4 hf h5.lg h5.lq h5.lf h4.size
  have e1 : ∀ x, three g q f x → ¬ both b c x := fun x hx e => by rcases e with rfl | rfl; exact h5.b3 hx; exact h5.c3 hx
  exact ⟨hs, ws, hr.far hw (e1 g (.inl rfl)) (e1 q (.inr (.inl rfl))) (e1 f (.inr (.inr rfl))), hb, hc, hs', ht, h6.trans (hw.below h6.size (fun k hk e => by have := h5.lb; have := h5.lc; rcases e with e | e <;> omega))⟩
theorem PlaysRel.blks (h : PlaysRel w g q f b c n vs fr t wr) (h5 : Five w g q f b c) (hf : Far (three g q f) wr w') : ∃ hs ws, Blk w' b 4 hs ∧ Blk w' c 3 ws ∧ Same n vs hs ws := by
  obtain ⟨hs, ws, _, h2, h3, h4, _⟩ := h
  exact ⟨hs, ws, h2.far hf h5.b3, h3.far hf h5.c3, h4⟩
theorem plays_take {z : Int} (h : PlaysRel w g q f b c n vs (fr ++ [p]) t wr) (h5 : Five w g q f b c) (hr : SlabAt 49 51 (.int .i64 0) w' g q f n (vs.set p (some (.int .i64 z))) fr) (hf : Far (three g q f) wr w') :
    PlaysRel w g q f b c n (vs.set p (some (.int .i64 z))) fr (t + 1) ((w'.setCell ⟨b, p, none⟩ (.bool true)).setCell ⟨c, p, none⟩ (.int .i64 z)) := by
  obtain ⟨hs, ws, hb, hc, hS⟩ := h.blks h5 hf
  have hp : p < n := by obtain ⟨_, _, h1, _⟩ := h; have := (List.getElem?_eq_some_iff.1 ((h1.free p).1 (by simp))).1; have := hS.lv; omega
  refine h.turn h5 hr hf (((Far.refl _ w').set_ (p := ⟨b, p, none⟩) (fun _ => .inl rfl) _).set_ (p := ⟨c, p, none⟩) (fun _ => .inr rfl) _) ((hb.set_ p _).other (p := ⟨c, p, none⟩) h5.bc _) ((hc.other (p := ⟨b, p, none⟩) (fun e => h5.bc e.symm) _).set_ p _) (hS.take hp z) ?_
  obtain ⟨_, _, _, _, _, _, h6, _⟩ := h
  simp at h6
  omega
theorem plays_give {v : Value} (h : PlaysRel w g q f b c n vs fr t wr) (h5 : Five w g q f b c) (hr : SlabAt 49 51 (.int .i64 0) w' g q f n (vs.set p none) (fr ++ [p])) (hf : Far (three g q f) wr w') (hv : vs[p]? = some (some v)) :
    1 ≤ t ∧ PlaysRel w g q f b c n (vs.set p none) (fr ++ [p]) (t - 1) (w'.setCell ⟨b, p, none⟩ (.bool false)) := by
  obtain ⟨hs, ws, hb, hc, hS⟩ := h.blks h5 hf
  have hp : p < n := by have := (List.getElem?_eq_some_iff.1 hv).1; have := hS.lv; omega
  have ht := hr.count
  simp at ht
  have h6 : fr.length + t = n := by obtain ⟨_, _, _, _, _, _, h6, _⟩ := h; exact h6
  refine ⟨by omega, h.turn h5 hr hf ((Far.refl _ w').set_ (p := ⟨b, p, none⟩) (fun _ => .inl rfl) _) (hb.set_ p _) (hc.other (p := ⟨b, p, none⟩) (fun e => h5.bc e.symm) _) (hS.give hp) ?_⟩
  simp
  omega
theorem plays_set {v : Value} {z : Int} (h : PlaysRel w g q f b c n vs fr t wr) (h5 : Five w g q f b c) (hr : SlabAt 49 51 (.int .i64 0) w' g q f n (vs.set p (some (.int .i64 z))) fr) (hf : Far (three g q f) wr w') (hv : vs[p]? = some (some v)) :
    PlaysRel w g q f b c n (vs.set p (some (.int .i64 z))) fr t (w'.setCell ⟨c, p, none⟩ (.int .i64 z)) := by
  obtain ⟨hs, ws, hb, hc, hS⟩ := h.blks h5 hf
  have h6 : fr.length + t = n := by obtain ⟨_, _, _, _, _, _, h6, _⟩ := h; exact h6
  exact h.turn h5 hr hf ((Far.refl _ w').set_ (p := ⟨c, p, none⟩) (fun _ => .inr rfl) _) (hb.other (p := ⟨c, p, none⟩) h5.bc _) (hc.set_ p _) (hS.set_ hv z) h6
end
section
variable {w w1 w2 : World} {g q f n : Nat} {vs : List (Option Value)} {fr : List Nat}
theorem first_apart (hb : Below w.heap.size w w1) (ha : NewAt w1 g q f) (hr : SlabAt 49 51 (.int .i64 0) w2 g q f n vs fr) {x y : Nat} (hx : w2.heap.size ≤ x) (hy : w2.heap.size ≤ y) (hxy : x ≠ y) : Five w g q f x y := by
  have h1 := hb.size
  have h2 := hr.lt
  obtain ⟨a1, a2, a3, _⟩ := ha
  exact ⟨by omega, by omega, by omega, by omega, by omega, fun e => by rcases e with e | e | e <;> omega, fun e => by rcases e with e | e | e <;> omega, hxy⟩
theorem first_one (hr : SlabAt 49 51 (.int .i64 0) w2 g q f n (List.replicate n none) (List.range n).reverse) (hb : Below w.heap.size w w2) :
    PlaysRel w g q f w2.heap.size (w2.heap.size + 1) n (List.replicate n none) (List.range n).reverse 0 ((w2.alloc (.cells (madeCells #[.bool false] n) 4)).alloc (.cells (madeCells #[.int .i64 0] n) 3)).drew := by
  have hs := hb.size
  refine ⟨_, _, (hr.below (((Below.refl _ _).alloc (Nat.le_refl _) _).alloc (by simp) _)).drew, ?_, ?_, Same.first n, by simp, ((hb.alloc hs _).alloc (by simp; omega) _).drew⟩
  · have := ((Blk.new w2 4 (madeCells #[.bool false] n).toList).alloc (.cells (madeCells #[.int .i64 0] n) 3)).drew
    simpa using this
  · have := (Blk.new (w2.alloc (.cells (madeCells #[.bool false] n) 4)) 3 (madeCells #[.int .i64 0] n).toList).drew
    simpa using this
theorem first_two (hr : SlabAt 49 51 (.int .i64 0) w2 g q f n (List.replicate n none) (List.range n).reverse) (hb : Below w.heap.size w w2) :
    PlaysRel w g q f (w2.heap.size + 1) w2.heap.size n (List.replicate n none) (List.range n).reverse 0 ((w2.alloc (.cells (madeCells #[.int .i64 0] n) 3)).alloc (.cells (madeCells #[.bool false] n) 4)).drew := by
  have hs := hb.size
  refine ⟨_, _, (hr.below (((Below.refl _ _).alloc (Nat.le_refl _) _).alloc (by simp) _)).drew, ?_, ?_, Same.first n, by simp, ((hb.alloc hs _).alloc (by simp; omega) _).drew⟩
  · have := (Blk.new (w2.alloc (.cells (madeCells #[.int .i64 0] n) 3)) 4 (madeCells #[.bool false] n).toList).drew
    simpa using this
  · have := ((Blk.new w2 3 (madeCells #[.int .i64 0] n).toList).alloc (.cells (madeCells #[.bool false] n) 4)).drew
    simpa using this
theorem first_five (hb : Below w.heap.size w w1) (ha : NewAt w1 g q f) (hr : SlabAt 49 51 (.int .i64 0) w2 g q f n vs fr) : Five w g q f w2.heap.size (w2.heap.size + 1) := first_apart hb ha hr (Nat.le_refl _) (by omega) (by omega)
theorem first_five' (hb : Below w.heap.size w w1) (ha : NewAt w1 g q f) (hr : SlabAt 49 51 (.int .i64 0) w2 g q f n vs fr) : Five w g q f (w2.heap.size + 1) w2.heap.size := first_apart hb ha hr (by omega) (Nat.le_refl _) (by omega)
end
end Go.Proofs.Ytmkegonlepkhdaa
