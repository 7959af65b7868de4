/- A region that draws its order, whose last operations wait for all before them: a condition on the world that is asked only until the first of those has come up. Conditions: those of each theorem. -/
import Derived.Test.YtfhlgmmfknfamaaBase
import Derived.Deep.RegionHeld3
namespace Go.Proofs.Ytfhlgmmfknfamaa
open Go.RowKit

section
variable {P : Program} {ops : Array Oper} {Q : Exit → Act → World → Prop} {md : Region.Mode} {S : World → Prop} {k : Nat}

/-- Whatever comes up next: until number k has come up, S holds behind it. -/
def Til (P : Program) (md : Region.Mode) (ops : Array Oper) (Q : Exit → Act → World → Prop) (S : World → Prop) (k : Nat) : Nat → Array Bool → Act → World → Prop
  | 0, l, a, w => Region.ready md ops l = [] ∧ Q .normal a w
  | n + 1, l, a, w => (Region.ready md ops l = [] → Q .normal a w) ∧
    ∀ i ∈ Region.ready md ops l, wpOp P ops Q i (fun a' w' => ((l.setIfInBounds i true).getD k true = false → S w') ∧ Til P md ops Q S k n (l.setIfInBounds i true) a' w') a w

theorem til_any : ∀ (n : Nat) (l : Array Bool) (a : Act) (w : World), Til P md ops Q S k n l a w → wpAny P md ops Q n l a w
  | 0, _, _, _, h => h
  | n + 1, _, _, _, h => ⟨h.1, fun i hi => wpOp_mono (fun a' w' h' => til_any n _ a' w' h'.2) (h.2 i hi)⟩

/-- Does number k wait for number i? -/
def waits (md : Region.Mode) (ops : Array Oper) (k i : Nat) : Bool := match ops[k]? with
  | some o => o.after.any fun e => Region.binds md e && e.on == i
  | none => false

theorem waits_not {i : Nat} {l : Array Bool} (hw : waits md ops k i = true) (hi : l.getD i false = false) : k ∉ Region.ready md ops l := by
  intro hk
  obtain ⟨_, o, ho, hall⟩ := mem_ready.1 hk
  unfold waits at hw
  rw [ho] at hw
  obtain ⟨e, he, hb⟩ := Array.any_eq_true'.1 hw
  rw [Bool.and_eq_true, beq_iff_eq] at hb
  have := hall e he hb.1
  rw [hb.2, hi] at this
  cases this

theorem til_first {i : Nat} {oi : Oper} {v : Value} (hi : ops[i]? = some oi) (hsel : ∀ (j : Nat) (o : Oper) cs b, ops[j]? = some o → o.op ≠ .select cs b)
    (hQ : ∀ c a w, Q (.panic c) (a.put oi.dst v) w → Q (.panic c) a w) (hki : k ≠ i) (hw : waits md ops k i = true) :
    ∀ (n : Nat) (l : Array Bool) (a : Act) (w : World),
      (∀ j oj, ops[j]? = some oj → j ≠ i → l.getD j true = false → (∀ e ∈ oj.after, Region.binds md e = true → e.on ≠ i) → oi.apart ops oj = true) →
      i ∈ Region.ready md ops l → l.getD k true = false → YieldsIf P ops S oi v a → S w →
      Til P md ops Q S k n (l.setIfInBounds i true) (a.put oi.dst v) w → Til P md ops Q S k (n + 1) l a w := by
  intro n
  induction n with
  | zero =>
    intro l a w _ hr _ hy hS H
    refine ⟨fun h => (by rw [h] at hr; cases hr), fun j hj => ?_⟩
    by_cases hji : j = i
    · subst hji
      exact hy.wpOp hi hS ⟨fun _ => hS, H⟩
    · have := ready_mono hj hji
      rw [H.1] at this
      cases this
  | succ n ih =>
    intro l a w hfree hr hl hy hS H
    refine ⟨fun h => (by rw [h] at hr; cases hr), fun j hj => ?_⟩
    have hun := (mem_ready.1 hr).1
    have hif : l.getD i false = false := by
      rcases Nat.lt_or_ge i l.size with h' | h'
      · simp [h'] at hun ⊢
        exact hun
      · simp [Array.getElem?_eq_none h']
    by_cases hji : j = i
    · subst hji
      exact hy.wpOp hi hS ⟨fun _ => hS, H⟩
    · have hjk : j ≠ k := fun e => waits_not hw hif (e ▸ hj)
      obtain ⟨hjun, oj, hoj, hall⟩ := mem_ready.1 hj
      have hnot : ∀ e ∈ oj.after, Region.binds md e = true → e.on ≠ i := fun e he hb heq => by
        have h1 := hall e he hb
        rw [heq, hif] at h1
        cases h1
      have h2 := wpOp_putIf hoj (hfree j oj hoj hji hjun hnot) (fun cs b => hsel i oi cs b hi) (fun cs b => hsel j oj cs b hoj) hQ hy (H.2 j (ready_mono hj hji))
      have hlk : (l.setIfInBounds j true).getD k true = false := (getD_set_ne true hjk).trans hl
      refine wpOp_mono (fun a' w' h3 => ?_) h2
      have hS' : S w' := h3.2.1 (by rw [getD_set_ne true hjk, getD_set_ne true (Ne.symm hki)]; exact hl)
      refine ⟨fun _ => hS', ih _ a' w' (fun x ox hx hxi hxun hno => ?_) (ready_mono hr (Ne.symm hji)) hlk h3.1 hS' ?_⟩
      · refine hfree x ox hx hxi ?_ hno
        by_cases hjx : j = x
        · subst hjx
          exact hjun
        · rw [getD_set_ne true hjx] at hxun
          exact hxun
      · rw [Array.setIfInBounds_comm _ _ hji]
        exact h3.2.2

/-- Number i first. -/
theorem til_take {i : Nat} {oi : Oper} {v : Value} {n : Nat} {l : Array Bool} {a : Act} {w : World} (hi : ops[i]? = some oi)
    (hs : Region.noSelect ops = true) (hf : Region.free md ops l i = true) (hr : (Region.ready md ops l).contains i = true) (hki : k ≠ i) (hw : waits md ops k i = true) (hl : l.getD k true = false)
    (hQ : ∀ c a w, Q (.panic c) (a.put oi.dst v) w → Q (.panic c) a w) (hy : YieldsIf P ops S oi v a) (hS : S w)
    (h : Til P md ops Q S k n (l.setIfInBounds i true) (a.put oi.dst v) w) : Til P md ops Q S k (n + 1) l a w :=
  til_first hi (Region.noSelect_spec hs) hQ hki hw n l a w (Region.free_spec hi hf) (by simpa using hr) hl hy hS h

/-- The only one that may come up now. -/
theorem til_one {i : Nat} {o : Oper} {n : Nat} {l : Array Bool} {a : Act} {w : World} (hr : Region.ready md ops l = [i]) (ho : ops[i]? = some o)
    (h : ∀ K' : Act → World → Prop, Hid (∀ a w, ((l.setIfInBounds i true).getD k true = false → S w) → Til P md ops Q S k n (l.setIfInBounds i true) a w → K' a w) →
      if Region.wanted o (yielded ops a.tmps) = true then Oper.wp P o a w K' Q else K' (a.put o.dst undef) w) : Til P md ops Q S k (n + 1) l a w := by
  refine ⟨fun h0 => (by rw [hr] at h0; cases h0), fun j hj => ?_⟩
  rw [hr, List.mem_singleton] at hj
  subst hj
  exact wpOp_step ho fun K' hK => h K' fun a w hS hT => hK a w ⟨hS, hT⟩

theorem til_done {l : Array Bool} {a : Act} {w : World} (hr : Region.ready md ops l = []) (h : Q .normal a w) : ∀ n, Til P md ops Q S k n l a w
  | 0 => ⟨hr, h⟩
  | _ + 1 => ⟨fun _ => h, by rw [hr]; simp⟩

/-- The beginning. -/
theorem til_begin {id : Nat} {a : Act} {w : World} (S : World → Prop) (k : Nat) (hm : P.follows .mixedOrders = true) (h : Til P .any ops Q S k ops.size (Array.replicate ops.size false) a w.drew) : (Code.region id ops true).wp P Q a w :=
  wp_region_any hm (til_any _ _ _ _ h)
end

theorem past {b : Bool} {q : Prop} (h : b = true) : b = false → q := fun e => by rw [h] at e; cases e
end Go.Proofs.Ytfhlgmmfknfamaa
