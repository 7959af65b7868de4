/- The program's gens hold what the laws want of them. Conditions: those of each theorem. -/
import Derived.Test.YtfhlgmmfknfamaaGWhere
import Derived.Test.YtfhlgmmfknfamaaGStep
import Derived.Test.YtfhlgmmfknfamaaGRekey
import Derived.Test.YtfhlgmmfknfamaaGBins
namespace Go.Proofs.Ytfhlgmmfknfamaa
open Go.RowKit

/-- Those at g, which live in the blocks b, are as S: the old generation's key is theirs, and the other's while it is moved to. -/
def Tm : Gbl := fun b w g S => b g ∧ (∀ k, b k → k < w.heap.size) ∧ ∃ p q, Blk w g 56 (gcs S.n p q S.o S.mv.isSome (S.mv.getD 0) S.ep) ∧ kof p q S.o = S.key S.o ∧ (S.mv.isSome = true → kof p q (!S.o) = S.key (!S.o))
section
variable {b : Nat → Prop} {w w' : World} {g : Nat} {S : St} {f : Flo} {k : Key}
theorem same_ans {v : Value} {e : Ending} (h : e = .returned v ∧ w = w') : Ans v w e w' := ⟨h.1, h.2 ▸ Below.refl _ _⟩
theorem tm_act {S' : St} {v : Value} {e : Ending} {p q : Key} (h : Tm b w g S) (he : e = .returned v) (hb : Blk w' g 56 (gcs S'.n p q S'.o S'.mv.isSome (S'.mv.getD 0) S'.ep)) (hf : Far (only g) w w') (h1 : kof p q S'.o = S'.key S'.o) (h2 : S'.mv.isSome = true → kof p q (!S'.o) = S'.key (!S'.o)) : Acted Tm b g S' v w e w' :=
  ⟨he, ⟨h.1, fun j hj => Nat.lt_of_lt_of_le (h.2.1 j hj) hf.size, p, q, hb, h1, h2⟩, hf.mono fun j e => by have : j = g := e; subst this; exact h.1⟩
theorem tm_rekey (h : Tm b w g S) : Calls Try.prog 9 #[.pointer (some ⟨g, 0, none⟩), .agg k.cs.toArray] w (Acted Tm b g (rek S k) (.int .i64 (rekE S)) w) := by
  have hT := h
  obtain ⟨_, _, p, q, hb, h1, h2⟩ := h
  obtain ⟨n, a, c, o, mv, ep⟩ := S
  rcases mv with _ | m
  · rcases o with _ | _
    · exact (rekey_false g n p q 0 ep k w hb).mono fun e w' ⟨he, hb', hf⟩ => tm_act (S' := ⟨n, a, k, false, some 0, ep⟩) hT he hb' hf h1 (fun _ => rfl)
    · exact (rekey_true g n p q 0 ep k w hb).mono fun e w' ⟨he, hb', hf⟩ => tm_act (S' := ⟨n, k, c, true, some 0, ep⟩) hT he hb' hf h1 (fun _ => rfl)
  · exact (rekey_busy g n p q o m ep k w hb).mono fun e w' ⟨he, hbe⟩ => ⟨he, ⟨hT.1, fun j hj => Nat.lt_of_lt_of_le (hT.2.1 j hj) hbe.size, p, q, hb.below hbe, h1, h2⟩, Far.of_below hbe _⟩
theorem tm_step (h : Tm b w g S) (hS : S.Ok) : Calls Try.prog 13 #[.pointer (some ⟨g, 0, none⟩)] w (Acted Tm b g (stp S) (.tuple #[.int .i64 (stpC S : Nat), .bool S.mv.isSome]) w) := by
  have hT := h
  obtain ⟨_, _, p, q, hb, h1, h2⟩ := h
  have hn := hS.n2
  have hep := hS.ep
  have hmn := hS.mv
  obtain ⟨n, a, c, o, mv, ep⟩ := S
  rcases mv with _ | m
  · exact (step_still g n p q o 0 ep w hb).mono fun e w' ⟨he, hw⟩ => by subst hw; exact ⟨he, hT, Far.refl _ _⟩
  · have hlt : m < n := hmn m rfl
    have e2 := h2 rfl
    by_cases hl : m + 1 = n
    · have es : stp ⟨n, a, c, o, some m, ep⟩ = ⟨n, a, c, !o, none, ep + 1⟩ := if_pos hl
      rw [es]
      rcases o with _ | _
      · exact (step_last_false g n p q m ep w hb hn hep hl).mono fun e w' ⟨he, hb', hf⟩ => tm_act (S' := ⟨n, a, c, true, none, ep + 1⟩) hT he hb' hf e2 (fun e => by cases e)
      · exact (step_last_true g n p q m ep w hb hn hep hl).mono fun e w' ⟨he, hb', hf⟩ => tm_act (S' := ⟨n, a, c, false, none, ep + 1⟩) hT he hb' hf e2 (fun e => by cases e)
    · have es : stp ⟨n, a, c, o, some m, ep⟩ = ⟨n, a, c, o, some (m + 1), ep⟩ := if_neg hl
      rw [es]
      rcases o with _ | _
      · exact (step_go_false g n p q m ep w hb hn hep (by omega)).mono fun e w' ⟨he, hb', hf⟩ => tm_act (S' := ⟨n, a, c, false, some (m + 1), ep⟩) hT he hb' hf h1 (fun _ => e2)
      · exact (step_go_true g n p q m ep w hb hn hep (by omega)).mono fun e w' ⟨he, hb', hf⟩ => tm_act (S' := ⟨n, a, c, true, some (m + 1), ep⟩) hT he hb' hf h1 (fun _ => e2)
theorem tm_where (h : Tm b w g S) (hS : S.Ok) (hf : f.Ok) : Calls Try.prog 17 #[.pointer (some ⟨g, 0, none⟩), .agg f.cs.toArray] w (Ans (.tuple #[.int .i64 (nm (gen kdKs S f) : Nat), .int .i64 (cls kdKs S f : Nat)]) w) := by
  obtain ⟨_, _, p, q, hb, h1, h2⟩ := h
  have hk1 := hS.key S.o
  have hk2 := hS.key (!S.o)
  have n1 := hS.n1
  have n2 := hS.n2
  have hg : gen kdKs S f = if kdKs.bk (S.key S.o) f S.n < S.mv.getD 0 then !S.o else S.o := rfl
  by_cases hm : kdKs.bk (S.key S.o) f S.n < S.mv.getD 0
  · rw [if_pos hm] at hg
    have hs : S.mv.isSome = true := by
      rcases e : S.mv with _ | x
      · rw [e] at hm
        exact absurd hm (Nat.not_lt_zero _)
      · rfl
    have e2 := h2 hs
    rw [cls, hg, ← e2]
    rw [← h1] at hm hk1
    rw [← e2] at hk2
    clear h1 h2 e2 hg hs
    obtain ⟨n, a, c, o, mv, ep⟩ := S
    rcases o with _ | _
    · exact where_new_false g n p q _ _ ep f w hb hk1 hf n1 n2 hk2 hm
    · exact where_new_true g n p q _ _ ep f w hb hk1 hf n1 n2 hk2 hm
  · rw [if_neg hm] at hg
    rw [cls, hg, ← h1]
    rw [← h1] at hm hk1
    clear h1 h2 hg
    obtain ⟨n, a, c, o, mv, ep⟩ := S
    rcases o with _ | _
    · exact where_old_false g n p q _ _ ep f w hb hk1 hf n1 n2 hm
    · exact where_old_true g n p q _ _ ep f w hb hk1 hf n1 n2 hm
theorem tm_bins {t l z : Int} (h : Tm b w g S) (hS : S.Ok) (hf : f.Ok) (hz : i64 z) : Calls Try.prog 19 #[.pointer (some ⟨g, 0, none⟩), .int .i64 t, .agg f.cs.toArray, .int .i64 l, .int .i64 z] w (IRes (binS kdKs S t f l z) w) := by
  obtain ⟨_, _, p, q, hb, h1, h2⟩ := h
  have hk1 := hS.key S.o
  have hk2 := hS.key (!S.o)
  have hB : binS kdKs S t f l z = if t = nm S.o ∨ (t = nm (!S.o) ∧ S.mv.isSome = true) then kdKs.bi (S.key (decide (t = 1))) f l z else [] := rfl
  by_cases h0 : t = nm S.o
  · have ed : decide (t = 1) = S.o := by subst h0; cases S.o <;> rfl
    rw [if_pos (.inl h0), ed, ← h1] at hB
    rw [hB]
    rw [← h1] at hk1
    subst h0
    clear ed hB h1 h2
    obtain ⟨n, a, c, o, mv, ep⟩ := S
    rcases o with _ | _
    · exact bins_false g n p q false _ _ ep f l z w hb (fun W hW => hasKey_own_false g n p q _ _ ep W hW) hk1 hf hz
    · exact bins_true g n p q true _ _ ep f l z w hb (fun W hW => hasKey_own_true g n p q _ _ ep W hW) hk1 hf hz
  · by_cases h3 : t = nm (!S.o) ∧ S.mv.isSome = true
    · obtain ⟨h4, h5⟩ := h3
      have e2 := h2 h5
      have ed : decide (t = 1) = !S.o := by subst h4; cases S.o <;> rfl
      rw [if_pos (.inr ⟨h4, h5⟩), ed, ← e2] at hB
      rw [hB]
      rw [← e2] at hk2
      rw [h5] at hb
      subst h4
      clear ed hB h1 h2 h5 e2
      obtain ⟨n, a, c, o, mv, ep⟩ := S
      rcases o with _ | _
      · exact bins_true g n p q false true _ ep f l z w hb (fun W hW => hasKey_move_false g n p q _ ep 1 W hW (by decide)) hk2 hf hz
      · exact bins_false g n p q true true _ ep f l z w hb (fun W hW => hasKey_move_true g n p q _ ep 0 W hW (by decide)) hk2 hf hz
    · rw [if_neg (fun e => e.elim h0 h3)] at hB
      rw [hB]
      clear hB h1 h2 hk1 hk2
      obtain ⟨n, a, c, o, mv, ep⟩ := S
      rcases mv with _ | m
      · rcases o with _ | _
        · exact bins_none g n p q false false 0 ep t f l z w hb (fun W hW => hasKey_still_false g n p q 0 ep t W hW h0)
        · exact bins_none g n p q true false 0 ep t f l z w hb (fun W hW => hasKey_still_true g n p q 0 ep t W hW h0)
      · have h6 : ¬ t = nm (!o) := fun e => h3 ⟨e, rfl⟩
        rcases o with _ | _
        · have e6 : (t == (1 : Int)) = false := by have h7 : ¬ t = 1 := h6; simpa using h7
          exact bins_none g n p q false true m ep t f l z w hb (fun W hW => by have := hasKey_move_false g n p q m ep t W hW h0; rwa [e6] at this)
        · have e6 : (t == (0 : Int)) = false := by have h7 : ¬ t = 0 := h6; simpa using h7
          exact bins_none g n p q true true m ep t f l z w hb (fun W hW => by have := hasKey_move_true g n p q m ep t W hW h0; rwa [e6] at this)
end
theorem progG : ProgG Tm kdKs where
  keep := fun b w w' g S F ⟨h0, h1, p, q, hb, h2, h3⟩ hf hd => ⟨h0, fun j hj => Nat.lt_of_lt_of_le (h1 j hj) hf.size, p, q, hb.far hf (hd g h0), h2, h3⟩
  lt := fun _ _ _ _ h => h.2.1
  bad := fun n k w _ _ h => new_bad n k w h
  new := fun n k w h1 h2 _ => (new_good n k w h1 h2).mono fun e w' ⟨he, hb, hbe⟩ => ⟨w.heap.size + 1, only (w.heap.size + 1), he, ⟨rfl, fun j hj => by have : j = w.heap.size + 1 := hj; subst this; exact hb.lt, k, key0, hb, rfl, fun e => by cases e⟩, fun j hj => by have : j = w.heap.size + 1 := hj; omega, hbe⟩
  rekey := fun _ _ _ _ _ h _ _ => tm_rekey h
  step := fun _ _ _ _ h hS => tm_step h hS
  moving := fun _ w g S ⟨_, _, p, q, hb, _, _⟩ => (moving_ g S.n p q S.o _ _ S.ep w hb).mono fun _ _ h => same_ans h
  epoch := fun _ w g S ⟨_, _, p, q, hb, _, _⟩ => (epoch_ g S.n p q S.o _ _ S.ep w hb).mono fun _ _ h => same_ans h
  old := fun _ w g S ⟨_, _, p, q, hb, _, _⟩ => (old_ g S.n p q S.o _ _ S.ep w hb).mono fun _ _ h => same_ans h
  where_ := fun _ _ _ _ _ h hS hf => tm_where h hS hf
  bins := fun _ _ _ _ _ _ _ _ h hS hf _ _ hn => tm_bins h hS hf hn
  rekeyNil := fun k w _ => rekey_nil k w
  movingNil := fun w => (moving_nil w).mono fun _ _ h => same_ans h
  epochNil := fun w => (epoch_nil w).mono fun _ _ h => same_ans h
end Go.Proofs.Ytfhlgmmfknfamaa
