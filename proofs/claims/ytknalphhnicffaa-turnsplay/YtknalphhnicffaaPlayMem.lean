/- The program's turns and the document's side by side in memory. Conditions: those of each theorem. -/
import Derived.Test.YtknalphhnicffaaDocPick
import Derived.Test.YtknalphhnicffaaSleepFar
namespace Go.Proofs.Ytknalphhnicffaa
open Go.RowKit

/-- The program's turns lie in blocks that b lets in, the document's (the variable at block h) in others. -/
def PR (At : (Nat → Prop) → World → Nat → Nat → Nat → List Cls → Prop) (w : World) (g h n Q : Nat) (L : List Cls) (W : World) : Prop :=
  ∃ (b : Nat → Prop) (A : Option Addr) (c : Nat), (∀ k, b k → w.heap.size ≤ k ∧ k ≠ h ∧ k < W.heap.size) ∧ At b W g n Q L ∧ L.length ≤ c ∧ BoxAt h A L.length c n Q W ∧ DocAt (fun k => ¬ b k ∧ k ≠ h) W A L ∧ Below w.heap.size w W ∧ w.heap.size ≤ h
section
variable {At : (Nat → Prop) → World → Nat → Nat → Nat → List Cls → Prop} {w W W2 : World} {g h n Q : Nat} {L : List Cls}
theorem PR.below (hr : PR At w g h n Q L W) (P : Prog At) (hb : Below W.heap.size W W2) : PR At w g h n Q L W2 := by
  obtain ⟨b, A, c, h1, h2, h3, h4, h5, h6, h7⟩ := hr
  exact ⟨b, A, c, fun k hk => ⟨(h1 k hk).1, (h1 k hk).2.1, Nat.lt_of_lt_of_le (h1 k hk).2.2 hb.size⟩, P.below h2 hb, h3, h4.below hb, h5.below hb, h6.trans (hb.mono h6.size), h7⟩
theorem PR.be (hr : PR At w g h n Q L W) : Below w.heap.size w W := by
  obtain ⟨b, A, c, h1, h2, h3, h4, h5, h6, h7⟩ := hr
  exact h6
/-- What the next call of the program wants. -/
def more (b : Nat → Prop) (W : World) : Nat → Prop := fun k => b k ∨ W.heap.size ≤ k
theorem PR.ask (hr : PR At w g h n Q L W) (P : Prog At) : ∃ (b : Nat → Prop) (A : Option Addr) (c : Nat), At (more b W) W g n Q L ∧ (∀ k, W.heap.size ≤ k → more b W k) ∧ (∀ k, more b W k → w.heap.size ≤ k) ∧ L.length ≤ c ∧
    (∀ (L2 : List Cls) (W2 : World), At (more b W) W2 g n Q L2 → Far (more b W) W W2 →
      ∃ d : Nat → Prop, BoxAt h A L.length c n Q W2 ∧ DocAt d W2 A L ∧ (∀ k, W2.heap.size ≤ k → d k) ∧ Below w.heap.size w W2 ∧
        (∀ (A' : Option Addr) (c' : Nat) (W3 : World), Below W2.heap.size W2 W3 → L2.length ≤ c' → DocAt d W3 A' L2 → PR At w g h n Q L2 (stored3 W3 h A' L2.length c' n Q))) := by
  obtain ⟨b, A, c, h1, h2, h3, h4, h5, h6, h7⟩ := hr
  have hh : h < W.heap.size := Blk.lt h4
  refine ⟨b, A, c, P.weak h2 (fun k _ hk => .inl hk), fun k hk => .inr hk, fun k hk => ?_, h3, fun L2 W2 ha hf => ?_⟩
  · rcases hk with hk | hk
    · exact (h1 k hk).1
    · exact Nat.le_trans h6.size hk
  · have hnh : ¬ more b W h := fun e => by
      rcases e with e | e
      · exact (h1 h e).2.1 rfl
      · omega
    have hbe : Below w.heap.size w W2 := below_far h6 hf (fun k hk => by
      rcases hk with hk | hk
      · exact (h1 k hk).1
      · exact Nat.le_trans h6.size hk) h6.size
    have hs := hf.size
    refine ⟨fun k => ¬ (more b W k ∧ k < W2.heap.size) ∧ k ≠ h, Blk.far h4 hf hnh, ?_, fun k hk => ⟨fun e => by omega, by omega⟩, hbe, fun A' c' W3 hb3 hc' hd => ?_⟩
    · have hd1 := (h5.weak (b' := fun k => ¬ more b W k ∧ k ≠ h) (fun k hk hd => ⟨fun e => by
        rcases e with e | e
        · exact hd.1 e
        · omega, hd.2⟩)).far hf (fun k hk => hk.1)
      exact hd1.weak (fun k _ hk => ⟨fun e => hk.1 e.1, hk.2⟩)
    · have hF := far_stored W3 h A' L2.length c' n Q
      have ha2 : At (fun k => more b W k ∧ k < W2.heap.size) W3 g n Q L2 := P.below (P.weak ha (fun k hk he => ⟨he, hk⟩)) hb3
      have hbx : Blk W3 h 34 _ := (show BoxAt h A L.length c n Q W2 from Blk.far h4 hf hnh).below hb3
      refine ⟨fun k => more b W k ∧ k < W2.heap.size, A', c', fun k hk => ⟨?_, fun e => hnh (e ▸ hk.1), ?_⟩, P.far ha2 hF (fun k hk e => hnh (e ▸ hk.1)), hc', ?_, hd.far hF (fun k hk => hk.2), below_stored (hbe.trans (hb3.mono hbe.size)) h7 _ _ _ _ _, h7⟩
      · rcases hk.1 with e | e
        · exact (h1 k e).1
        · exact Nat.le_trans h6.size e
      · exact Nat.lt_of_lt_of_le hk.2 (Nat.le_trans hb3.size hF.size)
      · have := ((hbx.set_ 0 (.int .i64 (n : Nat))).set_ 1 (.int .i64 (Q : Nat))).set_ 2 (.slice A' L2.length c')
        unfold BoxAt
        simpa using this
/-- What reads want. -/
theorem PR.read (hr : PR At w g h n Q L W) : ∃ (b d : Nat → Prop) (A : Option Addr) (c : Nat), At b W g n Q L ∧ BoxAt h A L.length c n Q W ∧ DocAt d W A L := by
  obtain ⟨b, A, c, h1, h2, h3, h4, h5, h6, h7⟩ := hr
  exact ⟨b, _, A, c, h2, h4, h5⟩
theorem PR.first (P : Prog At) {w2 : World} (h1 : At (from_ w.heap.size) w2 g n Q []) (hb : Below w.heap.size w w2) : PR At w g w2.heap.size n Q [] (w2.alloc (boxOf none 0 0 n Q)) := by
  have hs := hb.size
  refine ⟨fun k => w.heap.size ≤ k ∧ k < w2.heap.size, none, 0, fun k hk => ⟨hk.1, by omega, by simp; omega⟩, P.below (P.weak h1 (fun k hk hf => ⟨hf, hk⟩)) (below_one _ _), Nat.le_refl _, BoxAt.new w2 none 0 0 n Q, ⟨⟨rfl, fun h => absurd h (by simp)⟩, fun ad e => by cases e⟩, hb.alloc hs _, hs⟩
end
end Go.Proofs.Ytknalphhnicffaa
