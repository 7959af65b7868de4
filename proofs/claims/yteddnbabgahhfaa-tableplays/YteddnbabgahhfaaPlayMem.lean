/- What a round of TablePlays keeps: the document's list, the program's table, the act's copy. Conditions: those of each theorem. -/
import Derived.Test.YteddnbabgahhfaaActs
import Derived.Test.YteddnbabgahhfaaRow
import Derived.Test.YteddnbabgahhfaaPres
namespace Go.Proofs.Yteddnbabgahhfaa
open Go.RowKit

/-- Where a slice lies. -/
def own (A : Option Addr) : Nat → Prop := fun j => ∃ ad, A = some ad ∧ j = ad.block
/-- Both hold L. -/
structure PR (T : (Nat → Prop) → World → Nat → Int → List Ent → Prop) (w : World) (g : Nat) (r : Int) (L : List Ent) (A : Option Addr) (c : Nat) (F : Nat → Prop) (W : World) : Prop where
  els : Els kEnt W A L
  cap : L.length ≤ c
  tab : At T w g r L (fun j => own A j ∨ F j) W
  ok : Oks L
  uni : Uni L
  fit : (L.length : Int) ≤ r
/-- The act's copy. -/
def ac (O : Int) (p : Pre) (X : Int) : List Value := .int .u8 O :: (p.cs ++ [.int .i64 X])
theorem ac_each (O : Int) (p : Pre) (X : Int) : ∀ u ∈ ac O p X, u.oneCell' = true := by
  intro u hu
  unfold ac at hu
  rcases List.mem_cons.1 hu with rfl | h
  · rfl
  · rcases List.mem_append.1 h with h | h
    · exact pre_each _ u h
    · simp only [List.mem_cons, List.not_mem_nil, or_false] at h
      rw [h]; rfl
section
variable {T : (Nat → Prop) → World → Nat → Int → List Ent → Prop} {w W W' : World} {g c bx : Nat} {r : Int} {L L' : List Ent} {A A' : Option Addr} {F F' : Nat → Prop} {p : Pre} {v : Int}
theorem PR.below (P : ProgT T) (h : PR T w g r L A c F W) (hb : Below W.heap.size W W') : PR T w g r L A c F W' := ⟨h.els.below hb, h.cap, h.tab.below P hb, h.ok, h.uni, h.fit⟩
theorem PR.size (h : PR T w g r L A c F W) (hr : r ≤ 64) : L.length ≤ 64 := by have := h.fit; omega
/-- The act's copy is left alone too. -/
theorem PR.more (P : ProgT T) (h : PR T w g r L A c nobody W) (hb : Below W.heap.size W W') (hx : W.heap.size < W'.heap.size) : PR T w g r L A c (only W.heap.size) W' :=
  ⟨h.els.below hb, h.cap, (h.tab.grow P hb).less (fun j e => by
    rcases e with e | e
    · exact .inl (.inl e)
    · unfold only at e
      exact .inr (by omega)), h.ok, h.uni, h.fit⟩
theorem PR.fewer (h : PR T w g r L A c F W) : PR T w g r L A c nobody W := ⟨h.els, h.cap, h.tab.less (fun j e => by
  rcases e with e | e
  · exact .inl e
  · exact absurd e (fun e => e)), h.ok, h.uni, h.fit⟩
/-- What the program's act leaves of the document's list. -/
theorem els_act (h : Els kEnt W A L) (hf : Far (free w (fun j => own A j ∨ F j)) W W') : Els kEnt W' A L := h.far hf (fun _ _ e n => n.2 (.inl ⟨_, e, rfl⟩))
theorem blk_act {cs : List Value} (h : Blk W bx 38 cs) (hf : Far (free w (fun j => own A j ∨ only bx j)) W W') : Blk W' bx 38 cs := h.far hf (fun n => n.2 (.inr rfl))
/-- Both behind the document's act. -/
theorem PR.next (P : ProgT T) (ht : At T w g r L' (fun j => own A j ∨ F j) W) (hb : Below W.heap.size W W') (he : Els kEnt W' A' L') (hc : L'.length ≤ c) (hf : Frm A W W' A') (ho : Oks L') (hu : Uni L') (hr : (L'.length : Int) ≤ r) : PR T w g r L' A' c F W' :=
  ⟨he, hc, (ht.grow P hb).less (fun j e => by
    rcases e with ⟨ad, e, rfl⟩ | e
    · rcases hf with hf | hf
      · exact .inl (.inl ⟨ad, hf ▸ e, rfl⟩)
      · exact .inr (hf ad e)
    · exact .inl (.inr e)), ho, hu, hr⟩
end
end Go.Proofs.Yteddnbabgahhfaa
