/- Prefixes and slots as cells; rows of slots in memory; '==' of them. Conditions: those of each theorem. -/
import Derived.Test.YtpjeeccgpnpokaaRows
import Derived.Test.YtpjeeccgpnpokaaMem
import Derived.WalkKit
import Derived.WalkSpells
import Derived.WalkLawsBesides
import Derived.ProofKit
import Derived.OpenShut
import Derived.Deep.MidRow
import Derived.DeepKeys
import Derived.Laws.Tables
import Derived.Deep.DeepCutAuto
import Derived.RegionTactic
import Derived.Deep.RegionHeld
import Derived.Deep.RegionWith
import Derived.Deep.QuietTactic
import Derived.BigQuiet
import Derived.Lib.MinMax
namespace Go.Proofs.Ytpjeeccgpnpokaa
open Go.RowKit

/-- A prefix. -/
structure Pre where
  v : Bool
  a : Int
  b : Int
  c : Int
  d : Int
  e : Int
  f : Int
  g : Int
instance decPre : DecidableEq Pre := fun p q =>
  if h : p.v = q.v ∧ p.a = q.a ∧ p.b = q.b ∧ p.c = q.c ∧ p.d = q.d ∧ p.e = q.e ∧ p.f = q.f ∧ p.g = q.g then .isTrue (by cases p; cases q; simp_all) else .isFalse (by rintro rfl; simp at h)
/-- Bytes as cells. -/
def cel (s : List Int) : List Value := s.map (.int .u8)
def Pre.bs (p : Pre) : List Int := [p.a, p.b, p.c, p.d, p.e, p.f, p.g]
def Pre.cs (p : Pre) : List Value := .bool p.v :: cel p.bs
abbrev byt (z : Int) : Prop := 0 ≤ z ∧ z ≤ 255
structure Pre.Ok (p : Pre) : Prop where
  h : ∀ z ∈ p.bs, byt z
/-- A count. -/
abbrev num (z : Int) : Prop := 0 ≤ z ∧ z ≤ 4611686018427387904
def pre0 : Pre := ⟨false, 0, 0, 0, 0, 0, 0, 0⟩
theorem pre0_ok : pre0.Ok := ⟨by decide⟩
theorem cs8 (p : Pre) : p.cs.length = 8 := rfl
theorem pre_each (p : Pre) : ∀ u ∈ p.cs, u.oneCell' = true := by
  intro u hu
  simp only [Pre.cs, cel, List.mem_cons, List.mem_map] at hu
  rcases hu with rfl | ⟨z, _, rfl⟩ <;> rfl
theorem drop3 (a b c : List Value) {n : Nat} (h : a.length + b.length = n) : (a ++ (b ++ c)).drop n = c := by
  subst h
  rw [← List.append_assoc, ← List.length_append, List.drop_left]
theorem Blk.setCells {g : Nat} {t : TypeId} : ∀ (vs cs : List Value) (o : Nat) (w : World), Blk w g t cs → o + vs.length ≤ cs.length → Blk (w.setCells g o vs) g t (cs.take o ++ (vs ++ cs.drop (o + vs.length)))
  | [], cs, o, w, h, _ => by simpa [World.setCells] using h
  | v :: r, cs, o, w, h, hl => by
    simp at hl
    have := Blk.setCells r (cs.set o v) (o + 1) (w.setCell ⟨g, o, none⟩ v) (h.set_ o v) (by simp; omega)
    rw [World.setCells]
    have e1 : (cs.set o v).take (o + 1) = cs.take o ++ [v] := by
      apply List.ext_getElem?
      intro i
      simp only [List.getElem?_take, List.getElem?_set, List.getElem?_append, List.length_take]
      by_cases h1 : i < o
      · rw [if_pos (by omega), if_neg (by omega), if_pos (by omega), if_pos h1]
      · by_cases h2 : i = o
        · subst h2
          rw [if_pos (by omega), if_pos rfl, if_pos (by omega), if_neg (by omega), show i - min i cs.length = 0 by omega]
          rfl
        · rw [if_neg (by omega), if_neg (by omega), List.getElem?_eq_none (by simp; omega)]
    have e2 : (cs.set o v).drop (o + 1 + r.length) = cs.drop (o + (v :: r).length) := by
      apply List.ext_getElem?
      intro i
      simp only [List.getElem?_drop, List.getElem?_set, List.length_cons]
      rw [if_neg (by omega), show o + 1 + r.length + i = o + (r.length + 1) + i by omega]
    rw [e1, e2] at this
    simpa using this
theorem far_setCells {S : Nat → Prop} {g : Nat} : ∀ (vs : List Value) (o : Nat) (w0 w : World), Far S w0 w → (g < w0.heap.size → S g) → Far S w0 (w.setCells g o vs)
  | [], _, _, _, h, _ => h
  | v :: r, o, w0, w, h, hg => far_setCells r (o + 1) w0 (w.setCell ⟨g, o, none⟩ v) (h.set_ (p := ⟨g, o, none⟩) hg v) hg

def only (g : Nat) : Nat → Prop := fun k => k = g
def nobody : Nat → Prop := fun _ => False
end Go.Proofs.Ytpjeeccgpnpokaa
