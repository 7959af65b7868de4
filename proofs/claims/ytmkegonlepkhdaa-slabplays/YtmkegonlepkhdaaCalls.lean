/- The contracts of slab's calls, for slabs of numbers and of texts. Conditions: those of each theorem. -/
import Derived.Test.YtmkegonlepkhdaaRows
import Derived.Test.YtmkegonlepkhdaaMem
import Derived.WalkKit
import Derived.WalkSpells
import Derived.WalkLawsBesides
import Derived.ProofKit
import Derived.OpenShut
import Derived.Deep.OwnRows
import Derived.Deep.QuietTactic
import Derived.BigQuiet
import Derived.Deep.RegionWith
import Derived.RegionTactic
import Derived.ChangeAlike
import Derived.Deep.DeepCutAuto
namespace Go.Proofs.Ytmkegonlepkhdaa
open Go.RowKit

theorem ret_int {k : IntKind} {a b : Int} (h : a = b) : Ending.returned (.int k a) = .returned (.int k b) := by rw [h]

theorem Blk.drew {w : World} {g : Nat} {t : TypeId} {cs : List Value} (h : Blk w g t cs) : Blk w.drew g t cs := h
theorem Blk.drewN {w : World} {g : Nat} {t : TypeId} {cs : List Value} (h : Blk w g t cs) (n : Nat) : Blk (w.drewN n) g t cs := h

/-- What the cells tell: places vs (none: free), the numbers fr of the free ones. -/
structure Held (Z : Value) (n : Nat) (vs : List (Option Value)) (fr : List Nat) (cs fs : List Value) : Prop where
  lc : cs.length = n * 2
  lf : fs.length = n
  lv : vs.length = n
  low : 1 ≤ n
  high : n ≤ 4096
  has : ∀ (i : Nat) (v : Option Value), vs[i]? = some v → cs[i * 2]? = some (v.getD Z) ∧ cs[i * 2 + 1]? = some (Value.bool v.isSome)
  free : ∀ k i : Nat, fr[k]? = some i → fs[k]? = some (Value.int .i64 (i : Nat))
  one : fr.Nodup
  iff : ∀ i : Nat, i ∈ fr ↔ vs[i]? = some none
  cnt : fr.length + vs.countP Option.isSome = n

/-- A slab at block g, of n places in block q, whose free ones' numbers lie in block f. -/
def SlabAt (T E : TypeId) (Z : Value) (w : World) (g q f n : Nat) (vs : List (Option Value)) (fr : List Nat) : Prop :=
  ∃ (cs fs : List Value), Blk w g T [.slice (some ⟨q, 0, none⟩) n n, .slice (some ⟨f, 0, none⟩) fr.length n] ∧ Blk w q E cs ∧ Blk w f 3 fs ∧ g ≠ q ∧ g ≠ f ∧ q ≠ f ∧ Held Z n vs fr cs fs

theorem Held.lt {Z : Value} {n : Nat} {vs : List (Option Value)} {fr : List Nat} {cs fs : List Value} (h : Held Z n vs fr cs fs) {i : Nat} (hi : i ∈ fr) : i < n := by
  have := (List.getElem?_eq_some_iff.1 ((h.iff i).1 hi)).1
  have := h.lv
  omega
theorem SlabAt.len {T E : TypeId} {Z : Value} {w : World} {g q f n : Nat} {vs : List (Option Value)} {fr : List Nat} (h : SlabAt T E Z w g q f n vs fr) : vs.length = n := by
  obtain ⟨cs, fs, b1, b2, b3, n1, n2, n3, H⟩ := h
  exact H.lv
/-- There is no place x, or it is free. -/
def Bare (vs : List (Option Value)) (x : Int) : Prop := (x < 0 ∨ (vs.length : Int) ≤ x) ∨ ∃ k : Nat, x = k ∧ vs[k]? = some none
/-- Three blocks alone. -/
def three (g q f : Nat) : Nat → Prop := fun k => k = g ∨ k = q ∨ k = f
theorem run_upto31 {A : Option Addr} {n c k : Nat} (W : World) (hk : k ≤ c) :
    (Instr.slice 31 (.slice A n c) none (some (.int .i64 k)) none).run Try.prog W = .ok (.slice A k c) W := by
  have h := run_slice_h (P := Try.prog) (w := W) 31 A n c (by kernel_rfl) .i64 (k : Int) (by omega) (by omega)
  rw [h]
  simp [sliced, go_sem]
section
variable {Z : Value} {n : Nat} {vs : List (Option Value)} {fr : List Nat} {cs fs : List Value}
theorem Held.put (h : Held Z n vs fr cs fs) {i : Nat} (hi : i < n) (o : Option Value) (j : Nat) (v : Option Value) (hj : (vs.set i o)[j]? = some v) :
    ((cs.set (i * 2) (o.getD Z)).set (i * 2 + 1) (.bool o.isSome))[j * 2]? = some (v.getD Z) ∧ ((cs.set (i * 2) (o.getD Z)).set (i * 2 + 1) (.bool o.isSome))[j * 2 + 1]? = some (.bool v.isSome) := by
  have hl := h.lc
  have hv := h.lv
  by_cases e : i = j
  · subst e
    rw [List.getElem?_set_self (by omega)] at hj
    injection hj with hj
    subst hj
    refine ⟨?_, ?_⟩
    · rw [List.getElem?_set_ne (by omega), List.getElem?_set_self (by omega)]
    · rw [List.getElem?_set_self (by simp; omega)]
  · rw [List.getElem?_set_ne e] at hj
    rw [List.getElem?_set_ne (by omega), List.getElem?_set_ne (by omega), List.getElem?_set_ne (by omega), List.getElem?_set_ne (by omega)]
    exact h.has j v hj
theorem count_take (i : Nat) (u : Value) (h : vs[i]? = some none) : (vs.set i (some u)).countP Option.isSome = vs.countP Option.isSome + 1 := by
  obtain ⟨hl, he⟩ := List.getElem?_eq_some_iff.1 h
  rw [List.countP_set hl, he, if_pos (show (some _).isSome = true from rfl), if_neg (show ¬ ((none : Option Value).isSome = true) by decide)]
  omega
theorem count_give (i : Nat) (u : Value) (h : vs[i]? = some (some u)) : (vs.set i none).countP Option.isSome + 1 = vs.countP Option.isSome := by
  obtain ⟨hl, he⟩ := List.getElem?_eq_some_iff.1 h
  have := List.boole_getElem_le_countP (p := Option.isSome) hl
  rw [he, if_pos (show (some u).isSome = true from rfl)] at this
  rw [List.countP_set hl, he, if_pos (show (some _).isSome = true from rfl), if_neg (show ¬ ((none : Option Value).isSome = true) by decide)]
  omega
theorem count_set (i : Nat) (u v : Value) (h : vs[i]? = some (some u)) : (vs.set i (some v)).countP Option.isSome = vs.countP Option.isSome := by
  obtain ⟨hl, he⟩ := List.getElem?_eq_some_iff.1 h
  have := List.boole_getElem_le_countP (p := Option.isSome) hl
  rw [he, if_pos (show (some u).isSome = true from rfl)] at this
  rw [List.countP_set hl, he, if_pos (show (some u).isSome = true from rfl), if_pos (show (some v).isSome = true from rfl)]
  omega
theorem Held.take {i : Nat} (h : Held Z n vs (fr ++ [i]) cs fs) (u : Value) : Held Z n (vs.set i (some u)) fr ((cs.set (i * 2) u).set (i * 2 + 1) (.bool true)) fs := by
  have hi : i < n := h.lt (by simp)
  have hf : vs[i]? = some none := (h.iff i).1 (by simp)
  have hd := List.nodup_append.1 h.one
  have hni : i ∉ fr := fun hm => hd.2.2 i hm i (by simp) rfl
  refine ⟨by simpa using h.lc, h.lf, by simpa using h.lv, h.low, h.high, fun j v hj => h.put hi (some u) j v hj, fun k j hk => h.free k j ?_, hd.1, fun j => ?_, ?_⟩
  · rw [List.getElem?_append_left (List.getElem?_eq_some_iff.1 hk).1]
    exact hk
  · by_cases e : i = j
    · subst e
      rw [List.getElem?_set_self (by have := h.lv; omega)]
      simp [hni]
    · rw [List.getElem?_set_ne e, ← h.iff j]
      simp
      exact fun hh => absurd hh.symm e
  · have := h.cnt
    rw [count_take i u hf]
    simp at this
    omega
theorem Held.room {i : Nat} {v : Value} (h : Held Z n vs fr cs fs) (hi : vs[i]? = some (some v)) : fr.length < n := by
  have := h.cnt
  have := count_give i v hi
  omega
theorem Held.give {i : Nat} {v : Value} (h : Held Z n vs fr cs fs) (hv : vs[i]? = some (some v)) : Held Z n (vs.set i none) (fr ++ [i]) ((cs.set (i * 2) Z).set (i * 2 + 1) (.bool false)) (fs.set fr.length (.int .i64 (i : Nat))) := by
  have hr := h.room hv
  have hi : i < n := by have := (List.getElem?_eq_some_iff.1 hv).1; have := h.lv; omega
  have hni : i ∉ fr := fun hm => by
    have := (h.iff i).1 hm
    rw [hv] at this
    cases this
  refine ⟨by simpa using h.lc, by simpa using h.lf, by simpa using h.lv, h.low, h.high, fun j u hj => h.put hi none j u hj, fun k j hk => ?_, ?_, fun j => ?_, ?_⟩
  · by_cases e : k = fr.length
    · subst e
      simp at hk
      subst hk
      exact List.getElem?_set_self (by have := h.lf; omega)
    · rw [List.getElem?_set_ne (fun e' => e e'.symm)]
      refine h.free k j ?_
      have hl := (List.getElem?_eq_some_iff.1 hk).1
      simp at hl
      rw [List.getElem?_append_left (by omega)] at hk
      exact hk
  · exact List.nodup_append.2 ⟨h.one, by simp, fun a ha b hb => by
      simp at hb
      subst hb
      exact fun e => hni (e ▸ ha)⟩
  · by_cases e : i = j
    · subst e
      rw [List.getElem?_set_self (by have := h.lv; omega)]
      simp
    · rw [List.getElem?_set_ne e, ← h.iff j]
      simp
      exact fun hh => absurd hh.symm e
  · have := h.cnt
    have := count_give i v hv
    simp
    omega
theorem Held.set_ {i : Nat} {v : Value} (h : Held Z n vs fr cs fs) (hv : vs[i]? = some (some v)) (u : Value) : Held Z n (vs.set i (some u)) fr (cs.set (i * 2) u) fs := by
  have hi : i < n := by have := (List.getElem?_eq_some_iff.1 hv).1; have := h.lv; omega
  have hc := h.lc
  refine ⟨by simpa using h.lc, h.lf, by simpa using h.lv, h.low, h.high, fun j o hj => ?_, h.free, h.one, fun j => ?_, ?_⟩
  · by_cases e : i = j
    · subst e
      rw [List.getElem?_set_self (by have := h.lv; omega)] at hj
      injection hj with hj
      subst hj
      refine ⟨List.getElem?_set_self (by omega), ?_⟩
      rw [List.getElem?_set_ne (by omega)]
      exact (h.has i (some v) hv).2
    · rw [List.getElem?_set_ne e] at hj
      rw [List.getElem?_set_ne (by omega), List.getElem?_set_ne (by omega)]
      exact h.has j o hj
  · by_cases e : i = j
    · subst e
      rw [List.getElem?_set_self (by have := h.lv; omega), h.iff i, hv]
      simp
    · rw [List.getElem?_set_ne e, ← h.iff j]
  · have := h.cnt
    rw [count_set i v u hv]
    exact this
end
theorem slab_take {T E : TypeId} {Z : Value} {w : World} {g q f n i : Nat} {vs : List (Option Value)} {fr : List Nat} {cs fs : List Value} (b1 : Blk w g T [.slice (some ⟨q, 0, none⟩) n n, .slice (some ⟨f, 0, none⟩) (fr.length + 1) n]) (b2 : Blk w q E cs) (b3 : Blk w f 3 fs) (n1 : g ≠ q) (n2 : g ≠ f) (n3 : q ≠ f)
    (H : Held Z n vs (fr ++ [i]) cs fs) (u : Value) :
    SlabAt T E Z (((w.setCell ⟨g, 1, none⟩ (.slice (some ⟨f, 0, none⟩) fr.length n)).setCell ⟨q, i * 2, none⟩ u).setCell ⟨q, i * 2 + 1, none⟩ (.bool true)) g q f n (vs.set i (some u)) fr ∧
    Far (three g q f) w (((w.setCell ⟨g, 1, none⟩ (.slice (some ⟨f, 0, none⟩) fr.length n)).setCell ⟨q, i * 2, none⟩ u).setCell ⟨q, i * 2 + 1, none⟩ (.bool true)) := by
  refine ⟨⟨_, _, ?_, ?_, ?_, n1, n2, n3, H.take u⟩, ?_⟩
  · exact ((b1.set_ 1 (.slice (some ⟨f, 0, none⟩) fr.length n)).other (p := ⟨q, i * 2, none⟩) n1 _).other (p := ⟨q, i * 2 + 1, none⟩) n1 _
  · exact ((b2.other (p := ⟨g, 1, none⟩) (fun e => n1 e.symm) _).set_ (i * 2) u).set_ (i * 2 + 1) (.bool true)
  · exact ((b3.other (p := ⟨g, 1, none⟩) (fun e => n2 e.symm) _).other (p := ⟨q, i * 2, none⟩) (fun e => n3 e.symm) _).other (p := ⟨q, i * 2 + 1, none⟩) (fun e => n3 e.symm) _
  · exact (((Far.refl _ w).set_ (p := ⟨g, 1, none⟩) (fun _ => .inl rfl) _).set_ (p := ⟨q, i * 2, none⟩) (fun _ => .inr (.inl rfl)) _).set_ (p := ⟨q, i * 2 + 1, none⟩) (fun _ => .inr (.inl rfl)) _
theorem slab_set {T E : TypeId} {Z : Value} {w : World} {g q f n i : Nat} {v : Value} {vs : List (Option Value)} {fr : List Nat} {cs fs : List Value} (b1 : Blk w g T [.slice (some ⟨q, 0, none⟩) n n, .slice (some ⟨f, 0, none⟩) fr.length n]) (b2 : Blk w q E cs) (b3 : Blk w f 3 fs) (n1 : g ≠ q) (n2 : g ≠ f) (n3 : q ≠ f)
    (H : Held Z n vs fr cs fs) (hv : vs[i]? = some (some v)) (u : Value) :
    SlabAt T E Z (w.setCell ⟨q, i * 2, none⟩ u) g q f n (vs.set i (some u)) fr ∧ Far (three g q f) w (w.setCell ⟨q, i * 2, none⟩ u) := by
  refine ⟨⟨_, _, ?_, ?_, ?_, n1, n2, n3, H.set_ hv u⟩, ?_⟩
  · exact b1.other (p := ⟨q, i * 2, none⟩) n1 _
  · exact b2.set_ (i * 2) u
  · exact b3.other (p := ⟨q, i * 2, none⟩) (fun e => n3 e.symm) _
  · exact (Far.refl _ w).set_ (p := ⟨q, i * 2, none⟩) (fun _ => .inr (.inl rfl)) _
theorem slab_give {T E : TypeId} {Z : Value} {w : World} {g q f n i : Nat} {v : Value} {vs : List (Option Value)} {fr : List Nat} {cs fs : List Value} (b1 : Blk w g T [.slice (some ⟨q, 0, none⟩) n n, .slice (some ⟨f, 0, none⟩) fr.length n]) (b2 : Blk w q E cs) (b3 : Blk w f 3 fs) (n1 : g ≠ q) (n2 : g ≠ f) (n3 : q ≠ f)
    (H : Held Z n vs fr cs fs) (hv : vs[i]? = some (some v)) (O : Obj) :
    SlabAt T E Z (((((w.setCell ⟨q, i * 2, none⟩ Z).setCell ⟨q, i * 2 + 1, none⟩ (.bool false)).setCell ⟨f, fr.length, none⟩ (.int .i64 (i : Nat))).setCell ⟨g, 1, none⟩ (.slice (some ⟨f, 0, none⟩) (fr.length + 1) n)).alloc O) g q f n (vs.set i none) (fr ++ [i]) ∧
    Far (three g q f) w (((((w.setCell ⟨q, i * 2, none⟩ Z).setCell ⟨q, i * 2 + 1, none⟩ (.bool false)).setCell ⟨f, fr.length, none⟩ (.int .i64 (i : Nat))).setCell ⟨g, 1, none⟩ (.slice (some ⟨f, 0, none⟩) (fr.length + 1) n)).alloc O) := by
  refine ⟨⟨_, _, ?_, ?_, ?_, n1, n2, n3, H.give hv⟩, ?_⟩
  · have := ((((b1.other (p := ⟨q, i * 2, none⟩) n1 Z).other (p := ⟨q, i * 2 + 1, none⟩) n1 (.bool false)).other (p := ⟨f, fr.length, none⟩) n2 (.int .i64 (i : Nat))).set_ 1 (.slice (some ⟨f, 0, none⟩) (fr.length + 1) n)).alloc O
    simpa using this
  · exact ((((b2.set_ (i * 2) Z).set_ (i * 2 + 1) (.bool false)).other (p := ⟨f, fr.length, none⟩) n3 _).other (p := ⟨g, 1, none⟩) (fun e => n1 e.symm) _).alloc O
  · exact ((((b3.other (p := ⟨q, i * 2, none⟩) (fun e => n3 e.symm) _).other (p := ⟨q, i * 2 + 1, none⟩) (fun e => n3 e.symm) _).set_ fr.length (.int .i64 (i : Nat))).other (p := ⟨g, 1, none⟩) (fun e => n2 e.symm) _).alloc O
  · exact (((((Far.refl _ w).set_ (p := ⟨q, i * 2, none⟩) (fun _ => .inr (.inl rfl)) _).set_ (p := ⟨q, i * 2 + 1, none⟩) (fun _ => .inr (.inl rfl)) _).set_ (p := ⟨f, fr.length, none⟩) (fun _ => .inr (.inr rfl)) _).set_ (p := ⟨g, 1, none⟩) (fun _ => .inl rfl) _).alloc O
/-- make of elements of more than one cell. -/
theorem run_make_many {P : Program} (t e : TypeId) (z : Value) (cs : Array Value) (size bytes : Nat) (ht : P.underlying t = some (.slice e)) (hinfo : (P.info? e).map (fun i => (i.zero, i.size, i.bytes)) = some (some z, size, bytes)) (hz : z.cells = cs)
    (kl kc : IntKind) (n : Nat) (hbytes : bytes * n ≤ 281474976710656) (h63 : n ≤ 9223372036854775807) (w : World) :
    (Instr.makeSlice t (.int kl (n : Int)) (.int kc (n : Int))).run P w = .ok (.slice (some ⟨w.heap.size, 0, none⟩) n n) (w.alloc (.cells (madeCells cs (n * size)) e)) := by
  obtain ⟨i, hi, hzz⟩ := Option.map_eq_some_iff.1 hinfo
  simp only [Prod.mk.injEq] at hzz
  obtain ⟨hz0, hs, hb⟩ := hzz
  have hb' : (i.bytes : Int) * (n : Int) ≤ 281474976710656 := by
    have h : ((i.bytes * n : Nat) : Int) ≤ 281474976710656 := by rw [hb]; omega
    rwa [Int.natCast_mul] at h
  have hr := run_make (P := P) w t e i z ht hi hz0 kl kc n n (by omega) (Int.le_refl _) hb' (by omega)
  simp only [Int.toNat_natCast, hs, hz] at hr
  exact hr
/-- New's numbers, so far: k of them are laid. -/
def Laid (n k : Nat) (fs : List Value) : Prop := fs.length = n ∧ ∀ j, j < k → fs[j]? = some (Value.int .i64 ((n : Int) - 1 - (j : Int)))
/-- Where New's loop stands. -/
def NewRel (T E : TypeId) (Z : Value) (w : World) (g q f n k : Nat) (w' : World) : Prop :=
  ∃ fs, Blk w' g T [.slice (some ⟨q, 0, none⟩) n n, .slice (some ⟨f, 0, none⟩) n n] ∧ Blk w' q E (madeCells #[Z, .bool false] (n * 2)).toList ∧ Blk w' f 3 fs ∧ Laid n k fs ∧ Below w.heap.size w w'
/-- Three new blocks. -/
def NewAt (w : World) (g q f : Nat) : Prop := w.heap.size ≤ g ∧ w.heap.size ≤ q ∧ w.heap.size ≤ f ∧ g ≠ q ∧ g ≠ f ∧ q ≠ f
/-- What New answers. -/
def NewPost (T E : TypeId) (Z : Value) (n : Nat) (w : World) (e : Ending) (w' : World) : Prop :=
  ∃ g q f, e = .returned (.tuple #[.pointer (some ⟨g, 0, none⟩), .int .i64 0]) ∧ SlabAt T E Z w' g q f n (List.replicate n none) (List.range n).reverse ∧ NewAt w g q f ∧ Below w.heap.size w w'
theorem new_one (T E : TypeId) (Z : Value) (w : World) (n : Nat) : NewRel T E Z w (w.heap.size + 1 + 1) w.heap.size (w.heap.size + 1) n 0 (((w.alloc (.cells (madeCells #[Z, .bool false] (n * 2)) E)).alloc (.cells (madeCells #[.int .i64 0] n) 3)).alloc (.cells #[.slice (some ⟨w.heap.size, 0, none⟩) n n, .slice (some ⟨w.heap.size + 1, 0, none⟩) n n] T)).drew := by
  refine ⟨(madeCells #[.int .i64 0] n).toList, ?_, ?_, ?_, ⟨by simpa using size_madeCells #[.int .i64 0] n, fun j hj => absurd hj (by omega)⟩, ((((Below.refl _ _).alloc (Nat.le_refl _) _).alloc (by simp) _).alloc (by simp; omega) _).drew⟩
  · have := (Blk.new ((w.alloc (.cells (madeCells #[Z, .bool false] (n * 2)) E)).alloc (.cells (madeCells #[.int .i64 0] n) 3)) T [.slice (some ⟨w.heap.size, 0, none⟩) n n, .slice (some ⟨w.heap.size + 1, 0, none⟩) n n]).drew
    simpa using this
  · have := (((Blk.new w E (madeCells #[Z, .bool false] (n * 2)).toList).alloc (.cells (madeCells #[.int .i64 0] n) 3)).alloc (.cells #[.slice (some ⟨w.heap.size, 0, none⟩) n n, .slice (some ⟨w.heap.size + 1, 0, none⟩) n n] T)).drew
    simpa using this
  · have := ((Blk.new (w.alloc (.cells (madeCells #[Z, .bool false] (n * 2)) E)) 3 (madeCells #[.int .i64 0] n).toList).alloc (.cells #[.slice (some ⟨w.heap.size, 0, none⟩) n n, .slice (some ⟨w.heap.size + 1, 0, none⟩) n n] T)).drew
    simpa using this
theorem new_two (T E : TypeId) (Z : Value) (w : World) (n : Nat) : NewRel T E Z w (w.heap.size + 1 + 1) (w.heap.size + 1) w.heap.size n 0 (((w.alloc (.cells (madeCells #[.int .i64 0] n) 3)).alloc (.cells (madeCells #[Z, .bool false] (n * 2)) E)).alloc (.cells #[.slice (some ⟨w.heap.size + 1, 0, none⟩) n n, .slice (some ⟨w.heap.size, 0, none⟩) n n] T)).drew := by
  refine ⟨(madeCells #[.int .i64 0] n).toList, ?_, ?_, ?_, ⟨by simpa using size_madeCells #[.int .i64 0] n, fun j hj => absurd hj (by omega)⟩, ((((Below.refl _ _).alloc (Nat.le_refl _) _).alloc (by simp) _).alloc (by simp; omega) _).drew⟩
  · have := (Blk.new ((w.alloc (.cells (madeCells #[.int .i64 0] n) 3)).alloc (.cells (madeCells #[Z, .bool false] (n * 2)) E)) T [.slice (some ⟨w.heap.size + 1, 0, none⟩) n n, .slice (some ⟨w.heap.size, 0, none⟩) n n]).drew
    simpa using this
  · have := ((Blk.new (w.alloc (.cells (madeCells #[.int .i64 0] n) 3)) E (madeCells #[Z, .bool false] (n * 2)).toList).alloc (.cells #[.slice (some ⟨w.heap.size + 1, 0, none⟩) n n, .slice (some ⟨w.heap.size, 0, none⟩) n n] T)).drew
    simpa using this
  · have := (((Blk.new w 3 (madeCells #[.int .i64 0] n).toList).alloc (.cells (madeCells #[Z, .bool false] (n * 2)) E)).alloc (.cells #[.slice (some ⟨w.heap.size + 1, 0, none⟩) n n, .slice (some ⟨w.heap.size, 0, none⟩) n n] T)).drew
    simpa using this
theorem new_step {T E : TypeId} {Z : Value} {w w' : World} {g q f n k : Nat} (h : NewRel T E Z w g q f n k w') (ha : NewAt w g q f) (hk : k < n) : NewRel T E Z w g q f n (k + 1) (w'.setCell ⟨f, k, none⟩ (.int .i64 ((n : Int) - 1 - (k : Int)))) := by
  obtain ⟨fs, b1, b2, b3, ⟨hl, hf⟩, hb⟩ := h
  obtain ⟨a1, a2, a3, n1, n2, n3⟩ := ha
  refine ⟨fs.set k (.int .i64 ((n : Int) - 1 - (k : Int))), b1.other (p := ⟨f, k, none⟩) n2 _, b2.other (p := ⟨f, k, none⟩) n3 _, b3.set_ k _, ⟨by simpa using hl, fun j hj => ?_⟩, hb.setCell a3 _⟩
  by_cases e : k = j
  · subst e
    exact List.getElem?_set_self (by omega)
  · rw [List.getElem?_set_ne e]
    exact hf j (by omega)
theorem held_new {Z : Value} {n : Nat} {fs : List Value} (h0 : 1 ≤ n) (hn : n ≤ 4096) (h : Laid n n fs) : Held Z n (List.replicate n none) (List.range n).reverse (madeCells #[Z, .bool false] (n * 2)).toList fs := by
  refine ⟨by simpa using size_madeCells #[Z, .bool false] (n * 2), h.1, by simp, h0, hn, fun i v hv => ?_, fun k i hk => ?_, ?_, fun i => ?_, ?_⟩
  · rw [List.getElem?_replicate] at hv
    split at hv
    case isTrue hi =>
      injection hv with hv
      subst hv
      have e1 : i * 2 < n * 2 := by omega
      have e2 : i * 2 + 1 < n * 2 := by omega
      have e3 : (i * 2 + 1) % 2 = 1 := by omega
      constructor <;> simp [madeCells, e1, e2, e3]
    case isFalse => cases hv
  · have hl := (List.getElem?_eq_some_iff.1 hk).1
    simp at hl
    rw [List.getElem?_reverse (by simpa using hl)] at hk
    rw [List.length_range, List.getElem?_range (by omega)] at hk
    injection hk with hk
    subst hk
    rw [h.2 k hl]
    have : (n : Int) - 1 - (k : Int) = ((n - 1 - k : Nat) : Int) := by omega
    rw [this]
  · unfold List.Nodup
    rw [List.pairwise_reverse]
    exact List.nodup_range.imp fun h e => h e.symm
  · simp [List.getElem?_replicate]
  · simp
theorem new_end {T E : TypeId} {Z : Value} {w w' : World} {g q f n : Nat} (h : NewRel T E Z w g q f n n w') (ha : NewAt w g q f) (h0 : 1 ≤ n) (hn : n ≤ 4096) : NewPost T E Z n w (.returned (.tuple #[.pointer (some ⟨g, 0, none⟩), .int .i64 0])) w' := by
  obtain ⟨fs, b1, b2, b3, hl, hb⟩ := h
  have ha' := ha
  obtain ⟨a1, a2, a3, n1, n2, n3⟩ := ha
  refine ⟨g, q, f, rfl, ⟨_, fs, ?_, b2, b3, n1, n2, n3, held_new h0 hn hl⟩, ha', hb⟩
  simpa using b1
set_option maxHeartbeats 400000 in
theorem free_I (g m : Nat) (a : Value) (A : Option Addr) (n : Nat) (w : World) (h : Blk w g 49 [a, .slice A m n]) :
    Calls Try.prog 9 #[.pointer (some ⟨g, 0, none⟩)] w fun e w' => e = .returned (.int .i64 m) ∧ w = w' := by
  have hc1 : w.cell? ⟨g, 1, none⟩ = some (.slice A m n) := h.cell 1
  clear h
  go_enter Try.func9, Try.ntmps9
  go_wp2
  go_ret
  exact ⟨rfl, rfl⟩
set_option maxHeartbeats 400000 in
theorem places_I (g n c : Nat) (A : Option Addr) (b : Value) (w : World) (h : Blk w g 49 [.slice A n c, b]) :
    Calls Try.prog 10 #[.pointer (some ⟨g, 0, none⟩)] w fun e w' => e = .returned (.int .i64 n) ∧ w = w' := by
  have hc0 : w.cell? ⟨g, 0, none⟩ = some (.slice A n c) := h.cell 0
  clear h
  go_enter Try.func10, Try.ntmps10
  go_wp2
  go_ret
  exact ⟨rfl, rfl⟩
set_option maxHeartbeats 400000 in
theorem taken_I (g q f n k : Nat) (x : Int) (b : Option Value) (vs : List (Option Value)) (fr : List Nat) (w : World) (h : SlabAt 49 51 (.int .i64 0) w g q f n vs fr) (hx : x = k) (hk : vs[k]? = some b) :
    Calls Try.prog 20 #[.pointer (some ⟨g, 0, none⟩), .int .i64 x] w fun e w' => e = .returned (.bool b.isSome) ∧ w = w' := by
  subst hx
  obtain ⟨cs, fs, b1, b2, b3, n1, n2, n3, H⟩ := h
  have hkv : k < n := by have := (List.getElem?_eq_some_iff.1 hk).1; have := H.lv; omega
  have hc0 : w.cell? ⟨g, 0, none⟩ = some (.slice (some ⟨q, 0, none⟩) n n) := b1.cell 0
  have hcv : w.cell? ⟨q, k * 2 + 1, none⟩ = some (.bool b.isSome) := (b2.cell _).trans (H.has k b hk).2
  have B1 := Lib.hid b1
  clear b1 b2 b3 H hk
  have hd : decide ((k : Int) < (n : Int)) = true := by simp; omega
  have hd2 : decide (k < n) = true := by simp; omega
  have hp0 : (0 : Int) ≤ (k : Int) := by omega
  generalize b.isSome = bb at *
  go_enter Try.func20, Try.ntmps20
  go_wp2_with (go_at_call 10; (with_reducible refine (places_I g _ _ _ _ _ B1.out).mono ?_); rintro e w' ⟨rfl, rfl⟩)
  go_ret
  exact ⟨rfl, rfl⟩
set_option maxHeartbeats 400000 in
theorem takenout_I (g q f n : Nat) (x : Int) (vs : List (Option Value)) (fr : List Nat) (w : World) (h : SlabAt 49 51 (.int .i64 0) w g q f n vs fr) (hx : x < 0 ∨ (n : Int) ≤ x) :
    Calls Try.prog 20 #[.pointer (some ⟨g, 0, none⟩), .int .i64 x] w fun e w' => e = .returned (.bool false) ∧ w = w' := by
  obtain ⟨cs, fs, b1, b2, b3, n1, n2, n3, H⟩ := h
  have B1 := Lib.hid b1
  clear b1 b2 b3 H
  by_cases hx0 : x < 0
  · have hd : decide (0 ≤ x) = false := by simp; omega
    clear hx
    go_enter Try.func20, Try.ntmps20
    go_wp2
    go_ret
    exact ⟨rfl, rfl⟩
  · have hd : decide (0 ≤ x) = true := by simp; omega
    have hd2 : decide (x < (n : Int)) = false := by simp; omega
    clear hx
    go_enter Try.func20, Try.ntmps20
    go_wp2_with (go_at_call 10; (with_reducible refine (places_I g _ _ _ _ _ B1.out).mono ?_); rintro e w' ⟨rfl, rfl⟩)
    go_ret
    exact ⟨rfl, rfl⟩
/-- Nothing is there. -/
theorem takenno_I (g q f n : Nat) (x : Int) (vs : List (Option Value)) (fr : List Nat) (w : World) (h : SlabAt 49 51 (.int .i64 0) w g q f n vs fr) (hx : Bare vs x) :
    Calls Try.prog 20 #[.pointer (some ⟨g, 0, none⟩), .int .i64 x] w fun e w' => e = .returned (.bool false) ∧ w = w' := by
  rcases hx with hx | ⟨k, hk, hv⟩
  · exact takenout_I g q f n x vs fr w h (by rw [← h.len]; exact hx)
  · exact taken_I g q f n k x none vs fr w h hk hv
set_option maxHeartbeats 400000 in
theorem getno_I (g q f n : Nat) (x : Int) (vs : List (Option Value)) (fr : List Nat) (w : World) (h : SlabAt 49 51 (.int .i64 0) w g q f n vs fr) (hx : Bare vs x) :
    Calls Try.prog 14 #[.pointer (some ⟨g, 0, none⟩), .int .i64 x] w fun e w' => e = .returned (.tuple #[.int .i64 0, .bool false]) ∧ w = w' := by
  have H := Lib.hid h
  have HX := Lib.hid hx
  clear h hx
  go_enter Try.func14, Try.ntmps14
  go_wp2_with (go_at_call 20; (with_reducible refine (takenno_I g q f n x vs fr _ H.out HX.out).mono ?_); rintro e w' ⟨rfl, rfl⟩)
  go_ret2
  exact ⟨rfl, rfl⟩
set_option maxHeartbeats 400000 in
theorem get_I (g q f n k : Nat) (x : Int) (v : Value) (vs : List (Option Value)) (fr : List Nat) (w : World) (h : SlabAt 49 51 (.int .i64 0) w g q f n vs fr) (hx : x = k) (hk : vs[k]? = some (some v)) :
    Calls Try.prog 14 #[.pointer (some ⟨g, 0, none⟩), .int .i64 x] w fun e w' => e = .returned (.tuple #[v, .bool true]) ∧ w = w' := by
  subst hx
  have HS := Lib.hid h
  have HK := Lib.hid hk
  obtain ⟨cs, fs, b1, b2, b3, n1, n2, n3, H⟩ := h
  have hkv : k < n := by have := (List.getElem?_eq_some_iff.1 hk).1; have := H.lv; omega
  have hc0 : w.cell? ⟨g, 0, none⟩ = some (.slice (some ⟨q, 0, none⟩) n n) := b1.cell 0
  have hcv : w.cell? ⟨q, k * 2, none⟩ = some v := (b2.cell _).trans (H.has k (some v) hk).1
  clear b1 b2 b3 H hk
  go_enter Try.func14, Try.ntmps14
  go_wp2_with (go_at_call 20; (with_reducible refine (taken_I g q f n k _ (some v) vs fr _ HS.out rfl HK.out).mono ?_); rintro e w' ⟨rfl, rfl⟩)
  go_ret2
  exact ⟨rfl, rfl⟩
set_option maxHeartbeats 400000 in
theorem giveno_I (g q f n : Nat) (x : Int) (vs : List (Option Value)) (fr : List Nat) (w : World) (h : SlabAt 49 51 (.int .i64 0) w g q f n vs fr) (hx : Bare vs x) :
    Calls Try.prog 12 #[.pointer (some ⟨g, 0, none⟩), .int .i64 x] w fun e w' => e = .returned (.tuple #[.int .i64 0, .bool false]) ∧ w = w' := by
  have H := Lib.hid h
  have HX := Lib.hid hx
  clear h hx
  go_enter Try.func12, Try.ntmps12
  go_wp2_with (go_at_call 14; (with_reducible refine (getno_I g q f n x vs fr _ H.out HX.out).mono ?_); rintro e w' ⟨rfl, rfl⟩)
  go_ret2
  exact ⟨rfl, rfl⟩
set_option maxHeartbeats 400000 in
theorem takeno_I (g q f n : Nat) (u : Value) (vs : List (Option Value)) (w : World) (h : SlabAt 49 51 (.int .i64 0) w g q f n vs []) :
    Calls Try.prog 11 #[.pointer (some ⟨g, 0, none⟩), u] w fun e w' => e = .returned (.tuple #[.int .i64 0, .bool false]) ∧ w = w' := by
  obtain ⟨cs, fs, b1, b2, b3, n1, n2, n3, H⟩ := h
  have B1 := Lib.hid b1
  clear b1 b2 b3 H
  go_enter Try.func11, Try.ntmps11
  go_wp2_with (go_at_call 9; (with_reducible refine (free_I g _ _ _ _ _ B1.out).mono ?_); rintro e w' ⟨rfl, rfl⟩)
  go_ret2
  exact ⟨rfl, rfl⟩
set_option maxHeartbeats 400000 in
theorem take_I (g q f n i : Nat) (z : Int) (vs : List (Option Value)) (fr : List Nat) (w : World) (h : SlabAt 49 51 (.int .i64 0) w g q f n vs (fr ++ [i])) :
    Calls Try.prog 11 #[.pointer (some ⟨g, 0, none⟩), (Value.int .i64 z)] w fun e w' => e = .returned (.tuple #[.int .i64 i, .bool true]) ∧ SlabAt 49 51 (.int .i64 0) w' g q f n (vs.set i (some (Value.int .i64 z))) fr ∧ Far (three g q f) w w' := by
  obtain ⟨cs, fs, b1, b2, b3, n1, n2, n3, H⟩ := h
  have hlen : (fr ++ [i]).length = fr.length + 1 := by simp
  rw [hlen] at b1
  have hi : i < n := H.lt (by simp)
  have hfn : fr.length < n := by have := H.cnt; rw [hlen] at this; omega
  have hn : n ≤ 4096 := H.high
  have hc0 : w.cell? ⟨g, 0, none⟩ = some (.slice (some ⟨q, 0, none⟩) n n) := b1.cell 0
  have hc1 : w.cell? ⟨g, 1, none⟩ = some (.slice (some ⟨f, 0, none⟩) (fr.length + 1) n) := b1.cell 1
  have hcf : w.cell? ⟨f, fr.length, none⟩ = some (.int .i64 i) := (b3.cell _).trans (H.free _ _ (by simp))
  have hf1 := b1.frozen 1
  have hf2 := b2.frozen (i * 2)
  have hf3 := b2.frozen (i * 2 + 1)
  obtain ⟨o1, ho1⟩ : ∃ o, w.cell? ⟨q, i * 2, none⟩ = some o := by rw [b2.cell]; exact ⟨_, List.getElem?_eq_getElem (by have := H.lc; omega)⟩
  obtain ⟨o2, ho2⟩ : ∃ o, w.cell? ⟨q, i * 2 + 1, none⟩ = some o := by rw [b2.cell]; exact ⟨_, List.getElem?_eq_getElem (by have := H.lc; omega)⟩
  have B1 := Lib.hid b1
  have HR := Lib.hid (slab_take (T := 49) (E := 51) b1 b2 b3 n1 n2 n3 H (Value.int .i64 z))
  clear b1 b2 b3 H hlen
  generalize fr.length = m at *
  have hp : decide ((m : Int) < 0) = false := by simp
  have hs1 := fun W => run_upto31 (A := some ⟨f, 0, none⟩) (n := m + 1) (c := n) (k := m) W (by omega)
  have n4 : q ≠ g := fun e => n1 e.symm
  have n5 : f ≠ g := fun e => n2 e.symm
  go_enter Try.func11, Try.ntmps11
  go_wp2_with (go_at_call 9; (with_reducible refine (free_I g _ _ _ _ _ B1.out).mono ?_); rintro e w' ⟨rfl, rfl⟩)
  go_ret2
  exact ⟨rfl, HR.out⟩
set_option maxHeartbeats 1000000 in
theorem give_I (g q f n k : Nat) (x : Int) (z : Int) (vs : List (Option Value)) (fr : List Nat) (w : World) (h : SlabAt 49 51 (.int .i64 0) w g q f n vs fr) (hx : x = k) (hk : vs[k]? = some (some (Value.int .i64 z))) :
    Calls Try.prog 12 #[.pointer (some ⟨g, 0, none⟩), .int .i64 x] w fun e w' => e = .returned (.tuple #[(Value.int .i64 z), .bool true]) ∧ SlabAt 49 51 (.int .i64 0) w' g q f n (vs.set k none) (fr ++ [k]) ∧ Far (three g q f) w w' := by
  subst hx
  have HS := Lib.hid h
  have HK := Lib.hid hk
  obtain ⟨cs, fs, b1, b2, b3, n1, n2, n3, H⟩ := h
  have hi : k < n := by have := (List.getElem?_eq_some_iff.1 hk).1; have := H.lv; omega
  have hfn : fr.length < n := H.room hk
  have hn : n ≤ 4096 := H.high
  have hc0 : w.cell? ⟨g, 0, none⟩ = some (.slice (some ⟨q, 0, none⟩) n n) := b1.cell 0
  have hc1 : w.cell? ⟨g, 1, none⟩ = some (.slice (some ⟨f, 0, none⟩) fr.length n) := b1.cell 1
  have hf1 := b1.frozen 1
  have hf2 := b2.frozen (k * 2)
  have hf3 := b2.frozen (k * 2 + 1)
  have hf4 := b3.frozen fr.length
  obtain ⟨o1, ho1⟩ : ∃ o, w.cell? ⟨q, k * 2, none⟩ = some o := by rw [b2.cell]; exact ⟨_, List.getElem?_eq_getElem (by have := H.lc; omega)⟩
  obtain ⟨o2, ho2⟩ : ∃ o, w.cell? ⟨q, k * 2 + 1, none⟩ = some o := by rw [b2.cell]; exact ⟨_, List.getElem?_eq_getElem (by have := H.lc; omega)⟩
  obtain ⟨o3, ho3⟩ : ∃ o, w.cell? ⟨f, fr.length, none⟩ = some o := by rw [b3.cell]; exact ⟨_, List.getElem?_eq_getElem (by have := H.lf; omega)⟩
  have hlg := b1.lt
  have hlq := b2.lt
  have hlf := b3.lt
  have HR := Lib.hid (fun O => slab_give (T := 49) (E := 51) b1 b2 b3 n1 n2 n3 H hk O)
  clear b1 b2 b3 H hk
  generalize fr.length = m at *
  have n4 : q ≠ g := fun e => n1 e.symm
  have n5 : f ≠ g := fun e => n2 e.symm
  have n6 : f ≠ q := fun e => n3 e.symm
  go_enter Try.func12, Try.ntmps12
  go_wp2_with (go_at_call 14; (with_reducible refine (get_I g q f n k _ (Value.int .i64 z) vs fr _ HS.out rfl HK.out).mono ?_); rintro e w' ⟨rfl, rfl⟩)
  go_ret2
  exact ⟨rfl, HR.out _⟩
set_option maxHeartbeats 1000000 in
theorem new_I (n : Nat) (x : Int) (w : World) (hx : x = n) (h0 : 1 ≤ n) (hn : n ≤ 4096) :
    Calls Try.prog 8 #[.int .i64 x] w (NewPost 49 51 (.int .i64 0) n w) := by
  subst hx
  have hmk := fun W => run_make_many (P := Try.prog) 47 51 (.agg #[.int .i64 0, .bool false]) #[.int .i64 0, .bool false] 2 16 Try.underlying47 (by kernel_rfl) rfl .i64 .i64 n (by omega) (by omega) W
  have hmf := fun W => run_make_row' (P := Try.prog) 31 3 (.int .i64 0) 8 Try.underlying31 (by kernel_rfl) rfl .i64 .i64 n (by omega) (by omega) W
  have hd : decide ((n : Int) < 1) = false := by simp; omega
  have hd2 : decide ((4096 : Int) < (n : Int)) = false := by simp; omega
  go_enter Try.func8, Try.ntmps8
  go_upto_region 3 with fail
  go_cut [4] (fun p wx => ∃ g q f, p = .pointer (some ⟨g, 0, none⟩) ∧ NewAt w g q f ∧ NewRel 49 51 (.int .i64 0) w g q f n 0 wx)
  case first =>
    go_region
    · go_wp2_with fail
      go_meet
      case rel => exact ⟨_, _, _, rfl, ⟨by omega, by omega, by omega, by omega, by omega, by omega⟩, new_one 49 51 (.int .i64 0) w n⟩
    · go_wp2_with fail
      go_meet
      case rel => exact ⟨_, _, _, rfl, ⟨by omega, by omega, by omega, by omega, by omega, by omega⟩, new_two 49 51 (.int .i64 0) w n⟩
  case rest =>
    obtain ⟨g, q, f, rfl, ha, hr⟩ := hcut
    have HR0 := Lib.hid hr
    have HA := Lib.hid ha
    have hc1 : wc.cell? ⟨g, 1, none⟩ = some (.slice (some ⟨f, 0, none⟩) n n) := by obtain ⟨fs, b1, _⟩ := hr; exact b1.cell 1
    clear hr ha
    go_wp2_with fail
    clear hc1
    go_loopw [5, 23] (fun _ i w' => ∃ k : Nat, k ≤ n ∧ i = .int .i64 k ∧ NewRel 49 51 (.int .i64 0) w g q f n k w') (fun _ i _ => n - (intOf i).toNat)
    case atStart => exact ⟨0, by omega, rfl, HR0.out⟩
    case round =>
      obtain ⟨k, hk, rfl, hr⟩ := hrel
      have HR := Lib.hid hr
      obtain ⟨fs, b1, b2, b3, hl, hb⟩ := hr
      have hc1 : wr.cell? ⟨g, 1, none⟩ = some (.slice (some ⟨f, 0, none⟩) n n) := b1.cell 1
      by_cases hlt : k < n
      · have hd3 : decide ((k : Int) < (n : Int)) = true := by simp; omega
        obtain ⟨o, ho⟩ : ∃ o, wr.cell? ⟨f, k, none⟩ = some o := by rw [b3.cell]; exact ⟨_, List.getElem?_eq_getElem (by have := hl.1; omega)⟩
        have hfo := b3.frozen k
        clear b1 b2 b3 hl hb
        go_wp2
        go_roundw
        case rel => exact ⟨k + 1, by omega, by go_num, new_step HR.out HA.out hlt⟩
        case measure => simp [intOf]; omega
      · obtain rfl : k = n := by omega
        have hd3 : decide ((k : Int) < (k : Int)) = false := by simp
        clear b1 b2 b3 hl hb hc1
        go_wp2
        go_ret2
        exact new_end HR.out HA.out h0 hn
set_option maxHeartbeats 400000 in
theorem free_S (g m : Nat) (a : Value) (A : Option Addr) (n : Nat) (w : World) (h : Blk w g 55 [a, .slice A m n]) :
    Calls Try.prog 19 #[.pointer (some ⟨g, 0, none⟩)] w fun e w' => e = .returned (.int .i64 m) ∧ w = w' := by
  have hc1 : w.cell? ⟨g, 1, none⟩ = some (.slice A m n) := h.cell 1
  clear h
  go_enter Try.func19, Try.ntmps19
  go_wp2
  go_ret
  exact ⟨rfl, rfl⟩
set_option maxHeartbeats 400000 in
theorem places_S (g n c : Nat) (A : Option Addr) (b : Value) (w : World) (h : Blk w g 55 [.slice A n c, b]) :
    Calls Try.prog 22 #[.pointer (some ⟨g, 0, none⟩)] w fun e w' => e = .returned (.int .i64 n) ∧ w = w' := by
  have hc0 : w.cell? ⟨g, 0, none⟩ = some (.slice A n c) := h.cell 0
  clear h
  go_enter Try.func22, Try.ntmps22
  go_wp2
  go_ret
  exact ⟨rfl, rfl⟩
set_option maxHeartbeats 400000 in
theorem taken_S (g q f n k : Nat) (x : Int) (b : Option Value) (vs : List (Option Value)) (fr : List Nat) (w : World) (h : SlabAt 55 57 (.string { data := #[] }) w g q f n vs fr) (hx : x = k) (hk : vs[k]? = some b) :
    Calls Try.prog 21 #[.pointer (some ⟨g, 0, none⟩), .int .i64 x] w fun e w' => e = .returned (.bool b.isSome) ∧ w = w' := by
  subst hx
  obtain ⟨cs, fs, b1, b2, b3, n1, n2, n3, H⟩ := h
  have hkv : k < n := by have := (List.getElem?_eq_some_iff.1 hk).1; have := H.lv; omega
  have hc0 : w.cell? ⟨g, 0, none⟩ = some (.slice (some ⟨q, 0, none⟩) n n) := b1.cell 0
  have hcv : w.cell? ⟨q, k * 2 + 1, none⟩ = some (.bool b.isSome) := (b2.cell _).trans (H.has k b hk).2
  have B1 := Lib.hid b1
  clear b1 b2 b3 H hk
  have hd : decide ((k : Int) < (n : Int)) = true := by simp; omega
  have hd2 : decide (k < n) = true := by simp; omega
  have hp0 : (0 : Int) ≤ (k : Int) := by omega
  generalize b.isSome = bb at *
  go_enter Try.func21, Try.ntmps21
  go_wp2_with (go_at_call 22; (with_reducible refine (places_S g _ _ _ _ _ B1.out).mono ?_); rintro e w' ⟨rfl, rfl⟩)
  go_ret
  exact ⟨rfl, rfl⟩
set_option maxHeartbeats 400000 in
theorem takenout_S (g q f n : Nat) (x : Int) (vs : List (Option Value)) (fr : List Nat) (w : World) (h : SlabAt 55 57 (.string { data := #[] }) w g q f n vs fr) (hx : x < 0 ∨ (n : Int) ≤ x) :
    Calls Try.prog 21 #[.pointer (some ⟨g, 0, none⟩), .int .i64 x] w fun e w' => e = .returned (.bool false) ∧ w = w' := by
  obtain ⟨cs, fs, b1, b2, b3, n1, n2, n3, H⟩ := h
  have B1 := Lib.hid b1
  clear b1 b2 b3 H
  by_cases hx0 : x < 0
  · have hd : decide (0 ≤ x) = false := by simp; omega
    clear hx
    go_enter Try.func21, Try.ntmps21
    go_wp2
    go_ret
    exact ⟨rfl, rfl⟩
  · have hd : decide (0 ≤ x) = true := by simp; omega
    have hd2 : decide (x < (n : Int)) = false := by simp; omega
    clear hx
    go_enter Try.func21, Try.ntmps21
    go_wp2_with (go_at_call 22; (with_reducible refine (places_S g _ _ _ _ _ B1.out).mono ?_); rintro e w' ⟨rfl, rfl⟩)
    go_ret
    exact ⟨rfl, rfl⟩
/-- Nothing is there. -/
theorem takenno_S (g q f n : Nat) (x : Int) (vs : List (Option Value)) (fr : List Nat) (w : World) (h : SlabAt 55 57 (.string { data := #[] }) w g q f n vs fr) (hx : Bare vs x) :
    Calls Try.prog 21 #[.pointer (some ⟨g, 0, none⟩), .int .i64 x] w fun e w' => e = .returned (.bool false) ∧ w = w' := by
  rcases hx with hx | ⟨k, hk, hv⟩
  · exact takenout_S g q f n x vs fr w h (by rw [← h.len]; exact hx)
  · exact taken_S g q f n k x none vs fr w h hk hv
set_option maxHeartbeats 400000 in
theorem getno_S (g q f n : Nat) (x : Int) (vs : List (Option Value)) (fr : List Nat) (w : World) (h : SlabAt 55 57 (.string { data := #[] }) w g q f n vs fr) (hx : Bare vs x) :
    Calls Try.prog 18 #[.pointer (some ⟨g, 0, none⟩), .int .i64 x] w fun e w' => e = .returned (.tuple #[.string { data := #[] }, .bool false]) ∧ w = w' := by
  have H := Lib.hid h
  have HX := Lib.hid hx
  clear h hx
  go_enter Try.func18, Try.ntmps18
  go_wp2_with (go_at_call 21; (with_reducible refine (takenno_S g q f n x vs fr _ H.out HX.out).mono ?_); rintro e w' ⟨rfl, rfl⟩)
  go_ret2
  exact ⟨rfl, rfl⟩
set_option maxHeartbeats 400000 in
theorem get_S (g q f n k : Nat) (x : Int) (v : Value) (vs : List (Option Value)) (fr : List Nat) (w : World) (h : SlabAt 55 57 (.string { data := #[] }) w g q f n vs fr) (hx : x = k) (hk : vs[k]? = some (some v)) :
    Calls Try.prog 18 #[.pointer (some ⟨g, 0, none⟩), .int .i64 x] w fun e w' => e = .returned (.tuple #[v, .bool true]) ∧ w = w' := by
  subst hx
  have HS := Lib.hid h
  have HK := Lib.hid hk
  obtain ⟨cs, fs, b1, b2, b3, n1, n2, n3, H⟩ := h
  have hkv : k < n := by have := (List.getElem?_eq_some_iff.1 hk).1; have := H.lv; omega
  have hc0 : w.cell? ⟨g, 0, none⟩ = some (.slice (some ⟨q, 0, none⟩) n n) := b1.cell 0
  have hcv : w.cell? ⟨q, k * 2, none⟩ = some v := (b2.cell _).trans (H.has k (some v) hk).1
  clear b1 b2 b3 H hk
  go_enter Try.func18, Try.ntmps18
  go_wp2_with (go_at_call 21; (with_reducible refine (taken_S g q f n k _ (some v) vs fr _ HS.out rfl HK.out).mono ?_); rintro e w' ⟨rfl, rfl⟩)
  go_ret2
  exact ⟨rfl, rfl⟩
set_option maxHeartbeats 400000 in
theorem giveno_S (g q f n : Nat) (x : Int) (vs : List (Option Value)) (fr : List Nat) (w : World) (h : SlabAt 55 57 (.string { data := #[] }) w g q f n vs fr) (hx : Bare vs x) :
    Calls Try.prog 17 #[.pointer (some ⟨g, 0, none⟩), .int .i64 x] w fun e w' => e = .returned (.tuple #[.string { data := #[] }, .bool false]) ∧ w = w' := by
  have H := Lib.hid h
  have HX := Lib.hid hx
  clear h hx
  go_enter Try.func17, Try.ntmps17
  go_wp2_with (go_at_call 18; (with_reducible refine (getno_S g q f n x vs fr _ H.out HX.out).mono ?_); rintro e w' ⟨rfl, rfl⟩)
  go_ret2
  exact ⟨rfl, rfl⟩
set_option maxHeartbeats 400000 in
theorem takeno_S (g q f n : Nat) (u : Value) (vs : List (Option Value)) (w : World) (h : SlabAt 55 57 (.string { data := #[] }) w g q f n vs []) :
    Calls Try.prog 16 #[.pointer (some ⟨g, 0, none⟩), u] w fun e w' => e = .returned (.tuple #[.int .i64 0, .bool false]) ∧ w = w' := by
  obtain ⟨cs, fs, b1, b2, b3, n1, n2, n3, H⟩ := h
  have B1 := Lib.hid b1
  clear b1 b2 b3 H
  go_enter Try.func16, Try.ntmps16
  go_wp2_with (go_at_call 19; (with_reducible refine (free_S g _ _ _ _ _ B1.out).mono ?_); rintro e w' ⟨rfl, rfl⟩)
  go_ret2
  exact ⟨rfl, rfl⟩
set_option maxHeartbeats 400000 in
theorem take_S (g q f n i : Nat) (z : ByteArray) (vs : List (Option Value)) (fr : List Nat) (w : World) (h : SlabAt 55 57 (.string { data := #[] }) w g q f n vs (fr ++ [i])) :
    Calls Try.prog 16 #[.pointer (some ⟨g, 0, none⟩), (Value.string z)] w fun e w' => e = .returned (.tuple #[.int .i64 i, .bool true]) ∧ SlabAt 55 57 (.string { data := #[] }) w' g q f n (vs.set i (some (Value.string z))) fr ∧ Far (three g q f) w w' := by
  obtain ⟨cs, fs, b1, b2, b3, n1, n2, n3, H⟩ := h
  have hlen : (fr ++ [i]).length = fr.length + 1 := by simp
  rw [hlen] at b1
  have hi : i < n := H.lt (by simp)
  have hfn : fr.length < n := by have := H.cnt; rw [hlen] at this; omega
  have hn : n ≤ 4096 := H.high
  have hc0 : w.cell? ⟨g, 0, none⟩ = some (.slice (some ⟨q, 0, none⟩) n n) := b1.cell 0
  have hc1 : w.cell? ⟨g, 1, none⟩ = some (.slice (some ⟨f, 0, none⟩) (fr.length + 1) n) := b1.cell 1
  have hcf : w.cell? ⟨f, fr.length, none⟩ = some (.int .i64 i) := (b3.cell _).trans (H.free _ _ (by simp))
  have hf1 := b1.frozen 1
  have hf2 := b2.frozen (i * 2)
  have hf3 := b2.frozen (i * 2 + 1)
  obtain ⟨o1, ho1⟩ : ∃ o, w.cell? ⟨q, i * 2, none⟩ = some o := by rw [b2.cell]; exact ⟨_, List.getElem?_eq_getElem (by have := H.lc; omega)⟩
  obtain ⟨o2, ho2⟩ : ∃ o, w.cell? ⟨q, i * 2 + 1, none⟩ = some o := by rw [b2.cell]; exact ⟨_, List.getElem?_eq_getElem (by have := H.lc; omega)⟩
  have B1 := Lib.hid b1
  have HR := Lib.hid (slab_take (T := 55) (E := 57) b1 b2 b3 n1 n2 n3 H (Value.string z))
  clear b1 b2 b3 H hlen
  generalize fr.length = m at *
  have hp : decide ((m : Int) < 0) = false := by simp
  have hs1 := fun W => run_upto31 (A := some ⟨f, 0, none⟩) (n := m + 1) (c := n) (k := m) W (by omega)
  have n4 : q ≠ g := fun e => n1 e.symm
  have n5 : f ≠ g := fun e => n2 e.symm
  go_enter Try.func16, Try.ntmps16
  go_wp2_with (go_at_call 19; (with_reducible refine (free_S g _ _ _ _ _ B1.out).mono ?_); rintro e w' ⟨rfl, rfl⟩)
  go_ret2
  exact ⟨rfl, HR.out⟩
set_option maxHeartbeats 1000000 in
theorem give_S (g q f n k : Nat) (x : Int) (z : ByteArray) (vs : List (Option Value)) (fr : List Nat) (w : World) (h : SlabAt 55 57 (.string { data := #[] }) w g q f n vs fr) (hx : x = k) (hk : vs[k]? = some (some (Value.string z))) :
    Calls Try.prog 17 #[.pointer (some ⟨g, 0, none⟩), .int .i64 x] w fun e w' => e = .returned (.tuple #[(Value.string z), .bool true]) ∧ SlabAt 55 57 (.string { data := #[] }) w' g q f n (vs.set k none) (fr ++ [k]) ∧ Far (three g q f) w w' := by
  subst hx
  have HS := Lib.hid h
  have HK := Lib.hid hk
  obtain ⟨cs, fs, b1, b2, b3, n1, n2, n3, H⟩ := h
  have hi : k < n := by have := (List.getElem?_eq_some_iff.1 hk).1; have := H.lv; omega
  have hfn : fr.length < n := H.room hk
  have hn : n ≤ 4096 := H.high
  have hc0 : w.cell? ⟨g, 0, none⟩ = some (.slice (some ⟨q, 0, none⟩) n n) := b1.cell 0
  have hc1 : w.cell? ⟨g, 1, none⟩ = some (.slice (some ⟨f, 0, none⟩) fr.length n) := b1.cell 1
  have hf1 := b1.frozen 1
  have hf2 := b2.frozen (k * 2)
  have hf3 := b2.frozen (k * 2 + 1)
  have hf4 := b3.frozen fr.length
  obtain ⟨o1, ho1⟩ : ∃ o, w.cell? ⟨q, k * 2, none⟩ = some o := by rw [b2.cell]; exact ⟨_, List.getElem?_eq_getElem (by have := H.lc; omega)⟩
  obtain ⟨o2, ho2⟩ : ∃ o, w.cell? ⟨q, k * 2 + 1, none⟩ = some o := by rw [b2.cell]; exact ⟨_, List.getElem?_eq_getElem (by have := H.lc; omega)⟩
  obtain ⟨o3, ho3⟩ : ∃ o, w.cell? ⟨f, fr.length, none⟩ = some o := by rw [b3.cell]; exact ⟨_, List.getElem?_eq_getElem (by have := H.lf; omega)⟩
  have hlg := b1.lt
  have hlq := b2.lt
  have hlf := b3.lt
  have HR := Lib.hid (fun O => slab_give (T := 55) (E := 57) b1 b2 b3 n1 n2 n3 H hk O)
  clear b1 b2 b3 H hk
  generalize fr.length = m at *
  have n4 : q ≠ g := fun e => n1 e.symm
  have n5 : f ≠ g := fun e => n2 e.symm
  have n6 : f ≠ q := fun e => n3 e.symm
  go_enter Try.func17, Try.ntmps17
  go_wp2_with (go_at_call 18; (with_reducible refine (get_S g q f n k _ (Value.string z) vs fr _ HS.out rfl HK.out).mono ?_); rintro e w' ⟨rfl, rfl⟩)
  go_ret2
  exact ⟨rfl, HR.out _⟩
set_option maxHeartbeats 1000000 in
theorem new_S (n : Nat) (x : Int) (w : World) (hx : x = n) (h0 : 1 ≤ n) (hn : n ≤ 4096) :
    Calls Try.prog 15 #[.int .i64 x] w (NewPost 55 57 (.string { data := #[] }) n w) := by
  subst hx
  have hmk := fun W => run_make_many (P := Try.prog) 53 57 (.agg #[.string { data := #[] }, .bool false]) #[.string { data := #[] }, .bool false] 2 24 Try.underlying53 (by kernel_rfl) rfl .i64 .i64 n (by omega) (by omega) W
  have hmf := fun W => run_make_row' (P := Try.prog) 31 3 (.int .i64 0) 8 Try.underlying31 (by kernel_rfl) rfl .i64 .i64 n (by omega) (by omega) W
  have hd : decide ((n : Int) < 1) = false := by simp; omega
  have hd2 : decide ((4096 : Int) < (n : Int)) = false := by simp; omega
  go_enter Try.func15, Try.ntmps15
  go_upto_region 3 with fail
  go_cut [4] (fun p wx => ∃ g q f, p = .pointer (some ⟨g, 0, none⟩) ∧ NewAt w g q f ∧ NewRel 55 57 (.string { data := #[] }) w g q f n 0 wx)
  case first =>
    go_region
    · go_wp2_with fail
      go_meet
      case rel => exact ⟨_, _, _, rfl, ⟨by omega, by omega, by omega, by omega, by omega, by omega⟩, new_one 55 57 (.string { data := #[] }) w n⟩
    · go_wp2_with fail
      go_meet
      case rel => exact ⟨_, _, _, rfl, ⟨by omega, by omega, by omega, by omega, by omega, by omega⟩, new_two 55 57 (.string { data := #[] }) w n⟩
  case rest =>
    obtain ⟨g, q, f, rfl, ha, hr⟩ := hcut
    have HR0 := Lib.hid hr
    have HA := Lib.hid ha
    have hc1 : wc.cell? ⟨g, 1, none⟩ = some (.slice (some ⟨f, 0, none⟩) n n) := by obtain ⟨fs, b1, _⟩ := hr; exact b1.cell 1
    clear hr ha
    go_wp2_with fail
    clear hc1
    go_loopw [5, 23] (fun _ i w' => ∃ k : Nat, k ≤ n ∧ i = .int .i64 k ∧ NewRel 55 57 (.string { data := #[] }) w g q f n k w') (fun _ i _ => n - (intOf i).toNat)
    case atStart => exact ⟨0, by omega, rfl, HR0.out⟩
    case round =>
      obtain ⟨k, hk, rfl, hr⟩ := hrel
      have HR := Lib.hid hr
      obtain ⟨fs, b1, b2, b3, hl, hb⟩ := hr
      have hc1 : wr.cell? ⟨g, 1, none⟩ = some (.slice (some ⟨f, 0, none⟩) n n) := b1.cell 1
      by_cases hlt : k < n
      · have hd3 : decide ((k : Int) < (n : Int)) = true := by simp; omega
        obtain ⟨o, ho⟩ : ∃ o, wr.cell? ⟨f, k, none⟩ = some o := by rw [b3.cell]; exact ⟨_, List.getElem?_eq_getElem (by have := hl.1; omega)⟩
        have hfo := b3.frozen k
        clear b1 b2 b3 hl hb
        go_wp2
        go_roundw
        case rel => exact ⟨k + 1, by omega, by go_num, new_step HR.out HA.out hlt⟩
        case measure => simp [intOf]; omega
      · obtain rfl : k = n := by omega
        have hd3 : decide ((k : Int) < (k : Int)) = false := by simp
        clear b1 b2 b3 hl hb hc1
        go_wp2
        go_ret2
        exact new_end HR.out HA.out h0 hn
set_option maxHeartbeats 400000 in
theorem setno_I (g q f n : Nat) (x : Int) (u : Value) (vs : List (Option Value)) (fr : List Nat) (w : World) (h : SlabAt 49 51 (.int .i64 0) w g q f n vs fr) (hx : Bare vs x) :
    Calls Try.prog 13 #[.pointer (some ⟨g, 0, none⟩), .int .i64 x, u] w fun e w' => e = .returned (.bool false) ∧ w = w' := by
  have H := Lib.hid h
  have HX := Lib.hid hx
  clear h hx
  go_enter Try.func13, Try.ntmps13
  go_wp2_with (go_at_call 20; (with_reducible refine (takenno_I g q f n x vs fr _ H.out HX.out).mono ?_); rintro e w' ⟨rfl, rfl⟩)
  go_ret
  exact ⟨rfl, rfl⟩
set_option maxHeartbeats 400000 in
theorem set_I (g q f n k : Nat) (x : Int) (v : Value) (z : Int) (vs : List (Option Value)) (fr : List Nat) (w : World) (h : SlabAt 49 51 (.int .i64 0) w g q f n vs fr) (hx : x = k) (hk : vs[k]? = some (some v)) :
    Calls Try.prog 13 #[.pointer (some ⟨g, 0, none⟩), .int .i64 x, .int .i64 z] w fun e w' => e = .returned (.bool true) ∧ SlabAt 49 51 (.int .i64 0) w' g q f n (vs.set k (some (.int .i64 z))) fr ∧ Far (three g q f) w w' := by
  subst hx
  have HS := Lib.hid h
  have HK := Lib.hid hk
  obtain ⟨cs, fs, b1, b2, b3, n1, n2, n3, H⟩ := h
  have hi : k < n := by have := (List.getElem?_eq_some_iff.1 hk).1; have := H.lv; omega
  have hn : n ≤ 4096 := H.high
  have hc0 : w.cell? ⟨g, 0, none⟩ = some (.slice (some ⟨q, 0, none⟩) n n) := b1.cell 0
  have hf2 := b2.frozen (k * 2)
  obtain ⟨o1, ho1⟩ : ∃ o, w.cell? ⟨q, k * 2, none⟩ = some o := by rw [b2.cell]; exact ⟨_, List.getElem?_eq_getElem (by have := H.lc; omega)⟩
  have HR := Lib.hid (slab_set (T := 49) (E := 51) b1 b2 b3 n1 n2 n3 H hk (.int .i64 z))
  clear b1 b2 b3 H hk
  go_enter Try.func13, Try.ntmps13
  go_wp2_with (go_at_call 20; (with_reducible refine (taken_I g q f n k _ (some v) vs fr _ HS.out rfl HK.out).mono ?_); rintro e w' ⟨rfl, rfl⟩)
  go_ret
  exact ⟨rfl, HR.out⟩
end Go.Proofs.Ytmkegonlepkhdaa
