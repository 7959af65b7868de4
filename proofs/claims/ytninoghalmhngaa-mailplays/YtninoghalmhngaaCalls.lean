/- The contracts of mail's calls. Conditions: those of each theorem. -/
import Derived.Test.YtninoghalmhngaaRows
import Derived.Test.YtninoghalmhngaaMem
import Derived.Conc.LoneSelect
import Derived.Conc.LoneSelectN
import Derived.WalkKit
import Derived.WalkSpells
import Derived.WalkLawsBesides
import Derived.ProofKit
import Derived.OpenShut
import Derived.Deep.OwnRows
import Derived.Deep.QuietTactic
import Derived.BigQuiet
import Derived.Deep.RegionWith
import Derived.RegionTactic
import Derived.ChangeAlike
import Derived.Deep.DeepCutAuto
namespace Go.Proofs.Ytninoghalmhngaa
open Go.RowKit Go.Conc

theorem Blk.drew {w : World} {g : Nat} {t : TypeId} {cs : List Value} (h : Blk w g t cs) : Blk w.drew g t cs := h
theorem Blk.drewN {w : World} {g : Nat} {t : TypeId} {cs : List Value} (h : Blk w g t cs) (n : Nat) : Blk (w.drewN n) g t cs := h

/-- Block c is an open channel with room for n things, in which the pointers to the blocks ps lie. -/
def ChanAt (w : World) (c n : Nat) (ps : List Nat) : Prop :=
  ∃ s r, w.heap[c]? = some (.chan n (ps.map fun p => Value.pointer (some ⟨p, 0, none⟩)).toArray false s r false)

/-- A box at block g, its channel at block c, of room n: the numbers vs are in it; none of its blocks is one of B. -/
structure BoxAt (w : World) (g c n : Nat) (B : Nat → Prop) (vs : List Int) : Prop where
  own : Blk w g 42 [.chan (some c)]
  low : 1 ≤ n
  high : n ≤ 4096
  fits : vs.length ≤ n
  apart : ¬ B g ∧ ¬ B c
  has : ∃ ps : List Nat, ChanAt w c n ps ∧ ps.length = vs.length ∧ (∀ p, p ∈ ps → ¬ B p) ∧ ∀ (i : Nat) (p : Nat) (v : Int), ps[i]? = some p → vs[i]? = some v → Blk w p 3 [.int .i64 v]

/-- One block alone. -/
def only (c : Nat) : Nat → Prop := fun k => k = c
/-- No block. -/
def nobody : Nat → Prop := fun _ => False

theorem ChanAt.blk {w : World} {c n g : Nat} {ps : List Nat} {t : TypeId} {cs : List Value} (h : ChanAt w c n ps) (hb : Blk w g t cs) : g ≠ c := by
  obtain ⟨s, r, h⟩ := h
  rintro rfl
  unfold Blk at hb
  rw [hb] at h
  cases h
theorem ChanAt.lt {w : World} {c n : Nat} {ps : List Nat} (h : ChanAt w c n ps) : c < w.heap.size := by
  obtain ⟨s, r, h⟩ := h
  exact (Array.getElem?_eq_some_iff.1 h).1
theorem ChanAt.far {S : Nat → Prop} {w w' : World} {c n : Nat} {ps : List Nat} (h : ChanAt w c n ps) (hf : Far S w w') (hn : ¬ S c) : ChanAt w' c n ps := by
  have hl := h.lt
  obtain ⟨s, r, h⟩ := h
  exact ⟨s, r, (hf.block c hl hn).trans h⟩
theorem Far.chan {S : Nat → Prop} {w w' : World} (h : Far S w w') {c : Nat} (hc : c < w.heap.size → S c) (cap : Nat) (buf : Array Value) (cl : Bool) (s r : Nat) (tm : Bool) : Far S w (w'.setChan c cap buf cl s r tm) :=
  ⟨h.os, h.tape, h.output, by simpa [World.setChan] using h.size, fun i hi hn => by
    simp only [World.setChan]
    rw [Array.getElem?_setIfInBounds_ne (fun e : c = i => by subst e; exact hn (hc hi))]
    exact h.block i hi hn⟩

section
variable {w w' : World} {g c n : Nat} {B : Nat → Prop} {vs : List Int}
theorem BoxAt.far {S : Nat → Prop} (h : BoxAt w g c n B vs) (hf : Far S w w') (hs : ∀ k, S k → B k) : BoxAt w' g c n B vs := by
  obtain ⟨ps, hc, hl, hb, hv⟩ := h.has
  refine ⟨h.own.far hf (fun e => h.apart.1 (hs _ e)), h.low, h.high, h.fits, h.apart, ps, hc.far hf (fun e => h.apart.2 (hs _ e)), hl, hb, fun i p v hp hv' => (hv i p v hp hv').far hf (fun e => hb p (List.mem_of_getElem? hp) (hs _ e))⟩
theorem BoxAt.lt (h : BoxAt w g c n B vs) : g < w.heap.size ∧ c < w.heap.size := by
  obtain ⟨ps, hc, _⟩ := h.has
  exact ⟨h.own.lt, hc.lt⟩
theorem BoxAt.ne (h : BoxAt w g c n B vs) : g ≠ c := by
  obtain ⟨ps, hc, _⟩ := h.has
  exact hc.blk h.own
/-- Other blocks may be named, if none of them is there yet. -/
theorem BoxAt.weak (h : BoxAt w g c n B vs) {B' : Nat → Prop} (hb : ∀ k, k < w.heap.size → B' k → B k) : BoxAt w g c n B' vs := by
  obtain ⟨ps, hc, hl, hb', hv⟩ := h.has
  refine ⟨h.own, h.low, h.high, h.fits, ⟨fun e => h.apart.1 (hb _ h.lt.1 e), fun e => h.apart.2 (hb _ h.lt.2 e)⟩, ps, hc, hl, fun p hp e => ?_, hv⟩
  obtain ⟨i, hi⟩ := List.mem_iff_getElem?.1 hp
  have hi' := (List.getElem?_eq_some_iff.1 hi).1
  obtain ⟨v, hv'⟩ : ∃ v, vs[i]? = some v := ⟨_, List.getElem?_eq_getElem (by omega)⟩
  exact hb' p hp (hb p (hv i p v hi hv').lt e)
theorem BoxAt.below (h : BoxAt w g c n B vs) (hb : Below w.heap.size w w') : BoxAt w' g c n B vs := h.far (S := nobody) (Far.of_below hb nobody) (fun _ e => e.elim)
theorem BoxAt.drew (h : BoxAt w g c n B vs) : BoxAt w.drew g c n B vs := ⟨h.own, h.low, h.high, h.fits, h.apart, h.has⟩
/-- Behind a send of a thing's new block. -/
theorem BoxAt.push (h : BoxAt w g c n B vs) (x : Int) (hr : vs.length < n) (hb : ¬ B w.heap.size) {ps : List Nat} {s r : Nat} (hl : ps.length = vs.length) (hp : ∀ p, p ∈ ps → ¬ B p) (hv : ∀ (i : Nat) (p : Nat) (v : Int), ps[i]? = some p → vs[i]? = some v → Blk w p 3 [.int .i64 v]) :
    BoxAt ((w.alloc (.cells #[.int .i64 x] 3)).setChan c n ((ps.map fun p => Value.pointer (some ⟨p, 0, none⟩)).toArray.push (.pointer (some ⟨w.heap.size, 0, none⟩))) false s r false) g c n B (vs ++ [x]) := by
  have hlt := h.lt
  have hne := h.ne
  have hf : Far (only c) w ((w.alloc (.cells #[.int .i64 x] 3)).setChan c n ((ps.map fun p => Value.pointer (some ⟨p, 0, none⟩)).toArray.push (.pointer (some ⟨w.heap.size, 0, none⟩))) false s r false) :=
    ((Far.refl (only c) w).alloc _).chan (fun _ => show c = c from rfl) _ _ _ _ _ _
  obtain ⟨ps0, hc0, _⟩ := h.has
  refine ⟨h.own.far hf hne, h.low, h.high, by simp; omega, h.apart, ps ++ [w.heap.size], ⟨s, r, ?_⟩, by simp [hl], ?_, ?_⟩
  · rw [heap_setChan _ _ _ _ _ _ _ _ (by simp; omega)]
    simp
  · intro p hp'
    rcases List.mem_append.1 hp' with hp' | hp'
    · exact hp p hp'
    · simp at hp'
      subst hp'
      exact hb
  · intro i p v hi hv'
    by_cases e : i < ps.length
    · rw [List.getElem?_append_left e] at hi
      rw [List.getElem?_append_left (by omega)] at hv'
      have hb' := hv i p v hi hv'
      exact hb'.far hf (hc0.blk hb')
    · rw [List.getElem?_append_right (by omega)] at hi
      rw [List.getElem?_append_right (by omega)] at hv'
      have e' : i - ps.length = 0 := by
        have := (List.getElem?_eq_some_iff.1 hi).1
        simp at this
        omega
      have e'' : i - vs.length = 0 := by omega
      rw [e'] at hi
      rw [e''] at hv'
      simp at hi hv'
      subst hi hv'
      have : Blk (w.alloc (.cells #[.int .i64 x] 3)) w.heap.size 3 [.int .i64 x] := Blk.new w 3 [.int .i64 x]
      exact this.far (S := only c) ((Far.refl (only c) _).chan (fun _ => show c = c from rfl) _ _ _ _ _ _) (fun e => by have : w.heap.size = c := e; omega)
/-- Behind a receive. -/
theorem BoxAt.pop {v : Int} (h : BoxAt w g c n B (v :: vs)) {p : Nat} {ps : List Nat} {s r : Nat} (hl : (p :: ps).length = (v :: vs).length) (hp : ∀ q, q ∈ p :: ps → ¬ B q) (hv : ∀ (i : Nat) (q : Nat) (u : Int), (p :: ps)[i]? = some q → (v :: vs)[i]? = some u → Blk w q 3 [.int .i64 u]) :
    BoxAt (w.setChan c n (ps.map fun p => Value.pointer (some ⟨p, 0, none⟩)).toArray false s r false) g c n B vs := by
  have hlt := h.lt
  have hne := h.ne
  have hf : Far (only c) w (w.setChan c n (ps.map fun p => Value.pointer (some ⟨p, 0, none⟩)).toArray false s r false) := (Far.refl (only c) w).chan (fun _ => show c = c from rfl) _ _ _ _ _ _
  obtain ⟨ps0, hc0, _⟩ := h.has
  refine ⟨h.own.far hf hne, h.low, h.high, by have := h.fits; simp at this; omega, h.apart, ps, ⟨s, r, ?_⟩, by simpa using hl, fun q hq => hp q (List.mem_cons_of_mem _ hq), ?_⟩
  · rw [heap_setChan _ _ _ _ _ _ _ _ (by omega)]
  · intro i q u hi hu
    have hb' := hv (i + 1) q u (by simpa using hi) (by simpa using hu)
    exact hb'.far hf (hc0.blk hb')
end

theorem bytes43 : ∃ i, Try.prog.info? 43 = some i ∧ i.bytes = 8 := by
  have h : (Try.prog.info? 43).map (·.bytes) = some 8 := by kernel_rfl
  obtain ⟨i, hi, hb⟩ := Option.map_eq_some_iff.1 h
  exact ⟨i, hi, hb⟩
theorem mk (n : Nat) (hn : n ≤ 4096) (w : World) : (Instr.makeChan 40 (.int .i64 (n : Nat))).run Try.prog w = .ok (.chan (some w.heap.size)) (w.alloc (.chan n #[] false 0 0 false)) := by
  obtain ⟨i, hi, hb⟩ := bytes43
  exact run_makeChan (P := Try.prog) (w := w) Try.underlying40 hi .i64 n (by omega) (by rw [hb]; omega)

set_option maxHeartbeats 1000000 in
theorem new_ok (x : Int) (n : Nat) (w : World) (hx : x = n) (h1 : 1 ≤ n) (h2 : n ≤ 4096) : Calls Try.prog 8 #[.int .i64 x] w fun e w' => ∃ g c, e = .returned (.tuple #[.pointer (some ⟨g, 0, none⟩), .int .i64 0]) ∧ BoxAt w' g c n (fun k => k < w.heap.size) [] ∧ w.heap.size ≤ g ∧ w.heap.size ≤ c ∧ Below w.heap.size w w' := by
  subst hx
  have hd : decide ((n : Int) < 1) = false := by simp; omega
  have hd2 : decide ((4096 : Int) < n) = false := by simp; omega
  have hmk := mk n h2
  go_enter Try.func8, Try.ntmps8
  go_wp2
  go_ret2
  refine ⟨w.heap.size + 1, w.heap.size, rfl, ⟨?_, h1, h2, by simp, by omega, [], ⟨0, 0, ?_⟩, rfl, by simp, by simp⟩, by omega, by omega, ((Below.refl _ w).alloc (Nat.le_refl _) _).alloc (by simp) _⟩
  · simpa using Blk.new (w.alloc (Obj.chan n #[] false 0 0 false)) 42 [.chan (some w.heap.size)]
  · rw [Below.heap_alloc _ _ _ (by simp), heap_alloc_new]
    rfl
set_option maxHeartbeats 400000 in
theorem new_bad (x : Int) (w : World) (h : x < 1 ∨ 4096 < x) : Calls Try.prog 8 #[.int .i64 x] w fun e w' => e = .returned (.tuple #[.pointer none, .int .i64 1]) ∧ w = w' := by
  by_cases h1 : x < 1
  · have hd : decide (x < 1) = true := by simpa using h1
    go_enter Try.func8, Try.ntmps8
    go_wp2
    go_ret2
    exact ⟨rfl, rfl⟩
  · have hd : decide (x < 1) = false := by simpa using h1
    have hd2 : decide ((4096 : Int) < x) = true := by simp; omega
    go_enter Try.func8, Try.ntmps8
    go_wp2
    go_ret2
    exact ⟨rfl, rfl⟩
set_option maxHeartbeats 400000 in
theorem len_nil (w : World) : Calls Try.prog 9 #[.pointer none] w fun e w' => e = .returned (.int .i64 0) ∧ w = w' := by
  go_enter Try.func9, Try.ntmps9
  go_wp2
  go_ret
  exact ⟨rfl, rfl⟩
set_option maxHeartbeats 400000 in
theorem room_nil (w : World) : Calls Try.prog 13 #[.pointer none] w fun e w' => e = .returned (.int .i64 0) ∧ w = w' := by
  go_enter Try.func13, Try.ntmps13
  go_wp2
  go_ret
  exact ⟨rfl, rfl⟩
set_option maxHeartbeats 400000 in
theorem take_nil (w : World) : Calls Try.prog 12 #[.pointer none] w fun e w' => e = .returned (.tuple #[.int .i64 0, .bool false]) ∧ w = w' := by
  go_enter Try.func12, Try.ntmps12
  go_wp2
  go_ret2
  exact ⟨rfl, rfl⟩
set_option maxHeartbeats 400000 in
theorem put_nil (x : Int) (w : World) : Calls Try.prog 10 #[.pointer none, .int .i64 x] w fun e w' => e = .returned (.bool false) ∧ Below w.heap.size w w' := by
  go_enter Try.func10, Try.ntmps10
  go_wp2
  go_ret
  exact ⟨rfl, (Below.refl _ w).alloc (Nat.le_refl _) _⟩
set_option maxHeartbeats 400000 in
theorem len_is (g c n m : Nat) (B : Nat → Prop) (vs : List Int) (w : World) (h : BoxAt w g c n B vs) (hm : vs.length = m) : Calls Try.prog 9 #[.pointer (some ⟨g, 0, none⟩)] w fun e w' => e = .returned (.int .i64 (m : Nat)) ∧ w = w' := by
  obtain ⟨ps, ⟨s, r, hc⟩, hl, _⟩ := h.has
  have hcell : w.cell? ⟨g, 0, none⟩ = some (.chan (some c)) := h.own.cell 0
  have hlen := fun ty => run_len_chan (P := Try.prog) 40 ty Try.underlying40 hc
  clear h
  go_enter Try.func9, Try.ntmps9
  go_wp2
  go_ret
  exact ⟨rfl, rfl⟩
set_option maxHeartbeats 400000 in
theorem room_is (g c n : Nat) (B : Nat → Prop) (vs : List Int) (w : World) (h : BoxAt w g c n B vs) : Calls Try.prog 13 #[.pointer (some ⟨g, 0, none⟩)] w fun e w' => e = .returned (.int .i64 (n : Nat)) ∧ w = w' := by
  obtain ⟨ps, ⟨s, r, hc⟩, hl, _⟩ := h.has
  have hcell : w.cell? ⟨g, 0, none⟩ = some (.chan (some c)) := h.own.cell 0
  have hcap := fun ty => run_cap_chan (P := Try.prog) 40 ty Try.underlying40 hc
  clear h
  go_enter Try.func13, Try.ntmps13
  go_wp2
  go_ret
  exact ⟨rfl, rfl⟩
end Go.Proofs.Ytninoghalmhngaa
