/- More words for slabs; the check that the program is awake; slabs that aren't. Conditions: those of each theorem. -/
import Derived.Test.YtmkegonlepkhdaaCalls
namespace Go.Proofs.Ytmkegonlepkhdaa
open Go.RowKit

section
variable {T E : TypeId} {Z : Value} {w w' : World} {g q f n : Nat} {vs : List (Option Value)} {fr : List Nat}
theorem SlabAt.far {S : Nat → Prop} (h : SlabAt T E Z w g q f n vs fr) (hf : Far S w w') (h1 : ¬ S g) (h2 : ¬ S q) (h3 : ¬ S f) : SlabAt T E Z w' g q f n vs fr := by
  obtain ⟨cs, fs, b1, b2, b3, hr⟩ := h
  exact ⟨cs, fs, b1.far hf h1, b2.far hf h2, b3.far hf h3, hr⟩
/-- No block. -/
def nobody : Nat → Prop := fun _ => False
theorem SlabAt.below (h : SlabAt T E Z w g q f n vs fr) (hb : Below w.heap.size w w') : SlabAt T E Z w' g q f n vs fr :=
  h.far (Far.of_below hb nobody) (fun e => e) (fun e => e) (fun e => e)
theorem SlabAt.drew (h : SlabAt T E Z w g q f n vs fr) : SlabAt T E Z w.drew g q f n vs fr := h
theorem SlabAt.lt (h : SlabAt T E Z w g q f n vs fr) : g < w.heap.size ∧ q < w.heap.size ∧ f < w.heap.size := by
  obtain ⟨cs, fs, b1, b2, b3, hr⟩ := h
  exact ⟨b1.lt, b2.lt, b3.lt⟩
theorem SlabAt.apart (h : SlabAt T E Z w g q f n vs fr) : g ≠ q ∧ g ≠ f ∧ q ≠ f := by
  obtain ⟨cs, fs, b1, b2, b3, n1, n2, n3, hr⟩ := h
  exact ⟨n1, n2, n3⟩
theorem SlabAt.count (h : SlabAt T E Z w g q f n vs fr) : fr.length ≤ n ∧ n ≤ 4096 ∧ 1 ≤ n := by
  obtain ⟨cs, fs, b1, b2, b3, n1, n2, n3, hr⟩ := h
  have := hr.cnt
  exact ⟨by omega, hr.high, hr.low⟩
theorem SlabAt.free (h : SlabAt T E Z w g q f n vs fr) (i : Nat) : i ∈ fr ↔ vs[i]? = some none := by
  obtain ⟨cs, fs, b1, b2, b3, n1, n2, n3, hr⟩ := h
  exact hr.iff i
theorem SlabAt.spelt (h : SlabAt T E Z w g q f n vs fr) {vs' : List (Option Value)} {fr' : List Nat} (h1 : vs = vs') (h2 : fr = fr') : SlabAt T E Z w g q f n vs' fr' := by
  subst h1 h2
  exact h
theorem below_three {B : Nat} {w0 : World} (h : Below B w0 w) (hf : Far (three g q f) w w') (hg : B ≤ g) (hq : B ≤ q) (hf' : B ≤ f) (hB : B ≤ w.heap.size) : Below B w0 w' :=
  h.trans (hf.below hB (fun k hk e => by rcases e with e | e | e <;> omega))
end
/-- All places hold something where none is free. -/
theorem SlabAt.full {T E : TypeId} {Z : Value} {w : World} {g q f n : Nat} {vs : List (Option Value)} (h : SlabAt T E Z w g q f n vs []) {i : Nat} (hi : i < n) : ∃ v, vs[i]? = some (some v) := by
  have hl := h.len
  have hf := h.free i
  rcases e : vs[i]? with _ | o
  · have := List.getElem?_eq_none_iff.1 e; omega
  · rcases o with _ | v
    · exact absurd (hf.2 e) (by simp)
    · exact ⟨v, rfl⟩
theorem last_of {fr : List Nat} {m : Nat} (h : fr.length = m + 1) : ∃ fr' i, fr = fr' ++ [i] ∧ fr'.length = m := by
  refine ⟨fr.dropLast, fr.getLast (by intro e; rw [e] at h; simp at h), (List.dropLast_concat_getLast _).symm, by simp [h]⟩
theorem freein_I (g q f n m : Nat) (vs : List (Option Value)) (fr : List Nat) (w : World) (h : SlabAt 49 51 (.int .i64 0) w g q f n vs fr) (hm : fr.length = m) : Calls Try.prog 9 #[.pointer (some ⟨g, 0, none⟩)] w fun e w' => e = .returned (.int .i64 (m : Nat)) ∧ w = w' := by
  obtain ⟨cs, fs, b1, _⟩ := h
  rw [hm] at b1
  exact free_I g _ _ _ _ w b1
theorem placesin_I (g q f n : Nat) (vs : List (Option Value)) (fr : List Nat) (w : World) (h : SlabAt 49 51 (.int .i64 0) w g q f n vs fr) : Calls Try.prog 10 #[.pointer (some ⟨g, 0, none⟩)] w fun e w' => e = .returned (.int .i64 (n : Nat)) ∧ w = w' := by
  obtain ⟨cs, fs, b1, _⟩ := h
  exact places_I g _ _ _ _ w b1
theorem freein_S (g q f n m : Nat) (vs : List (Option Value)) (fr : List Nat) (w : World) (h : SlabAt 55 57 (.string { data := #[] }) w g q f n vs fr) (hm : fr.length = m) : Calls Try.prog 19 #[.pointer (some ⟨g, 0, none⟩)] w fun e w' => e = .returned (.int .i64 (m : Nat)) ∧ w = w' := by
  obtain ⟨cs, fs, b1, _⟩ := h
  rw [hm] at b1
  exact free_S g _ _ _ _ w b1
theorem placesin_S (g q f n : Nat) (vs : List (Option Value)) (fr : List Nat) (w : World) (h : SlabAt 55 57 (.string { data := #[] }) w g q f n vs fr) : Calls Try.prog 22 #[.pointer (some ⟨g, 0, none⟩)] w fun e w' => e = .returned (.int .i64 (n : Nat)) ∧ w = w' := by
  obtain ⟨cs, fs, b1, _⟩ := h
  exact places_S g _ _ _ _ w b1
set_option maxHeartbeats 1000000 in
theorem awake_any (w : World) : Calls Try.prog 7 #[] w fun e w' => e = .returned (.bool true) ∧ Below w.heap.size w w' := by
  go_enter Try.func7, Try.ntmps7
  go_wp2_with fail
  refine (new_I 1 1 _ rfl (by decide) (by decide)).mono ?_
  rintro e w1 ⟨g, q, f, rfl, hr, ha, hb⟩
  have HR : Hid (SlabAt 49 51 (.int .i64 0) w1 g q f 1 [none] ([] ++ [0])) := hr
  have HB := Lib.hid hb
  obtain ⟨a1, a2, a3, _⟩ := ha
  clear hr hb
  go_wp2_with fail
  refine (take_I g q f 1 0 5 [none] [] _ HR.out).mono ?_
  rintro e w2 ⟨rfl, hr, hf⟩
  have HR2 := Lib.hid hr
  have HF := Lib.hid hf
  clear hr hf
  go_wp2_with (first | (go_at_call 14; (with_reducible refine (get_I g q f 1 0 _ (.int .i64 5) _ _ _ HR2.out (by simp) (by simp)).mono ?_); rintro e w' ⟨rfl, rfl⟩))
  go_ret
  exact ⟨rfl, below_three HB.out HF.out a1 a2 a3 HB.out.size⟩
set_option maxHeartbeats 400000 in
theorem newbad (x : Int) (w : World) (h : x < 1 ∨ 4096 < x) : Calls Try.prog 8 #[.int .i64 x] w fun e w' => e = .returned (.tuple #[.pointer none, .int .i64 1]) ∧ w = w' := by
  by_cases h1 : x < 1
  · have hd : decide (x < 1) = true := by simpa using h1
    go_enter Try.func8, Try.ntmps8
    go_wp2
    go_ret2
    exact ⟨rfl, rfl⟩
  · have hd : decide (x < 1) = false := by simpa using h1
    have hd2 : decide ((4096 : Int) < x) = true := by simp; omega
    go_enter Try.func8, Try.ntmps8
    go_wp2
    go_ret2
    exact ⟨rfl, rfl⟩
set_option maxHeartbeats 400000 in
theorem free_nil (w : World) : Calls Try.prog 9 #[.pointer none] w fun e w' => e = .returned (.int .i64 0) ∧ w = w' := by
  go_enter Try.func9, Try.ntmps9
  go_wp2
  go_ret
  exact ⟨rfl, rfl⟩
set_option maxHeartbeats 400000 in
theorem places_nil (w : World) : Calls Try.prog 10 #[.pointer none] w fun e w' => e = .returned (.int .i64 0) ∧ w = w' := by
  go_enter Try.func10, Try.ntmps10
  go_wp2
  go_ret
  exact ⟨rfl, rfl⟩
end Go.Proofs.Ytmkegonlepkhdaa
