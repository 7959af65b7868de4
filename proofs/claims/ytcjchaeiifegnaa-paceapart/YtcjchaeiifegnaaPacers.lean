/- The contracts of package pace's calls, and of the laws' awake. Conditions: those of each theorem. -/
import Derived.Test.YtcjchaeiifegnaaRows
import Derived.Test.YtcjchaeiifegnaaMem
import Derived.Test.YtcjchaeiifegnaaRefs
import Derived.WalkKit
import Derived.WalkSpells
import Derived.WalkLawsBesides
import Derived.ProofKit
import Derived.OpenShut
import Derived.Deep.QuietTactic
import Derived.BigQuiet
import Derived.Deep.RegionWith
import Derived.RegionTactic
import Derived.Deep.DeepCutAuto
namespace Go.Proofs.Ytcjchaeiifegnaa
open Go.RowKit

theorem ret_bool {a b : Bool} (h : a = b) : Ending.returned (.bool a) = .returned (.bool b) := by rw [h]
theorem Blk.drew {w : World} {g : Nat} {t : TypeId} {cs : List Value} (h : Blk w g t cs) : Blk w.drew g t cs := h
theorem Blk.drewN {w : World} {g : Nat} {t : TypeId} {cs : List Value} (h : Blk w g t cs) (n : Nat) : Blk (w.drewN n) g t cs := h
def nobody : Nat → Prop := fun _ => False
def only (g : Nat) : Nat → Prop := fun k => k = g

/-- Whether x is a time. -/
def isT (x : Int) : Bool := decide (0 ≤ x) && decide (x ≤ 4611686018427387903)
/-- Whether it is free at x. -/
def freeOf (nx x : Int) : Bool := isT x && decide (nx ≤ x)
/-- When what begins at x ends. -/
def endOf (ns x n : Int) : Int := addC (cnt x) (cnt (mulC n ns))
/-- A pacer at block g: ns a byte, free from nx on. -/
def PAt (w : World) (g : Nat) (ns nx : Int) : Prop := Blk w g 42 [.int .i64 ns, .int .i64 nx] ∧ 0 ≤ nx ∧ nx ≤ 4611686018427387904
section
variable {w w' : World} {g : Nat} {ns nx : Int}
theorem PAt.far {T : Nat → Prop} (h : PAt w g ns nx) (hf : Far T w w') (h1 : ¬ T g) : PAt w' g ns nx := ⟨h.1.far hf h1, h.2⟩
theorem PAt.below (h : PAt w g ns nx) (hb : Below w.heap.size w w') : PAt w' g ns nx := h.far (Far.of_below hb nobody) (fun e => e)
theorem PAt.drew (h : PAt w g ns nx) : PAt w.drew g ns nx := h
theorem PAt.drewN (h : PAt w g ns nx) (N : Nat) : PAt (w.drewN N) g ns nx := h
theorem below_only {B : Nat} {w0 : World} (h : Below B w0 w) (hf : Far (only g) w w') (hg : B ≤ g) (hB : B ≤ w.heap.size) : Below B w0 w' :=
  h.trans (hf.below hB (fun k hk e => by unfold only at e; omega))
theorem below_drewN {B : Nat} {a w : World} (h : Below B a w) (n : Nat) : Below B a (w.drewN n) := h.trans ⟨rfl, rfl, rfl, Nat.le_refl _, fun _ _ => rfl⟩
end
theorem endOf_bd (ns x n : Int) : 0 ≤ endOf ns x n ∧ endOf ns x n ≤ 4611686018427387904 := addC_bd (cnt_bd _).1 (cnt_bd _).1

set_option maxHeartbeats 400000 in
theorem isTime_ (x : Int) (w : World) : Calls Try.prog 14 #[.int .i64 x] w fun e w' => e = .returned (.bool (isT x)) ∧ w = w' := by
  rcases h0 : decide (0 ≤ x) with _ | _
  · go_enter Try.func14, Try.ntmps14
    go_wp2
    go_ret
    exact ⟨ret_bool (by simp [isT, h0]), rfl⟩
  · rcases h1 : decide (x ≤ 4611686018427387903) with _ | _
    all_goals
      go_enter Try.func14, Try.ntmps14
      go_wp2
      go_ret
      exact ⟨ret_bool (by simp [isT, h0, h1]), rfl⟩
set_option maxHeartbeats 400000 in
theorem free_ (g : Nat) (ns nx x : Int) (w : World) (h : PAt w g ns nx) :
    Calls Try.prog 9 #[.pointer (some ⟨g, 0, none⟩), .int .i64 x] w fun e w' => e = .returned (.bool (freeOf nx x)) ∧ w = w' := by
  have hc : w.cell? ⟨g, 1, none⟩ = some (.int .i64 nx) := h.1.cell 1
  clear h
  rcases h0 : isT x with _ | _
  · have HE : Hid (false = freeOf nx x) := by show _ = _; rw [freeOf, h0]; rfl
    go_enter Try.func9, Try.ntmps9
    go_wp2_with (go_at_call 14; (with_reducible refine (isTime_ _ _).mono ?_); rintro e w' ⟨rfl, rfl⟩; rw [h0])
    go_ret
    exact ⟨ret_bool HE.out, rfl⟩
  · rcases h1 : decide (nx ≤ x) with _ | _
    · have HE : Hid (false = freeOf nx x) := by show _ = _; rw [freeOf, h0, h1]; rfl
      go_enter Try.func9, Try.ntmps9
      go_wp2_with (go_at_call 14; (with_reducible refine (isTime_ _ _).mono ?_); rintro e w' ⟨rfl, rfl⟩; rw [h0])
      go_ret
      exact ⟨ret_bool HE.out, rfl⟩
    · have HE : Hid (true = freeOf nx x) := by show _ = _; rw [freeOf, h0, h1]; rfl
      go_enter Try.func9, Try.ntmps9
      go_wp2_with (go_at_call 14; (with_reducible refine (isTime_ _ _).mono ?_); rintro e w' ⟨rfl, rfl⟩; rw [h0])
      go_ret
      exact ⟨ret_bool HE.out, rfl⟩
set_option maxHeartbeats 400000 in
theorem free_nil (x : Int) (w : World) : Calls Try.prog 9 #[.pointer none, .int .i64 x] w fun e w' => e = .returned (.bool false) ∧ w = w' := by
  go_enter Try.func9, Try.ntmps9
  go_wp2
  go_ret
  exact ⟨rfl, rfl⟩
set_option maxHeartbeats 400000 in
theorem next_ (g : Nat) (ns nx : Int) (w : World) (h : PAt w g ns nx) :
    Calls Try.prog 10 #[.pointer (some ⟨g, 0, none⟩)] w fun e w' => e = .returned (.int .i64 nx) ∧ w = w' := by
  have hc : w.cell? ⟨g, 1, none⟩ = some (.int .i64 nx) := h.1.cell 1
  clear h
  go_enter Try.func10, Try.ntmps10
  go_wp2
  go_ret
  exact ⟨rfl, rfl⟩
set_option maxHeartbeats 400000 in
theorem next_nil (w : World) : Calls Try.prog 10 #[.pointer none] w fun e w' => e = .returned (.int .i64 0) ∧ w = w' := by
  go_enter Try.func10, Try.ntmps10
  go_wp2
  go_ret
  exact ⟨rfl, rfl⟩
/-- What New answers. -/
def NewPost (ns : Int) (w : World) (e : Ending) (w' : World) : Prop :=
  ∃ g, e = .returned (.tuple #[.pointer (some ⟨g, 0, none⟩), .int .i64 0]) ∧ PAt w' g ns 0 ∧ w.heap.size ≤ g ∧ Below w.heap.size w w'
theorem new_post (ns : Int) (w : World) : NewPost ns w (.returned (.tuple #[.pointer (some ⟨w.heap.size, 0, none⟩), .int .i64 0])) (w.alloc (.cells #[.int .i64 ns, .int .i64 0] 42)) :=
  ⟨_, rfl, ⟨Blk.new w 42 [.int .i64 ns, .int .i64 0], by omega, by omega⟩, Nat.le_refl _, (Below.refl _ _).alloc (Nat.le_refl _) _⟩
set_option maxHeartbeats 400000 in
theorem new_ (ns : Int) (w : World) (h0 : 1 ≤ ns) (h1 : ns ≤ 1000000) : Calls Try.prog 8 #[.int .i64 ns] w (NewPost ns w) := by
  have HP := Lib.hid (new_post ns w)
  go_enter Try.func8, Try.ntmps8
  go_wp2
  go_ret2
  exact HP.out
set_option maxHeartbeats 400000 in
theorem new_bad (ns : Int) (w : World) (h : ns < 1 ∨ 1000000 < ns) : Calls Try.prog 8 #[.int .i64 ns] w fun e w' => e = .returned (.tuple #[.pointer none, .int .i64 1]) ∧ w = w' := by
  by_cases h0 : ns < 1
  · clear h
    go_enter Try.func8, Try.ntmps8
    go_wp2
    go_ret2
    exact ⟨rfl, rfl⟩
  · have h1 : 1000000 < ns := by omega
    clear h
    go_enter Try.func8, Try.ntmps8
    go_wp2
    go_ret2
    exact ⟨rfl, rfl⟩
set_option maxHeartbeats 400000 in
theorem send_nil (x n : Int) (w : World) : Calls Try.prog 11 #[.pointer none, .int .i64 x, .int .i64 n] w fun e w' => e = .returned (.tuple #[.int .i64 0, .int .i64 0, .int .i64 1]) ∧ w = w' := by
  go_enter Try.func11, Try.ntmps11
  go_wp2
  refine bodyPost_ret (v := .tuple #[.int .i64 0, .int .i64 0, .int .i64 1]) (by simp [results, Try.results11]) rfl ⟨rfl, rfl⟩
/-- Why Send refuses; 0: it doesn't. -/
def whyNot (nx x n : Int) : Int := if n < 1 ∨ 9216 < n then 1 else if x < 0 ∨ 4611686018427387903 < x then 3 else if x < nx then 4 else 0
theorem whyNot_bd (nx x n : Int) : 0 ≤ whyNot nx x n ∧ whyNot nx x n ≤ 4 := by unfold whyNot; (repeat' split) <;> omega
theorem why_len {nx x n : Int} (h : n < 1 ∨ 9216 < n) : whyNot nx x n = 1 := by unfold whyNot; rw [if_pos h]
theorem why_time {nx x n : Int} (h1 : 1 ≤ n) (h2 : n ≤ 9216) (h : x < 0 ∨ 4611686018427387903 < x) : whyNot nx x n = 3 := by unfold whyNot; rw [if_neg (by omega), if_pos h]
theorem why_busy {nx x n : Int} (h1 : 1 ≤ n) (h2 : n ≤ 9216) (h3 : 0 ≤ x) (h4 : x ≤ 4611686018427387903) (h : x < nx) : whyNot nx x n = 4 := by unfold whyNot; rw [if_neg (by omega), if_neg (by omega), if_pos h]
theorem why_none {nx x n : Int} (h1 : 1 ≤ n) (h2 : n ≤ 9216) (h3 : 0 ≤ x) (h4 : x ≤ 4611686018427387903) (h : nx ≤ x) : whyNot nx x n = 0 := by unfold whyNot; rw [if_neg (by omega), if_neg (by omega), if_neg (by omega)]
theorem why_ok {nx x n : Int} (h : whyNot nx x n = 0) : 1 ≤ n ∧ n ≤ 9216 ∧ 0 ≤ x ∧ x ≤ 4611686018427387903 ∧ nx ≤ x := by
  unfold whyNot at h
  (repeat' split at h) <;> omega
theorem isT_yes {x : Int} (h0 : 0 ≤ x) (h1 : x ≤ 4611686018427387903) : isT x = true := by simp [isT, h0, h1]
theorem isT_no {x : Int} (h : x < 0 ∨ 4611686018427387903 < x) : isT x = false := by
  simp [isT]; omega
theorem freeOf_yes {nx x : Int} (h0 : 0 ≤ x) (h1 : x ≤ 4611686018427387903) (h : nx ≤ x) : freeOf nx x = true := by simp [freeOf, isT_yes h0 h1, h]
theorem freeOf_no {nx x : Int} (h : x < nx) : freeOf nx x = false := by
  simp [freeOf]; intro _; omega
/-- What Send answers where it refuses. -/
def NoPost (c : Int) (w : World) (e : Ending) (w' : World) : Prop := e = .returned (.tuple #[.int .i64 0, .int .i64 0, .int .i64 c]) ∧ w = w'
set_option maxHeartbeats 400000 in
theorem send_no (g : Nat) (ns nx x n : Int) (w : World) (h : PAt w g ns nx) (hn : whyNot nx x n ≠ 0) :
    Calls Try.prog 11 #[.pointer (some ⟨g, 0, none⟩), .int .i64 x, .int .i64 n] w (NoPost (whyNot nx x n) w) := by
  have H := Lib.hid h
  clear h
  by_cases h1 : n < 1
  · rw [why_len (.inl h1)]
    clear hn
    go_enter Try.func11, Try.ntmps11
    go_wp2
    refine bodyPost_ret (v := .tuple #[.int .i64 0, .int .i64 0, .int .i64 1]) (by simp [results, Try.results11]) rfl ⟨rfl, rfl⟩
  · by_cases h2 : 9216 < n
    · rw [why_len (.inr h2)]
      clear hn
      go_enter Try.func11, Try.ntmps11
      go_wp2
      refine bodyPost_ret (v := .tuple #[.int .i64 0, .int .i64 0, .int .i64 1]) (by simp [results, Try.results11]) rfl ⟨rfl, rfl⟩
    · by_cases h3 : x < 0 ∨ 4611686018427387903 < x
      · rw [why_time (by omega) (by omega) h3]
        have ht := isT_no h3
        clear hn h3
        go_enter Try.func11, Try.ntmps11
        go_wp2_with (go_at_call 14; (with_reducible refine (isTime_ _ _).mono ?_); rintro e w' ⟨rfl, rfl⟩; rw [ht])
        refine bodyPost_ret (v := .tuple #[.int .i64 0, .int .i64 0, .int .i64 3]) (by simp [results, Try.results11]) rfl ⟨rfl, rfl⟩
      · by_cases h4 : x < nx
        · rw [why_busy (by omega) (by omega) (by omega) (by omega) h4]
          have ht := isT_yes (x := x) (by omega) (by omega)
          have hf := freeOf_no h4
          clear hn h3 h4
          go_enter Try.func11, Try.ntmps11
          go_wp2_with (first | (go_at_call 14; (with_reducible refine (isTime_ _ _).mono ?_); rintro e w' ⟨rfl, rfl⟩; rw [ht]) | (go_at_call 9; (with_reducible refine (free_ g ns nx _ _ H.out).mono ?_); rintro e w' ⟨rfl, rfl⟩; rw [hf]))
          refine bodyPost_ret (v := .tuple #[.int .i64 0, .int .i64 0, .int .i64 4]) (by simp [results, Try.results11]) rfl ⟨rfl, rfl⟩
        · exact absurd (why_none (by omega) (by omega) (by omega) (by omega) (by omega)) hn
/-- What Send answers where it sends. -/
def SentPost (g : Nat) (ns x n : Int) (w : World) (e : Ending) (w' : World) : Prop :=
  e = .returned (.tuple #[.int .i64 x, .int .i64 (endOf ns x n), .int .i64 0]) ∧ PAt w' g ns (endOf ns x n) ∧ Far (only g) w w'
/-- Add of two numbers, as Send lays them out. -/
theorem add2_end (ns x n : Int) (w : World) :
    Calls Try.prog 15 #[.slice (some ⟨w.heap.size, 0, none⟩) 2 2] (w.alloc (.cells #[.int .i64 x, .int .i64 (mulC n ns)] 2)) fun e w' => e = .returned (.int .i64 (endOf ns x n)) ∧ w.alloc (.cells #[.int .i64 x, .int .i64 (mulC n ns)] 2) = w' := by
  have := add2_any x (mulC n ns) w w.heap.size 2 rfl
  rw [sumF_two] at this
  exact this
theorem sent_post (g : Nat) (ns nx x n : Int) (w w' : World) (h : PAt w g ns nx) (hb : Below w.heap.size w w') :
    SentPost g ns x n w (.returned (.tuple #[.int .i64 x, .int .i64 (endOf ns x n), .int .i64 0])) ((w'.setCell ⟨g, 1, none⟩ (.int .i64 (endOf ns x n))).drew) := by
  have hb1 := (h.below hb).1.set_ 1 (.int .i64 (endOf ns x n))
  exact ⟨rfl, ⟨hb1, endOf_bd ns x n⟩, ((Far.of_below hb (only g)).set_ (p := ⟨g, 1, none⟩) (fun _ => rfl) _).drew⟩
set_option maxHeartbeats 400000 in
theorem send_ok (g : Nat) (ns nx x n : Int) (w : World) (h : PAt w g ns nx) (hn : whyNot nx x n = 0) :
    Calls Try.prog 11 #[.pointer (some ⟨g, 0, none⟩), .int .i64 x, .int .i64 n] w (SentPost g ns x n w) := by
  obtain ⟨h1, h2, h3, h4, h5⟩ := why_ok hn
  have H := Lib.hid h
  have HP := Lib.hid (fun w' hb => sent_post g ns nx x n w w' h hb)
  have hc0 : w.cell? ⟨g, 0, none⟩ = some (.int .i64 ns) := h.1.cell 0
  have ht := isT_yes h3 h4
  have hf := freeOf_yes h3 h4 h5
  have hb := endOf_bd ns x n
  have hA := Lib.hid (add2_end ns x n w)
  have HB := Lib.hid ((Below.refl w.heap.size w).alloc (Nat.le_refl _) (.cells #[.int .i64 x, .int .i64 (mulC n ns)] 2))
  have HG : Hid (PAt (w.alloc (.cells #[.int .i64 x, .int .i64 (mulC n ns)] 2)) g ns nx) := h.below HB.out
  have hm := mulC_bd n ns
  clear h hn
  go_enter Try.func11, Try.ntmps11
  go_wp2_with (first | (go_at_call 14; (with_reducible refine (isTime_ _ _).mono ?_); rintro e w' ⟨rfl, rfl⟩; rw [ht]) | (go_at_call 9; (with_reducible refine (free_ g ns nx _ _ H.out).mono ?_); rintro e w' ⟨rfl, rfl⟩; rw [hf]) | (go_at_call 16; (with_reducible refine (mul_any _ _ _).mono ?_); rintro e w' ⟨rfl, rfl⟩) | (go_at_call 15; (with_reducible refine hA.out.mono ?_); rintro e w' ⟨rfl, rfl⟩; have hf1 := HG.out.1.frozen 1; have hco : (w.alloc (.cells #[.int .i64 x, .int .i64 (mulC n ns)] 2)).cell? ⟨g, 1, none⟩ = some (.int .i64 nx) := HG.out.1.cell 1; have hc1 : ((w.alloc (.cells #[.int .i64 x, .int .i64 (mulC n ns)] 2)).setCell ⟨g, 1, none⟩ (.int .i64 (endOf ns x n))).cell? ⟨g, 1, none⟩ = some (.int .i64 (endOf ns x n)) := (HG.out.1.set_ 1 (.int .i64 (endOf ns x n))).cell 1))
  go_region
  go_wp2
  refine bodyPost_ret (v := .tuple #[.int .i64 x, .int .i64 (endOf ns x n), .int .i64 0]) (by simp [results, Try.results11]) rfl (HP.out _ HB.out)
end Go.Proofs.Ytcjchaeiifegnaa
