/- The contracts of ring's Pop, and of the check that the program is awake. Conditions: those of each theorem. -/
import Derived.Test.YteamdgkpeoeafaaCuts
namespace Go.Proofs.Yteamdgkpeoeafaa
open Go.RowKit

set_option maxHeartbeats 400000 in
theorem pop_I (g q n : Nat) (vs : List Value) (v : Value) (w : World) (h : RingAt 54 3 w g q n (v :: vs)) :
    Calls Try.prog 12 #[.pointer (some ⟨g, 0, none⟩)] w fun e w' => e = .returned (.tuple #[v, .bool true]) ∧ RingAt 54 3 w' g q n vs ∧ Far (both g q) w w' := by
  have H := Lib.hid h
  clear h
  go_enter Try.func12, Try.ntmps12
  go_wp2_with (go_at_call 13; (with_reducible refine (cut0_I g q n 0 _ (v :: vs) v _ H.out (by simp) (by simp) rfl).mono ?_); rintro e w' ⟨rfl, hp⟩; have HP := Lib.hid hp; clear hp)
  go_ret2
  exact ⟨rfl, HP.out⟩
set_option maxHeartbeats 400000 in
theorem popnone_I (g q n : Nat) (w : World) (h : RingAt 54 3 w g q n []) :
    Calls Try.prog 12 #[.pointer (some ⟨g, 0, none⟩)] w fun e w' => e = .returned (.tuple #[.int .i64 0, .bool false]) ∧ w = w' := by
  have H := Lib.hid h
  clear h
  go_enter Try.func12, Try.ntmps12
  go_wp2_with (go_at_call 13; (with_reducible refine (cutnone_I g q n _ [] _ H.out (.inr (by simp))).mono ?_); rintro e w' ⟨rfl, rfl⟩)
  go_ret2
  exact ⟨rfl, rfl⟩
set_option maxHeartbeats 400000 in
theorem pop_S (g q n : Nat) (vs : List Value) (v : Value) (w : World) (h : RingAt 57 9 w g q n (v :: vs)) :
    Calls Try.prog 19 #[.pointer (some ⟨g, 0, none⟩)] w fun e w' => e = .returned (.tuple #[v, .bool true]) ∧ RingAt 57 9 w' g q n vs ∧ Far (both g q) w w' := by
  have H := Lib.hid h
  clear h
  go_enter Try.func19, Try.ntmps19
  go_wp2_with (go_at_call 28; (with_reducible refine (cut0_S g q n 0 _ (v :: vs) v _ H.out (by simp) (by simp) rfl).mono ?_); rintro e w' ⟨rfl, hp⟩; have HP := Lib.hid hp; clear hp)
  go_ret2
  exact ⟨rfl, HP.out⟩
set_option maxHeartbeats 400000 in
theorem popnone_S (g q n : Nat) (w : World) (h : RingAt 57 9 w g q n []) :
    Calls Try.prog 19 #[.pointer (some ⟨g, 0, none⟩)] w fun e w' => e = .returned (.tuple #[.string { data := #[] }, .bool false]) ∧ w = w' := by
  have H := Lib.hid h
  clear h
  go_enter Try.func19, Try.ntmps19
  go_wp2_with (go_at_call 28; (with_reducible refine (cutnone_S g q n _ [] _ H.out (.inr (by simp))).mono ?_); rintro e w' ⟨rfl, rfl⟩)
  go_ret2
  exact ⟨rfl, rfl⟩
set_option maxHeartbeats 400000 in
theorem pop_L (g q n : Nat) (vs : List Value) (v : Value) (w : World) (h : RingAt 60 37 w g q n (v :: vs)) :
    Calls Try.prog 20 #[.pointer (some ⟨g, 0, none⟩)] w fun e w' => e = .returned (.tuple #[v, .bool true]) ∧ RingAt 60 37 w' g q n vs ∧ Far (both g q) w w' := by
  have H := Lib.hid h
  clear h
  go_enter Try.func20, Try.ntmps20
  go_wp2_with (go_at_call 29; (with_reducible refine (cut0_L g q n 0 _ (v :: vs) v _ H.out (by simp) (by simp) rfl).mono ?_); rintro e w' ⟨rfl, hp⟩; have HP := Lib.hid hp; clear hp)
  go_ret2
  exact ⟨rfl, HP.out⟩
set_option maxHeartbeats 400000 in
theorem popnone_L (g q n : Nat) (w : World) (h : RingAt 60 37 w g q n []) :
    Calls Try.prog 20 #[.pointer (some ⟨g, 0, none⟩)] w fun e w' => e = .returned (.tuple #[.slice none 0 0, .bool false]) ∧ w = w' := by
  have H := Lib.hid h
  clear h
  go_enter Try.func20, Try.ntmps20
  go_wp2_with (go_at_call 29; (with_reducible refine (cutnone_L g q n _ [] _ H.out (.inr (by simp))).mono ?_); rintro e w' ⟨rfl, rfl⟩)
  go_ret2
  exact ⟨rfl, rfl⟩

theorem RingAt.new (T E : TypeId) (w : World) (z : Value) (n : Nat) (h0 : 1 ≤ n) (hn : n ≤ 4096) :
    RingAt T E ((w.alloc (.cells (madeCells #[z] n) E)).alloc (.cells #[.slice (some ⟨w.heap.size, 0, none⟩) n n, .int .i64 0, .int .i64 0] T)) (w.heap.size + 1) w.heap.size n [] := by
  refine ⟨0, (madeCells #[z] n).toList, ?_, ?_, ?_, h0, Nat.zero_le _, hn, by omega, fun k hk => absurd hk (by simp)⟩
  · simpa using Blk.new (w.alloc (.cells (madeCells #[z] n) E)) T [.slice (some ⟨w.heap.size, 0, none⟩) n n, .int .i64 0, .int .i64 0]
  · have := (Blk.new w E (madeCells #[z] n).toList).alloc (.cells #[.slice (some ⟨w.heap.size, 0, none⟩) n n, .int .i64 0, .int .i64 0] T)
    simpa using this
  · have := size_madeCells #[z] n
    simpa using this
theorem RingAt.lt {T E : TypeId} {w : World} {g q n : Nat} {vs : List Value} (h : RingAt T E w g q n vs) : g < w.heap.size ∧ q < w.heap.size ∧ vs.length ≤ n ∧ n ≤ 4096 ∧ g ≠ q := by
  obtain ⟨f, cs, h1, h2, _, _, h3, h4, h5, _⟩ := h
  exact ⟨h1.lt, h2.lt, h3, h4, h5⟩
theorem RingAt.far {T E : TypeId} {S : Nat → Prop} {w w' : World} {g q n : Nat} {vs : List Value} (h : RingAt T E w g q n vs) (hf : Far S w w') (hg : ¬ S g) (hq : ¬ S q) : RingAt T E w' g q n vs := by
  obtain ⟨f, cs, h1, h2, hr⟩ := h
  exact ⟨f, cs, h1.far hf hg, h2.far hf hq, hr⟩
/-- No block. -/
def nobody : Nat → Prop := fun _ => False
theorem RingAt.below {T E : TypeId} {w w' : World} {g q n : Nat} {vs : List Value} (h : RingAt T E w g q n vs) (hb : Below w.heap.size w w') : RingAt T E w' g q n vs :=
  h.far (Far.of_below hb nobody) (fun e => e) (fun e => e)
theorem RingAt.drew {T E : TypeId} {w : World} {g q n : Nat} {vs : List Value} (h : RingAt T E w g q n vs) : RingAt T E w.drew g q n vs := h
theorem RingAt.drewN {T E : TypeId} {w : World} {g q n : Nat} {vs : List Value} (h : RingAt T E w g q n vs) (k : Nat) : RingAt T E (w.drewN k) g q n vs := h
theorem below_both {B g q : Nat} {w0 w w' : World} (h : Below B w0 w) (hf : Far (both g q) w w') (hg : B ≤ g) (hq : B ≤ q) (hB : B ≤ w.heap.size) : Below B w0 w' :=
  h.trans (hf.below hB (fun k hk e => by rcases e with e | e <;> omega))
/-- What New answers. -/
def NewPost (T E : TypeId) (n : Nat) (w : World) (e : Ending) (w' : World) : Prop :=
  ∃ g q, e = .returned (.tuple #[.pointer (some ⟨g, 0, none⟩), .int .i64 0]) ∧ RingAt T E w' g q n [] ∧ w.heap.size ≤ g ∧ w.heap.size ≤ q ∧ Below w.heap.size w w'
theorem NewPost.is {T E : TypeId} {n : Nat} {w : World} {z : Value} (h0 : 1 ≤ n) (hn : n ≤ 4096) :
    NewPost T E n w (.returned (.tuple #[.pointer (some ⟨w.heap.size + 1, 0, none⟩), .int .i64 0])) ((w.alloc (.cells (madeCells #[z] n) E)).alloc (.cells #[.slice (some ⟨w.heap.size, 0, none⟩) n n, .int .i64 0, .int .i64 0] T)) :=
  ⟨_, _, rfl, RingAt.new T E w z n h0 hn, by omega, Nat.le_refl _, ((Below.refl _ _).alloc (Nat.le_refl _) _).alloc (by simp) _⟩
theorem newin_I (n : Nat) (x : Int) (w : World) (hx : x = n) (h0 : 1 ≤ n) (hn : n ≤ 4096) : Calls Try.prog 8 #[.int .i64 x] w (NewPost 54 3 n w) :=
  (new_I n x w hx h0 hn).mono fun _ _ ⟨h1, h2⟩ => by subst h1; subst h2; exact NewPost.is h0 hn
theorem lenin_I (g q n m : Nat) (vs : List Value) (w : World) (h : RingAt 54 3 w g q n vs) (hm : vs.length = m) : Calls Try.prog 9 #[.pointer (some ⟨g, 0, none⟩)] w fun e w' => e = .returned (.int .i64 (m : Nat)) ∧ w = w' := by
  obtain ⟨f, cs, h1, _⟩ := h
  rw [hm] at h1
  exact len_I g _ _ _ w h1
theorem roomin_I (g q n : Nat) (vs : List Value) (w : World) (h : RingAt 54 3 w g q n vs) : Calls Try.prog 10 #[.pointer (some ⟨g, 0, none⟩)] w fun e w' => e = .returned (.int .i64 (n : Nat)) ∧ w = w' := by
  obtain ⟨f, cs, h1, _⟩ := h
  exact room_I g _ _ _ _ _ w h1
theorem newin_S (n : Nat) (x : Int) (w : World) (hx : x = n) (h0 : 1 ≤ n) (hn : n ≤ 4096) : Calls Try.prog 15 #[.int .i64 x] w (NewPost 57 9 n w) :=
  (new_S n x w hx h0 hn).mono fun _ _ ⟨h1, h2⟩ => by subst h1; subst h2; exact NewPost.is h0 hn
theorem lenin_S (g q n m : Nat) (vs : List Value) (w : World) (h : RingAt 57 9 w g q n vs) (hm : vs.length = m) : Calls Try.prog 22 #[.pointer (some ⟨g, 0, none⟩)] w fun e w' => e = .returned (.int .i64 (m : Nat)) ∧ w = w' := by
  obtain ⟨f, cs, h1, _⟩ := h
  rw [hm] at h1
  exact len_S g _ _ _ w h1
theorem roomin_S (g q n : Nat) (vs : List Value) (w : World) (h : RingAt 57 9 w g q n vs) : Calls Try.prog 23 #[.pointer (some ⟨g, 0, none⟩)] w fun e w' => e = .returned (.int .i64 (n : Nat)) ∧ w = w' := by
  obtain ⟨f, cs, h1, _⟩ := h
  exact room_S g _ _ _ _ _ w h1
theorem newin_L (n : Nat) (x : Int) (w : World) (hx : x = n) (h0 : 1 ≤ n) (hn : n ≤ 4096) : Calls Try.prog 16 #[.int .i64 x] w (NewPost 60 37 n w) :=
  (new_L n x w hx h0 hn).mono fun _ _ ⟨h1, h2⟩ => by subst h1; subst h2; exact NewPost.is h0 hn
theorem lenin_L (g q n m : Nat) (vs : List Value) (w : World) (h : RingAt 60 37 w g q n vs) (hm : vs.length = m) : Calls Try.prog 25 #[.pointer (some ⟨g, 0, none⟩)] w fun e w' => e = .returned (.int .i64 (m : Nat)) ∧ w = w' := by
  obtain ⟨f, cs, h1, _⟩ := h
  rw [hm] at h1
  exact len_L g _ _ _ w h1
theorem roomin_L (g q n : Nat) (vs : List Value) (w : World) (h : RingAt 60 37 w g q n vs) : Calls Try.prog 26 #[.pointer (some ⟨g, 0, none⟩)] w fun e w' => e = .returned (.int .i64 (n : Nat)) ∧ w = w' := by
  obtain ⟨f, cs, h1, _⟩ := h
  exact room_L g _ _ _ _ _ w h1

set_option maxHeartbeats 1000000 in
theorem awake_any (w : World) : Calls Try.prog 7 #[] w fun e w' => e = .returned (.bool true) ∧ Below w.heap.size w w' := by
  go_enter Try.func7, Try.ntmps7
  go_wp2_with fail
  refine (newin_I 2 2 _ rfl (by decide) (by decide)).mono ?_
  rintro e w1 ⟨g, q, rfl, hr, hg, hq, hb⟩
  have HR := Lib.hid hr
  have HB := Lib.hid hb
  clear hr hb
  go_wp2_with fail
  refine (push_I g q 2 5 [] _ HR.out (by decide)).mono ?_
  rintro e w2 ⟨rfl, hr, hf⟩
  have HR2 := Lib.hid hr
  have HF := Lib.hid hf
  clear hr hf
  go_wp2_with (first | (go_at_call 9; (with_reducible refine (lenin_I g q 2 1 _ _ HR2.out rfl).mono ?_); rintro e w' ⟨rfl, rfl⟩) | (go_at_call 10; (with_reducible refine (roomin_I g q 2 _ _ HR2.out).mono ?_); rintro e w' ⟨rfl, rfl⟩))
  go_ret
  exact ⟨rfl, below_both HB.out HF.out hg hq HB.out.size⟩
end Go.Proofs.Yteamdgkpeoeafaa
