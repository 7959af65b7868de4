/- The contracts of ring's calls, for rings of numbers, of texts and of lists of texts. Conditions: those of each theorem. -/
import Derived.Test.YteamdgkpeoeafaaRows
import Derived.Test.YteamdgkpeoeafaaMem
import Derived.Test.YteamdgkpeoeafaaNums
import Derived.WalkKit
import Derived.WalkSpells
import Derived.WalkLawsBesides
import Derived.ProofKit
import Derived.OpenShut
import Derived.Deep.OwnRows
import Derived.Deep.QuietTactic
import Derived.BigQuiet
import Derived.Deep.RegionWith
namespace Go.Proofs.Yteamdgkpeoeafaa
open Go.RowKit

theorem ret_int {k : IntKind} {a b : Int} (h : a = b) : Ending.returned (.int k a) = .returned (.int k b) := by rw [h]

theorem Blk.drew {w : World} {g : Nat} {t : TypeId} {cs : List Value} (h : Blk w g t cs) : Blk w.drew g t cs := h
theorem Blk.drewN {w : World} {g : Nat} {t : TypeId} {cs : List Value} (h : Blk w g t cs) (n : Nat) : Blk (w.drewN n) g t cs := h

/-- A ring at block g, of room n, whose places are block q (of type E), with the values vs in it. -/
def RingAt (T E : TypeId) (w : World) (g q n : Nat) (vs : List Value) : Prop :=
  ∃ (f : Nat) (cs : List Value), Blk w g T [.slice (some ⟨q, 0, none⟩) n n, .int .i64 (f : Nat), .int .i64 (vs.length : Nat)] ∧ Blk w q E cs ∧ cs.length = n ∧ f < n ∧ vs.length ≤ n ∧ n ≤ 4096 ∧ g ≠ q ∧
    ∀ k, k < vs.length → cs[pl f k n]? = vs[k]?
/-- Two blocks alone. -/
def both (g q : Nat) : Nat → Prop := fun k => k = g ∨ k = q

theorem ring_push {T E : TypeId} {w : World} {g q n f : Nat} {vs cs : List Value} (h1 : Blk w g T [.slice (some ⟨q, 0, none⟩) n n, .int .i64 (f : Nat), .int .i64 (vs.length : Nat)]) (h2 : Blk w q E cs) (hl : cs.length = n)
    (hf : f < n) (hv : vs.length ≤ n) (hx : vs.length < n) (hn : n ≤ 4096) (hne : g ≠ q) (hc : ∀ k, k < vs.length → cs[pl f k n]? = vs[k]?) (u : Value) (N : Nat) :
    RingAt T E (((w.drewN N).setCell ⟨q, pl f vs.length n, none⟩ u).setCell ⟨g, 2, none⟩ (.int .i64 ((vs.length : Int) + 1))) g q n (vs ++ [u]) ∧
    Far (both g q) w (((w.drewN N).setCell ⟨q, pl f vs.length n, none⟩ u).setCell ⟨g, 2, none⟩ (.int .i64 ((vs.length : Int) + 1))) := by
  have hp := pl_lt hf hv
  refine ⟨⟨f, cs.set (pl f vs.length n) u, ?_, ?_, by simpa using hl, hf, by simp; omega, hn, hne, ?_⟩, ?_⟩
  · have := ((h1.drewN N).other (p := ⟨q, pl f vs.length n, none⟩) hne u).set_ 2 (.int .i64 ((vs.length : Int) + 1))
    simpa using this
  · exact ((h2.drewN N).set_ _ u).other (p := ⟨g, 2, none⟩) (fun e => hne e.symm) _
  · intro k hk
    simp at hk
    by_cases hkv : k = vs.length
    · subst hkv
      rw [List.getElem?_set_self (by omega)]
      simp
    · have hne2 : pl f vs.length n ≠ pl f k n := fun e => hkv (pl_inj hx (by omega) e).symm
      rw [List.getElem?_set_ne hne2, List.getElem?_append_left (by omega)]
      exact hc k (by omega)
  · exact (((Far.refl (both g q) w).drewN N).set_ (p := ⟨q, pl f vs.length n, none⟩) (fun _ => .inr rfl) _).set_ (p := ⟨g, 2, none⟩) (fun _ => .inl rfl) _
set_option maxHeartbeats 400000 in
theorem len_I (g : Nat) (a b : Value) (n : Int) (w : World) (h : Blk w g 54 [a, b, .int .i64 n]) :
    Calls Try.prog 9 #[.pointer (some ⟨g, 0, none⟩)] w fun e w' => e = .returned (.int .i64 n) ∧ w = w' := by
  have hc2 : w.cell? ⟨g, 2, none⟩ = some (.int .i64 n) := h.cell 2
  clear h
  go_enter Try.func9, Try.ntmps9
  go_wp2
  go_ret
  exact ⟨rfl, rfl⟩
set_option maxHeartbeats 400000 in
theorem room_I (g n c : Nat) (A : Option Addr) (b d : Value) (w : World) (h : Blk w g 54 [.slice A n c, b, d]) :
    Calls Try.prog 10 #[.pointer (some ⟨g, 0, none⟩)] w fun e w' => e = .returned (.int .i64 n) ∧ w = w' := by
  have hc0 : w.cell? ⟨g, 0, none⟩ = some (.slice A n c) := h.cell 0
  clear h
  go_enter Try.func10, Try.ntmps10
  go_wp2
  go_ret
  exact ⟨rfl, rfl⟩
set_option maxHeartbeats 400000 in
theorem place_I (g f k n c : Nat) (x : Int) (A : Option Addr) (d : Value) (w : World) (h : Blk w g 54 [.slice A n c, .int .i64 (f : Nat), d]) (hx : x = k) (hf : f < n) (hk : k ≤ n) (hn : n ≤ 4096) :
    Calls Try.prog 21 #[.pointer (some ⟨g, 0, none⟩), .int .i64 x] w fun e w' => e = .returned (.int .i64 (pl f k n : Nat)) ∧ ∃ m, w' = w.drewN m := by
  subst hx
  have hc0 : w.cell? ⟨g, 0, none⟩ = some (.slice A n c) := h.cell 0
  have hc1 : w.cell? ⟨g, 1, none⟩ = some (.int .i64 (f : Nat)) := h.cell 1
  clear h
  have HE : Hid (((f : Int) + (k : Int)) % (n : Int) = ((pl f k n : Nat) : Int)) := by
    show _ = _
    rw [← pl_mod hf hk]
    simp
  have hn0 : (0 : Int) < (n : Int) := by omega
  go_enter Try.func21, Try.ntmps21
  go_wp2
  go_quiet (fail)
  go_wp2
  go_ret
  exact ⟨ret_int HE.out, _, rfl⟩
set_option maxHeartbeats 400000 in
theorem at_I (g q n k : Nat) (x : Int) (vs : List Value) (v : Value) (w : World) (h : RingAt 54 3 w g q n vs) (hx : x = k) (hk : vs[k]? = some v) :
    Calls Try.prog 14 #[.pointer (some ⟨g, 0, none⟩), .int .i64 x] w fun e w' => e = .returned (.tuple #[v, .bool true]) ∧ ∃ m, w' = w.drewN m := by
  subst hx
  obtain ⟨f, cs, h1, h2, hl, hf, hv, hn, hne, hc⟩ := h
  have hkv : k < vs.length := (List.getElem?_eq_some_iff.1 hk).1
  have hpl := pl_lt hf (Nat.le_trans (Nat.le_of_lt hkv) hv)
  have hcv : w.cell? ⟨q, pl f k n, none⟩ = some v := (h2.cell _).trans ((hc k hkv).trans hk)
  have hc0 : w.cell? ⟨g, 0, none⟩ = some (.slice (some ⟨q, 0, none⟩) n n) := h1.cell 0
  have H1 := Lib.hid h1
  clear h1 h2 hc hk
  generalize vs.length = m at *
  have hd : decide ((m : Int) ≤ (k : Int)) = false := by simp; omega
  have hp0 : (0 : Int) ≤ ((pl f k n : Nat) : Int) := by omega
  have hp1 : ((pl f k n : Nat) : Int) < (n : Int) := by omega
  go_enter Try.func14, Try.ntmps14
  go_wp2_with (go_at_call 9; (with_reducible refine (len_I g _ _ _ _ H1.out).mono ?_); rintro e w' ⟨rfl, rfl⟩)
  go_quiet ((go_at_call 21; exact Calls.quiet_of (place_I g f k n n _ _ _ _ H1.out rfl hf (by omega) hn)))
  go_wp2
  go_ret2
  exact ⟨rfl, _, rfl⟩
set_option maxHeartbeats 400000 in
theorem atnone_I (g q n : Nat) (x : Int) (vs : List Value) (w : World) (h : RingAt 54 3 w g q n vs) (hx : x < 0 ∨ (vs.length : Int) ≤ x) :
    Calls Try.prog 14 #[.pointer (some ⟨g, 0, none⟩), .int .i64 x] w fun e w' => e = .returned (.tuple #[.int .i64 0, .bool false]) ∧ w = w' := by
  obtain ⟨f, cs, h1, h2, hl, hf, hv, hn, hne, hc⟩ := h
  have H1 := Lib.hid h1
  clear h1 h2 hc
  rcases hx with hx | hx
  · have hd : decide (x < 0) = true := by simpa using hx
    go_enter Try.func14, Try.ntmps14
    go_wp2
    go_ret2
    exact ⟨rfl, rfl⟩
  · have hd : decide (x < 0) = false := by simp; omega
    have hd2 : decide ((vs.length : Int) ≤ x) = true := by simpa using hx
    go_enter Try.func14, Try.ntmps14
    go_wp2_with (go_at_call 9; (with_reducible refine (len_I g _ _ _ _ H1.out).mono ?_); rintro e w' ⟨rfl, rfl⟩)
    go_ret2
    exact ⟨rfl, rfl⟩
set_option maxHeartbeats 400000 in
theorem new_I (n : Nat) (x : Int) (w : World) (hx : x = n) (h0 : 1 ≤ n) (hn : n ≤ 4096) :
    Calls Try.prog 8 #[.int .i64 x] w fun e w' => e = .returned (.tuple #[.pointer (some ⟨w.heap.size + 1, 0, none⟩), .int .i64 0]) ∧ (w.alloc (.cells (madeCells #[.int .i64 0] n) 3)).alloc (.cells #[.slice (some ⟨w.heap.size, 0, none⟩) n n, .int .i64 0, .int .i64 0] 54) = w' := by
  subst hx
  have hmk := fun W => run_make_row' (P := Try.prog) 31 3 (.int .i64 0) 8 Try.underlying31 (by kernel_rfl) rfl .i64 .i64 n (by omega) (by omega) W
  have hd : decide ((n : Int) < 1) = false := by simp; omega
  have hd2 : decide ((4096 : Int) < (n : Int)) = false := by simp; omega
  go_enter Try.func8, Try.ntmps8
  go_wp2
  go_ret2
  exact ⟨rfl, rfl⟩
set_option maxHeartbeats 400000 in
theorem pushfull_I (g q n : Nat) (u : Value) (vs : List Value) (w : World) (h : RingAt 54 3 w g q n vs) (hx : vs.length = n) :
    Calls Try.prog 11 #[.pointer (some ⟨g, 0, none⟩), u] w fun e w' => e = .returned (.bool false) ∧ w = w' := by
  obtain ⟨f, cs, h1, h2, hl, hf, hv, hn, hne, hc⟩ := h
  rw [hx] at h1
  have H1 := Lib.hid h1
  clear h1 h2 hc
  go_enter Try.func11, Try.ntmps11
  go_wp2_with (first | (go_at_call 9; (with_reducible refine (len_I g _ _ _ _ H1.out).mono ?_); rintro e w' ⟨rfl, rfl⟩) | (go_at_call 10; (with_reducible refine (room_I g _ _ _ _ _ _ H1.out).mono ?_); rintro e w' ⟨rfl, rfl⟩))
  go_ret
  exact ⟨rfl, rfl⟩
set_option maxHeartbeats 1000000 in
theorem push_I (g q n : Nat) (z : Int) (vs : List Value) (w : World) (h : RingAt 54 3 w g q n vs) (hx : vs.length < n) :
    Calls Try.prog 11 #[.pointer (some ⟨g, 0, none⟩), (Value.int .i64 z)] w fun e w' => e = .returned (.bool true) ∧ RingAt 54 3 w' g q n (vs ++ [(Value.int .i64 z)]) ∧ Far (both g q) w w' := by
  obtain ⟨f, cs, h1, h2, hl, hf, hv, hn, hne, hc⟩ := h
  have hpl := pl_lt hf hv
  have hc0 : w.cell? ⟨g, 0, none⟩ = some (.slice (some ⟨q, 0, none⟩) n n) := h1.cell 0
  have hc2 : w.cell? ⟨g, 2, none⟩ = some (.int .i64 vs.length) := h1.cell 2
  have hf2 := h1.frozen 2
  obtain ⟨o, ho⟩ : ∃ o, w.cell? ⟨q, pl f vs.length n, none⟩ = some o := by rw [h2.cell]; exact ⟨_, List.getElem?_eq_getElem (by omega)⟩
  have hfo := h2.frozen (pl f vs.length n)
  have hgq : g ≠ q := hne
  have hqg : q ≠ g := fun e => hne e.symm
  have HR := Lib.hid (fun N => ring_push (T := 54) (E := 3) h1 h2 hl hf hv hx hn hne hc (Value.int .i64 z) N)
  have H1 := Lib.hid h1
  clear h1 h2 hc
  have hd : ((vs.length : Int) == (n : Int)) = false := by simp; omega
  have hp0 : (0 : Int) ≤ ((pl f vs.length n : Nat) : Int) := by omega
  have hp1 : ((pl f vs.length n : Nat) : Int) < (n : Int) := by omega
  generalize vs.length = m at *
  go_enter Try.func11, Try.ntmps11
  go_wp2_with (first | (go_at_call 9; (with_reducible refine (len_I g _ _ _ _ H1.out).mono ?_); rintro e w' ⟨rfl, rfl⟩) | (go_at_call 10; (with_reducible refine (room_I g _ _ _ _ _ _ H1.out).mono ?_); rintro e w' ⟨rfl, rfl⟩))
  go_region_with ((go_at_call 21; (with_reducible refine (place_I g f m n n _ _ _ _ H1.out.drew rfl hf hv hn).mono ?_); rintro e w' ⟨rfl, md, rfl⟩))
  all_goals
    go_wp2
    go_ret
    exact ⟨rfl, HR.out _⟩
set_option maxHeartbeats 400000 in
theorem len_S (g : Nat) (a b : Value) (n : Int) (w : World) (h : Blk w g 57 [a, b, .int .i64 n]) :
    Calls Try.prog 22 #[.pointer (some ⟨g, 0, none⟩)] w fun e w' => e = .returned (.int .i64 n) ∧ w = w' := by
  have hc2 : w.cell? ⟨g, 2, none⟩ = some (.int .i64 n) := h.cell 2
  clear h
  go_enter Try.func22, Try.ntmps22
  go_wp2
  go_ret
  exact ⟨rfl, rfl⟩
set_option maxHeartbeats 400000 in
theorem room_S (g n c : Nat) (A : Option Addr) (b d : Value) (w : World) (h : Blk w g 57 [.slice A n c, b, d]) :
    Calls Try.prog 23 #[.pointer (some ⟨g, 0, none⟩)] w fun e w' => e = .returned (.int .i64 n) ∧ w = w' := by
  have hc0 : w.cell? ⟨g, 0, none⟩ = some (.slice A n c) := h.cell 0
  clear h
  go_enter Try.func23, Try.ntmps23
  go_wp2
  go_ret
  exact ⟨rfl, rfl⟩
set_option maxHeartbeats 400000 in
theorem place_S (g f k n c : Nat) (x : Int) (A : Option Addr) (d : Value) (w : World) (h : Blk w g 57 [.slice A n c, .int .i64 (f : Nat), d]) (hx : x = k) (hf : f < n) (hk : k ≤ n) (hn : n ≤ 4096) :
    Calls Try.prog 24 #[.pointer (some ⟨g, 0, none⟩), .int .i64 x] w fun e w' => e = .returned (.int .i64 (pl f k n : Nat)) ∧ ∃ m, w' = w.drewN m := by
  subst hx
  have hc0 : w.cell? ⟨g, 0, none⟩ = some (.slice A n c) := h.cell 0
  have hc1 : w.cell? ⟨g, 1, none⟩ = some (.int .i64 (f : Nat)) := h.cell 1
  clear h
  have HE : Hid (((f : Int) + (k : Int)) % (n : Int) = ((pl f k n : Nat) : Int)) := by
    show _ = _
    rw [← pl_mod hf hk]
    simp
  have hn0 : (0 : Int) < (n : Int) := by omega
  go_enter Try.func24, Try.ntmps24
  go_wp2
  go_quiet (fail)
  go_wp2
  go_ret
  exact ⟨ret_int HE.out, _, rfl⟩
set_option maxHeartbeats 400000 in
theorem at_S (g q n k : Nat) (x : Int) (vs : List Value) (v : Value) (w : World) (h : RingAt 57 9 w g q n vs) (hx : x = k) (hk : vs[k]? = some v) :
    Calls Try.prog 30 #[.pointer (some ⟨g, 0, none⟩), .int .i64 x] w fun e w' => e = .returned (.tuple #[v, .bool true]) ∧ ∃ m, w' = w.drewN m := by
  subst hx
  obtain ⟨f, cs, h1, h2, hl, hf, hv, hn, hne, hc⟩ := h
  have hkv : k < vs.length := (List.getElem?_eq_some_iff.1 hk).1
  have hpl := pl_lt hf (Nat.le_trans (Nat.le_of_lt hkv) hv)
  have hcv : w.cell? ⟨q, pl f k n, none⟩ = some v := (h2.cell _).trans ((hc k hkv).trans hk)
  have hc0 : w.cell? ⟨g, 0, none⟩ = some (.slice (some ⟨q, 0, none⟩) n n) := h1.cell 0
  have H1 := Lib.hid h1
  clear h1 h2 hc hk
  generalize vs.length = m at *
  have hd : decide ((m : Int) ≤ (k : Int)) = false := by simp; omega
  have hp0 : (0 : Int) ≤ ((pl f k n : Nat) : Int) := by omega
  have hp1 : ((pl f k n : Nat) : Int) < (n : Int) := by omega
  go_enter Try.func30, Try.ntmps30
  go_wp2_with (go_at_call 22; (with_reducible refine (len_S g _ _ _ _ H1.out).mono ?_); rintro e w' ⟨rfl, rfl⟩)
  go_quiet ((go_at_call 24; exact Calls.quiet_of (place_S g f k n n _ _ _ _ H1.out rfl hf (by omega) hn)))
  go_wp2
  go_ret2
  exact ⟨rfl, _, rfl⟩
set_option maxHeartbeats 400000 in
theorem atnone_S (g q n : Nat) (x : Int) (vs : List Value) (w : World) (h : RingAt 57 9 w g q n vs) (hx : x < 0 ∨ (vs.length : Int) ≤ x) :
    Calls Try.prog 30 #[.pointer (some ⟨g, 0, none⟩), .int .i64 x] w fun e w' => e = .returned (.tuple #[.string { data := #[] }, .bool false]) ∧ w = w' := by
  obtain ⟨f, cs, h1, h2, hl, hf, hv, hn, hne, hc⟩ := h
  have H1 := Lib.hid h1
  clear h1 h2 hc
  rcases hx with hx | hx
  · have hd : decide (x < 0) = true := by simpa using hx
    go_enter Try.func30, Try.ntmps30
    go_wp2
    go_ret2
    exact ⟨rfl, rfl⟩
  · have hd : decide (x < 0) = false := by simp; omega
    have hd2 : decide ((vs.length : Int) ≤ x) = true := by simpa using hx
    go_enter Try.func30, Try.ntmps30
    go_wp2_with (go_at_call 22; (with_reducible refine (len_S g _ _ _ _ H1.out).mono ?_); rintro e w' ⟨rfl, rfl⟩)
    go_ret2
    exact ⟨rfl, rfl⟩
set_option maxHeartbeats 400000 in
theorem new_S (n : Nat) (x : Int) (w : World) (hx : x = n) (h0 : 1 ≤ n) (hn : n ≤ 4096) :
    Calls Try.prog 15 #[.int .i64 x] w fun e w' => e = .returned (.tuple #[.pointer (some ⟨w.heap.size + 1, 0, none⟩), .int .i64 0]) ∧ (w.alloc (.cells (madeCells #[.string { data := #[] }] n) 9)).alloc (.cells #[.slice (some ⟨w.heap.size, 0, none⟩) n n, .int .i64 0, .int .i64 0] 57) = w' := by
  subst hx
  have hmk := fun W => run_make_row' (P := Try.prog) 37 9 (.string { data := #[] }) 16 Try.underlying37 (by kernel_rfl) rfl .i64 .i64 n (by omega) (by omega) W
  have hd : decide ((n : Int) < 1) = false := by simp; omega
  have hd2 : decide ((4096 : Int) < (n : Int)) = false := by simp; omega
  go_enter Try.func15, Try.ntmps15
  go_wp2
  go_ret2
  exact ⟨rfl, rfl⟩
set_option maxHeartbeats 400000 in
theorem pushfull_S (g q n : Nat) (u : Value) (vs : List Value) (w : World) (h : RingAt 57 9 w g q n vs) (hx : vs.length = n) :
    Calls Try.prog 17 #[.pointer (some ⟨g, 0, none⟩), u] w fun e w' => e = .returned (.bool false) ∧ w = w' := by
  obtain ⟨f, cs, h1, h2, hl, hf, hv, hn, hne, hc⟩ := h
  rw [hx] at h1
  have H1 := Lib.hid h1
  clear h1 h2 hc
  go_enter Try.func17, Try.ntmps17
  go_wp2_with (first | (go_at_call 22; (with_reducible refine (len_S g _ _ _ _ H1.out).mono ?_); rintro e w' ⟨rfl, rfl⟩) | (go_at_call 23; (with_reducible refine (room_S g _ _ _ _ _ _ H1.out).mono ?_); rintro e w' ⟨rfl, rfl⟩))
  go_ret
  exact ⟨rfl, rfl⟩
set_option maxHeartbeats 1000000 in
theorem push_S (g q n : Nat) (z : ByteArray) (vs : List Value) (w : World) (h : RingAt 57 9 w g q n vs) (hx : vs.length < n) :
    Calls Try.prog 17 #[.pointer (some ⟨g, 0, none⟩), (Value.string z)] w fun e w' => e = .returned (.bool true) ∧ RingAt 57 9 w' g q n (vs ++ [(Value.string z)]) ∧ Far (both g q) w w' := by
  obtain ⟨f, cs, h1, h2, hl, hf, hv, hn, hne, hc⟩ := h
  have hpl := pl_lt hf hv
  have hc0 : w.cell? ⟨g, 0, none⟩ = some (.slice (some ⟨q, 0, none⟩) n n) := h1.cell 0
  have hc2 : w.cell? ⟨g, 2, none⟩ = some (.int .i64 vs.length) := h1.cell 2
  have hf2 := h1.frozen 2
  obtain ⟨o, ho⟩ : ∃ o, w.cell? ⟨q, pl f vs.length n, none⟩ = some o := by rw [h2.cell]; exact ⟨_, List.getElem?_eq_getElem (by omega)⟩
  have hfo := h2.frozen (pl f vs.length n)
  have hgq : g ≠ q := hne
  have hqg : q ≠ g := fun e => hne e.symm
  have HR := Lib.hid (fun N => ring_push (T := 57) (E := 9) h1 h2 hl hf hv hx hn hne hc (Value.string z) N)
  have H1 := Lib.hid h1
  clear h1 h2 hc
  have hd : ((vs.length : Int) == (n : Int)) = false := by simp; omega
  have hp0 : (0 : Int) ≤ ((pl f vs.length n : Nat) : Int) := by omega
  have hp1 : ((pl f vs.length n : Nat) : Int) < (n : Int) := by omega
  generalize vs.length = m at *
  go_enter Try.func17, Try.ntmps17
  go_wp2_with (first | (go_at_call 22; (with_reducible refine (len_S g _ _ _ _ H1.out).mono ?_); rintro e w' ⟨rfl, rfl⟩) | (go_at_call 23; (with_reducible refine (room_S g _ _ _ _ _ _ H1.out).mono ?_); rintro e w' ⟨rfl, rfl⟩))
  go_region_with ((go_at_call 24; (with_reducible refine (place_S g f m n n _ _ _ _ H1.out.drew rfl hf hv hn).mono ?_); rintro e w' ⟨rfl, md, rfl⟩))
  all_goals
    go_wp2
    go_ret
    exact ⟨rfl, HR.out _⟩
set_option maxHeartbeats 400000 in
theorem len_L (g : Nat) (a b : Value) (n : Int) (w : World) (h : Blk w g 60 [a, b, .int .i64 n]) :
    Calls Try.prog 25 #[.pointer (some ⟨g, 0, none⟩)] w fun e w' => e = .returned (.int .i64 n) ∧ w = w' := by
  have hc2 : w.cell? ⟨g, 2, none⟩ = some (.int .i64 n) := h.cell 2
  clear h
  go_enter Try.func25, Try.ntmps25
  go_wp2
  go_ret
  exact ⟨rfl, rfl⟩
set_option maxHeartbeats 400000 in
theorem room_L (g n c : Nat) (A : Option Addr) (b d : Value) (w : World) (h : Blk w g 60 [.slice A n c, b, d]) :
    Calls Try.prog 26 #[.pointer (some ⟨g, 0, none⟩)] w fun e w' => e = .returned (.int .i64 n) ∧ w = w' := by
  have hc0 : w.cell? ⟨g, 0, none⟩ = some (.slice A n c) := h.cell 0
  clear h
  go_enter Try.func26, Try.ntmps26
  go_wp2
  go_ret
  exact ⟨rfl, rfl⟩
set_option maxHeartbeats 400000 in
theorem place_L (g f k n c : Nat) (x : Int) (A : Option Addr) (d : Value) (w : World) (h : Blk w g 60 [.slice A n c, .int .i64 (f : Nat), d]) (hx : x = k) (hf : f < n) (hk : k ≤ n) (hn : n ≤ 4096) :
    Calls Try.prog 27 #[.pointer (some ⟨g, 0, none⟩), .int .i64 x] w fun e w' => e = .returned (.int .i64 (pl f k n : Nat)) ∧ ∃ m, w' = w.drewN m := by
  subst hx
  have hc0 : w.cell? ⟨g, 0, none⟩ = some (.slice A n c) := h.cell 0
  have hc1 : w.cell? ⟨g, 1, none⟩ = some (.int .i64 (f : Nat)) := h.cell 1
  clear h
  have HE : Hid (((f : Int) + (k : Int)) % (n : Int) = ((pl f k n : Nat) : Int)) := by
    show _ = _
    rw [← pl_mod hf hk]
    simp
  have hn0 : (0 : Int) < (n : Int) := by omega
  go_enter Try.func27, Try.ntmps27
  go_wp2
  go_quiet (fail)
  go_wp2
  go_ret
  exact ⟨ret_int HE.out, _, rfl⟩
set_option maxHeartbeats 400000 in
theorem at_L (g q n k : Nat) (x : Int) (vs : List Value) (v : Value) (w : World) (h : RingAt 60 37 w g q n vs) (hx : x = k) (hk : vs[k]? = some v) :
    Calls Try.prog 31 #[.pointer (some ⟨g, 0, none⟩), .int .i64 x] w fun e w' => e = .returned (.tuple #[v, .bool true]) ∧ ∃ m, w' = w.drewN m := by
  subst hx
  obtain ⟨f, cs, h1, h2, hl, hf, hv, hn, hne, hc⟩ := h
  have hkv : k < vs.length := (List.getElem?_eq_some_iff.1 hk).1
  have hpl := pl_lt hf (Nat.le_trans (Nat.le_of_lt hkv) hv)
  have hcv : w.cell? ⟨q, pl f k n, none⟩ = some v := (h2.cell _).trans ((hc k hkv).trans hk)
  have hc0 : w.cell? ⟨g, 0, none⟩ = some (.slice (some ⟨q, 0, none⟩) n n) := h1.cell 0
  have H1 := Lib.hid h1
  clear h1 h2 hc hk
  generalize vs.length = m at *
  have hd : decide ((m : Int) ≤ (k : Int)) = false := by simp; omega
  have hp0 : (0 : Int) ≤ ((pl f k n : Nat) : Int) := by omega
  have hp1 : ((pl f k n : Nat) : Int) < (n : Int) := by omega
  go_enter Try.func31, Try.ntmps31
  go_wp2_with (go_at_call 25; (with_reducible refine (len_L g _ _ _ _ H1.out).mono ?_); rintro e w' ⟨rfl, rfl⟩)
  go_quiet ((go_at_call 27; exact Calls.quiet_of (place_L g f k n n _ _ _ _ H1.out rfl hf (by omega) hn)))
  go_wp2
  go_ret2
  exact ⟨rfl, _, rfl⟩
set_option maxHeartbeats 400000 in
theorem atnone_L (g q n : Nat) (x : Int) (vs : List Value) (w : World) (h : RingAt 60 37 w g q n vs) (hx : x < 0 ∨ (vs.length : Int) ≤ x) :
    Calls Try.prog 31 #[.pointer (some ⟨g, 0, none⟩), .int .i64 x] w fun e w' => e = .returned (.tuple #[.slice none 0 0, .bool false]) ∧ w = w' := by
  obtain ⟨f, cs, h1, h2, hl, hf, hv, hn, hne, hc⟩ := h
  have H1 := Lib.hid h1
  clear h1 h2 hc
  rcases hx with hx | hx
  · have hd : decide (x < 0) = true := by simpa using hx
    go_enter Try.func31, Try.ntmps31
    go_wp2
    go_ret2
    exact ⟨rfl, rfl⟩
  · have hd : decide (x < 0) = false := by simp; omega
    have hd2 : decide ((vs.length : Int) ≤ x) = true := by simpa using hx
    go_enter Try.func31, Try.ntmps31
    go_wp2_with (go_at_call 25; (with_reducible refine (len_L g _ _ _ _ H1.out).mono ?_); rintro e w' ⟨rfl, rfl⟩)
    go_ret2
    exact ⟨rfl, rfl⟩
set_option maxHeartbeats 400000 in
theorem new_L (n : Nat) (x : Int) (w : World) (hx : x = n) (h0 : 1 ≤ n) (hn : n ≤ 4096) :
    Calls Try.prog 16 #[.int .i64 x] w fun e w' => e = .returned (.tuple #[.pointer (some ⟨w.heap.size + 1, 0, none⟩), .int .i64 0]) ∧ (w.alloc (.cells (madeCells #[.slice none 0 0] n) 37)).alloc (.cells #[.slice (some ⟨w.heap.size, 0, none⟩) n n, .int .i64 0, .int .i64 0] 60) = w' := by
  subst hx
  have hmk := fun W => run_make_row' (P := Try.prog) 58 37 (.slice none 0 0) 24 Try.underlying58 (by kernel_rfl) rfl .i64 .i64 n (by omega) (by omega) W
  have hd : decide ((n : Int) < 1) = false := by simp; omega
  have hd2 : decide ((4096 : Int) < (n : Int)) = false := by simp; omega
  go_enter Try.func16, Try.ntmps16
  go_wp2
  go_ret2
  exact ⟨rfl, rfl⟩
set_option maxHeartbeats 400000 in
theorem pushfull_L (g q n : Nat) (u : Value) (vs : List Value) (w : World) (h : RingAt 60 37 w g q n vs) (hx : vs.length = n) :
    Calls Try.prog 18 #[.pointer (some ⟨g, 0, none⟩), u] w fun e w' => e = .returned (.bool false) ∧ w = w' := by
  obtain ⟨f, cs, h1, h2, hl, hf, hv, hn, hne, hc⟩ := h
  rw [hx] at h1
  have H1 := Lib.hid h1
  clear h1 h2 hc
  go_enter Try.func18, Try.ntmps18
  go_wp2_with (first | (go_at_call 25; (with_reducible refine (len_L g _ _ _ _ H1.out).mono ?_); rintro e w' ⟨rfl, rfl⟩) | (go_at_call 26; (with_reducible refine (room_L g _ _ _ _ _ _ H1.out).mono ?_); rintro e w' ⟨rfl, rfl⟩))
  go_ret
  exact ⟨rfl, rfl⟩
set_option maxHeartbeats 1000000 in
theorem push_L (g q n : Nat) (A : Option Addr) (a c : Nat) (vs : List Value) (w : World) (h : RingAt 60 37 w g q n vs) (hx : vs.length < n) :
    Calls Try.prog 18 #[.pointer (some ⟨g, 0, none⟩), (Value.slice A a c)] w fun e w' => e = .returned (.bool true) ∧ RingAt 60 37 w' g q n (vs ++ [(Value.slice A a c)]) ∧ Far (both g q) w w' := by
  obtain ⟨f, cs, h1, h2, hl, hf, hv, hn, hne, hc⟩ := h
  have hpl := pl_lt hf hv
  have hc0 : w.cell? ⟨g, 0, none⟩ = some (.slice (some ⟨q, 0, none⟩) n n) := h1.cell 0
  have hc2 : w.cell? ⟨g, 2, none⟩ = some (.int .i64 vs.length) := h1.cell 2
  have hf2 := h1.frozen 2
  obtain ⟨o, ho⟩ : ∃ o, w.cell? ⟨q, pl f vs.length n, none⟩ = some o := by rw [h2.cell]; exact ⟨_, List.getElem?_eq_getElem (by omega)⟩
  have hfo := h2.frozen (pl f vs.length n)
  have hgq : g ≠ q := hne
  have hqg : q ≠ g := fun e => hne e.symm
  have HR := Lib.hid (fun N => ring_push (T := 60) (E := 37) h1 h2 hl hf hv hx hn hne hc (Value.slice A a c) N)
  have H1 := Lib.hid h1
  clear h1 h2 hc
  have hd : ((vs.length : Int) == (n : Int)) = false := by simp; omega
  have hp0 : (0 : Int) ≤ ((pl f vs.length n : Nat) : Int) := by omega
  have hp1 : ((pl f vs.length n : Nat) : Int) < (n : Int) := by omega
  generalize vs.length = m at *
  go_enter Try.func18, Try.ntmps18
  go_wp2_with (first | (go_at_call 25; (with_reducible refine (len_L g _ _ _ _ H1.out).mono ?_); rintro e w' ⟨rfl, rfl⟩) | (go_at_call 26; (with_reducible refine (room_L g _ _ _ _ _ _ H1.out).mono ?_); rintro e w' ⟨rfl, rfl⟩))
  go_region_with ((go_at_call 27; (with_reducible refine (place_L g f m n n _ _ _ _ H1.out.drew rfl hf hv hn).mono ?_); rintro e w' ⟨rfl, md, rfl⟩))
  all_goals
    go_wp2
    go_ret
    exact ⟨rfl, HR.out _⟩
end Go.Proofs.Yteamdgkpeoeafaa
