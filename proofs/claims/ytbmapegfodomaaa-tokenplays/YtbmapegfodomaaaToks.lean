/- Tokens as plain numbers; the contracts of package token's calls. Conditions: those of each theorem. -/
import Derived.Test.YtbmapegfodomaaaRows
import Derived.Test.YtbmapegfodomaaaMem
import Derived.Test.YtbmapegfodomaaaRefs
import Derived.WalkKit
import Derived.WalkSpells
import Derived.WalkLawsBesides
import Derived.ProofKit
import Derived.OpenShut
import Derived.Deep.QuietTactic
import Derived.BigQuiet
import Derived.Deep.RegionWith
import Derived.Deep.RegionHeld
import Derived.RegionTactic
import Derived.Deep.DeepCutAuto
import Derived.Lib.MinMax
namespace Go.Proofs.Ytbmapegfodomaaa
open Go.RowKit

theorem ret_bool {a b : Bool} (h : a = b) : Ending.returned (.bool a) = .returned (.bool b) := by rw [h]
theorem Blk.drew {w : World} {g : Nat} {t : TypeId} {cs : List Value} (h : Blk w g t cs) : Blk w.drew g t cs := h
theorem Blk.drewN {w : World} {g : Nat} {t : TypeId} {cs : List Value} (h : Blk w g t cs) (n : Nat) : Blk (w.drewN n) g t cs := h
def nobody : Nat → Prop := fun _ => False
def only (g : Nat) : Nat → Prop := fun k => k = g
theorem below_only {B g : Nat} {w0 w w' : World} (h : Below B w0 w) (hf : Far (only g) w w') (hg : B ≤ g) (hB : B ≤ w.heap.size) : Below B w0 w' :=
  h.trans (hf.below hB (fun k hk e => by unfold only at e; omega))
theorem below_drewN {B : Nat} {a w : World} (h : Below B a w) (n : Nat) : Below B a (w.drewN n) := h.trans ⟨rfl, rfl, rfl, Nat.le_refl _, fun _ _ => rfl⟩
theorem Blk.below {w w' : World} {g : Nat} {t : TypeId} {cs : List Value} (h : Blk w g t cs) (hb : Below w.heap.size w w') : Blk w' g t cs := h.far (Far.of_below hb nobody) (fun e => e)
/-- The cells of a block of four. -/
theorem four {w : World} {g : Nat} {t : TypeId} {a b c d : Value} (h : Blk w g t [a, b, c, d]) :
    w.cell? ⟨g, 0, none⟩ = some a ∧ w.cell? ⟨g, 1, none⟩ = some b ∧ w.cell? ⟨g, 2, none⟩ = some c ∧ w.cell? ⟨g, 3, none⟩ = some d ∧ w.frozen? ⟨g, 0, none⟩ = false ∧ w.frozen? ⟨g, 1, none⟩ = false ∧ w.frozen? ⟨g, 2, none⟩ = false ∧ w.frozen? ⟨g, 3, none⟩ = false :=
  ⟨h.cell 0, h.cell 1, h.cell 2, h.cell 3, h.frozen 0, h.frozen 1, h.frozen 2, h.frozen 3⟩

/-- How many parts are there at x: rate r, burst B, L at m. -/
def lev (r B L m x : Int) : Int := if x ≤ m then L else min (addC L (mulC r (x - m))) B
theorem lev_old {r B L m x : Int} (h : x ≤ m) : lev r B L m x = L := by unfold lev; rw [if_pos h]
theorem lev_new {r B L m x : Int} (h : m < x) : lev r B L m x = min (addC L (mulC r (x - m))) B := by unfold lev; rw [if_neg (by omega)]
/-- What tokens' numbers keep. -/
structure Ok (r B L m : Int) : Prop where
  r0 : 0 ≤ r
  r1 : r ≤ 1073741824
  b1 : B ≤ 1125899906842624
  l0 : 0 ≤ L
  l1 : L ≤ B
  m0 : 0 ≤ m
  m1 : m ≤ 9223372036854775807
theorem lev_bd {r B L m x : Int} (h : Ok r B L m) : 0 ≤ lev r B L m x ∧ lev r B L m x ≤ B := by
  have h0 := h.l0
  have h1 := h.l1
  have h2 := addC_bd (a := L) (b := mulC r (x - m)) h0 (mulC_bd _ _).1
  unfold lev
  split <;> omega
/-- Whether n can be taken at x; what is left then. -/
def okT (r B L m x n : Int) : Bool := decide (0 ≤ n) && decide (n ≤ 1073741824) && decide (n * 1048576 ≤ lev r B L m x)
def lef (r B L m x n : Int) : Int := if okT r B L m x n = true then lev r B L m x - n * 1048576 else lev r B L m x
theorem ok_yes {r B L m x n : Int} (h : okT r B L m x n = true) : 0 ≤ n ∧ n ≤ 1073741824 ∧ n * 1048576 ≤ lev r B L m x := by
  simpa [okT, and_assoc] using h
theorem lef_yes {r B L m x n : Int} (h : okT r B L m x n = true) : lef r B L m x n = lev r B L m x - n * 1048576 := by unfold lef; rw [if_pos h]
theorem lef_no {r B L m x n : Int} (h : okT r B L m x n = false) : lef r B L m x n = lev r B L m x := by unfold lef; rw [if_neg (by simp [h])]
theorem ok_neg {r B L m x n : Int} (h : n < 0) : okT r B L m x n = false := by simp [okT]; omega
theorem ok_big {r B L m x n : Int} (h : 1073741824 < n) : okT r B L m x n = false := by simp [okT]; omega
theorem ok_few {r B L m x n : Int} (h : lev r B L m x < n * 1048576) : okT r B L m x n = false := by simp [okT]; omega
theorem ok_some {r B L m x n : Int} (h0 : 0 ≤ n) (h1 : n ≤ 1073741824) (h : n * 1048576 ≤ lev r B L m x) : okT r B L m x n = true := by simp [okT, h0, h1, h]
theorem ok_left {r B L m x n : Int} (h : Ok r B L m) (hx : x ≤ 9223372036854775807) : Ok r B (lef r B L m x n) (max m x) := by
  have hl := lev_bd (x := x) h
  obtain ⟨h1, h2, h3, h4, h5, h6, h7⟩ := h
  rcases e : okT r B L m x n with _ | _
  · rw [lef_no e]
    exact ⟨h1, h2, h3, hl.1, hl.2, by omega, by omega⟩
  · rw [lef_yes e]
    have := ok_yes e
    exact ⟨h1, h2, h3, by omega, by omega, by omega, by omega⟩

/-- Tokens at block g. -/
def TAt (w : World) (g : Nat) (r B L m : Int) : Prop := Blk w g 46 [.int .i64 r, .int .i64 B, .int .i64 L, .int .i64 m] ∧ Ok r B L m
section
variable {w w' : World} {g : Nat} {r B L m : Int}
theorem TAt.far {T : Nat → Prop} (h : TAt w g r B L m) (hf : Far T w w') (h1 : ¬ T g) : TAt w' g r B L m := ⟨h.1.far hf h1, h.2⟩
theorem TAt.below (h : TAt w g r B L m) (hb : Below w.heap.size w w') : TAt w' g r B L m := h.far (Far.of_below hb nobody) (fun e => e)
theorem TAt.drew (h : TAt w g r B L m) : TAt w.drew g r B L m := h
theorem TAt.drewN (h : TAt w g r B L m) (N : Nat) : TAt (w.drewN N) g r B L m := h
theorem TAt.blk (h : TAt w g r B L m) : Blk w g 46 [.int .i64 r, .int .i64 B, .int .i64 L, .int .i64 m] := h.1
theorem TAt.ok (h : TAt w g r B L m) : Ok r B L m := h.2
end
/-- What a call that answers a number leaves. -/
def NumOut (w : World) (z : Int) (e : Ending) (w' : World) : Prop := e = .returned (.int .i64 z) ∧ Below w.heap.size w w'

set_option maxHeartbeats 400000 in
theorem at_old (g : Nat) (r B L m x : Int) (w : World) (h : TAt w g r B L m) (hx : x ≤ m) :
    Calls Try.prog 14 #[.pointer (some ⟨g, 0, none⟩), .int .i64 x] w (NumOut w L) := by
  have HB := Lib.hid (Below.refl w.heap.size w)
  obtain ⟨c0, c1, c2, c3, f0, f1, f2, f3⟩ := four h.blk
  clear h
  go_enter Try.func14, Try.ntmps14
  go_wp2
  go_ret
  exact ⟨rfl, HB.out⟩
/-- Add of two numbers, as at lays them out. -/
theorem add2_lev (L y : Int) (w : World) (h0 : 0 ≤ L) (h1 : L ≤ 4611686018427387904) (h2 : 0 ≤ y) (h3 : y ≤ 4611686018427387904) :
    Calls Try.prog 18 #[.slice (some ⟨w.heap.size, 0, none⟩) 2 2] (w.alloc (.cells #[.int .i64 L, .int .i64 y] 2)) fun e w' => e = .returned (.int .i64 (addC L y)) ∧ w.alloc (.cells #[.int .i64 L, .int .i64 y] 2) = w' := by
  have := add2_any L y w w.heap.size 2 rfl
  rw [sumF_two, cnt_id h0 h1, cnt_id h2 h3] at this
  exact this
set_option maxHeartbeats 1000000 in
theorem at_new (g : Nat) (r B L m x : Int) (w : World) (h : TAt w g r B L m) (hx : m < x) (hx' : x ≤ 9223372036854775807) :
    Calls Try.prog 14 #[.pointer (some ⟨g, 0, none⟩), .int .i64 x] w (NumOut w (lev r B L m x)) := by
  obtain ⟨hr0, hr1, hB1, hL0, hL1, hm0, hm1⟩ := h.ok
  rw [lev_new hx]
  have H := Lib.hid h.blk
  obtain ⟨c0, c1, c2, c3, f0, f1, f2, f3⟩ := four h.blk
  have hm := mulC_bd r (x - m)
  have ha := addC_bd (a := L) (b := mulC r (x - m)) hL0 hm.1
  clear h
  go_enter Try.func14, Try.ntmps14
  go_wp2
  clear c0 c1 c2 c3 f0 f1 f2 f3
  refine wp_region_held_drew (S := fun W => Blk W g 46 [.int .i64 r, .int .i64 B, .int .i64 L, .int .i64 m]) (by kernel_rfl) ?_ (fun _ => ?_)
  · exact H.out
  have HS0 : Hid (Blk w.drew g 46 [.int .i64 r, .int .i64 B, .int .i64 L, .int .i64 m]) := H.out
  have B0 : Hid (Below w.heap.size w w.drew) := below_drewN (Below.refl _ w) 1
  generalize w.drew = y at *
  refine wpAnyH_take (i := 0) (oi := ⟨some 16, _, _, _, _, _⟩) (v := ?_) rfl (by kernel_rfl) (by kernel_rfl) (by kernel_rfl) (fun _ _ _ h => h) (Or.inl ⟨by rfl, ?_⟩) HS0.out ?_
  rotate_left
  · (intro W hSW; clear hSW; go_simp)
    first | done | (with_reducible rfl)
  try simp only [Act.put, List.setIfInBounds_toArray, List.set_cons_zero, List.set_cons_succ]
  refine wpAnyH_take (i := 1) (oi := ⟨some 17, _, _, _, _, _⟩) (v := ?_) rfl (by kernel_rfl) (by kernel_rfl) (by kernel_rfl) (fun _ _ _ h => h) (Or.inl ⟨by rfl, ?_⟩) HS0.out ?_
  rotate_left
  · (intro W hSW; clear hSW; go_simp)
    first | done | (with_reducible rfl)
  try simp only [Act.put, List.setIfInBounds_toArray, List.set_cons_zero, List.set_cons_succ]
  refine wpAnyH_take (i := 2) (oi := ⟨some 18, _, _, _, _, _⟩) (v := ?_) rfl (by kernel_rfl) (by kernel_rfl) (by kernel_rfl) (fun _ _ _ h => h) (Or.inl ⟨by rfl, ?_⟩) HS0.out ?_
  rotate_left
  · (intro W hSW; clear hSW; go_simp)
    first | done | (with_reducible rfl)
  try simp only [Act.put, List.setIfInBounds_toArray, List.set_cons_zero, List.set_cons_succ]
  refine wpAnyH_take (i := 3) (oi := ⟨some 19, _, _, _, _, _⟩) (v := .int .i64 r) rfl (by kernel_rfl) (by kernel_rfl) (by kernel_rfl) (fun _ _ _ h => h) (Or.inl ⟨by rfl, ?_⟩) HS0.out ?_
  · (intro W hSW; have hc := hSW.cell 0; clear hSW; go_simp)
  try simp only [Act.put, List.setIfInBounds_toArray, List.set_cons_zero, List.set_cons_succ]
  refine wpAnyH_take (i := 4) (oi := ⟨some 20, _, _, _, _, _⟩) (v := ?_) rfl (by kernel_rfl) (by kernel_rfl) (by kernel_rfl) (fun _ _ _ h => h) (Or.inl ⟨by rfl, ?_⟩) HS0.out ?_
  rotate_left
  · (intro W hSW; clear hSW; go_simp)
    first | done | (with_reducible rfl)
  try simp only [Act.put, List.setIfInBounds_toArray, List.set_cons_zero, List.set_cons_succ]
  refine wpAnyH_take (i := 5) (oi := ⟨some 21, _, _, _, _, _⟩) (v := ?_) rfl (by kernel_rfl) (by kernel_rfl) (by kernel_rfl) (fun _ _ _ h => h) (Or.inl ⟨by rfl, ?_⟩) HS0.out ?_
  rotate_left
  · (intro W hSW; clear hSW; go_simp)
    first | done | (with_reducible rfl)
  try simp only [Act.put, List.setIfInBounds_toArray, List.set_cons_zero, List.set_cons_succ]
  refine wpAnyH_take (i := 6) (oi := ⟨some 22, _, _, _, _, _⟩) (v := ?_) rfl (by kernel_rfl) (by kernel_rfl) (by kernel_rfl) (fun _ _ _ h => h) (Or.inl ⟨by rfl, ?_⟩) HS0.out ?_
  rotate_left
  · (intro W hSW; clear hSW; go_simp)
    first | done | (with_reducible rfl)
  try simp only [Act.put, List.setIfInBounds_toArray, List.set_cons_zero, List.set_cons_succ]
  refine wpAnyH_take (i := 7) (oi := ⟨some 23, _, _, _, _, _⟩) (v := ?_) rfl (by kernel_rfl) (by kernel_rfl) (by kernel_rfl) (fun _ _ _ h => h) (Or.inl ⟨by rfl, ?_⟩) HS0.out ?_
  rotate_left
  · (intro W hSW; clear hSW; go_simp)
    first | done | (with_reducible rfl)
  try simp only [Act.put, List.setIfInBounds_toArray, List.set_cons_zero, List.set_cons_succ]
  refine wpAnyH_take (i := 8) (oi := ⟨some 24, _, _, _, _, _⟩) (v := .int .i64 m) rfl (by kernel_rfl) (by kernel_rfl) (by kernel_rfl) (fun _ _ _ h => h) (Or.inl ⟨by rfl, ?_⟩) HS0.out ?_
  · (intro W hSW; have hc := hSW.cell 3; clear hSW; go_simp)
  try simp only [Act.put, List.setIfInBounds_toArray, List.set_cons_zero, List.set_cons_succ]
  refine wpAnyH_take (i := 9) (oi := ⟨some 25, _, _, _, _, _⟩) (v := .int .i64 (x - m)) rfl (by kernel_rfl) (by kernel_rfl) (by kernel_rfl) (fun _ _ _ h => h) (Or.inl ⟨by rfl, ?_⟩) HS0.out ?_
  · (intro W hSW; clear hSW; go_simp)
    (rw [IntKind.wrap_i64]; omega)
  try simp only [Act.put, List.setIfInBounds_toArray, List.set_cons_zero, List.set_cons_succ]
  refine wpAnyH_ready (rs := [10]) (by kernel_rfl) (by simp) ?_
  refine AllReadyH.cons (o := ⟨some 26, _, _, _, _, _⟩) rfl (fun K hK => ?_) AllReadyH.nil
  go_simp
  refine (mul_any _ _ _).mono ?_
  rintro e w' ⟨rfl, rfl⟩
  go_simp
  refine hK.out _ _ ?_ (fun _ => ?_)
  · exact HS0.out
  clear hK K
  try simp only [Act.put, List.setIfInBounds_toArray, List.set_cons_zero, List.set_cons_succ]
  refine wpAnyH_take (i := 11) (oi := ⟨some 5, _, _, _, _, _⟩) (v := ?_) rfl (by kernel_rfl) (by kernel_rfl) (by kernel_rfl) (fun _ _ _ h => h) (Or.inl ⟨by rfl, ?_⟩) HS0.out ?_
  rotate_left
  · (intro W hSW; clear hSW; go_simp)
    first | done | (with_reducible rfl)
  try simp only [Act.put, List.setIfInBounds_toArray, List.set_cons_zero, List.set_cons_succ]
  refine wpAnyH_done (by kernel_rfl) ?_ _
  go_wp2_with fail
  have H1 : Hid (Blk y g 46 [.int .i64 r, .int .i64 B, .int .i64 L, .int .i64 m]) := HS0.out
  refine wp_region_held_drew (S := fun W => Blk W g 46 [.int .i64 r, .int .i64 B, .int .i64 L, .int .i64 m]) (by kernel_rfl) ?_ (fun _ => ?_)
  · exact H1.out
  clear HS0
  have HS0 : Hid (Blk y.drew g 46 [.int .i64 r, .int .i64 B, .int .i64 L, .int .i64 m]) := H1.out
  have X0 : Hid (Below w.heap.size w y.drew) := B0.out.drew
  clear H1 B0
  generalize y.drew = z at *
  refine wpAnyH_take (i := 0) (oi := ⟨some 27, _, _, _, _, _⟩) (v := ?_) rfl (by kernel_rfl) (by kernel_rfl) (by kernel_rfl) (fun _ _ _ h => h) (Or.inl ⟨by rfl, ?_⟩) HS0.out ?_
  rotate_left
  · (intro W hSW; clear hSW; go_simp)
    first | done | (with_reducible rfl)
  try simp only [Act.put, List.setIfInBounds_toArray, List.set_cons_zero, List.set_cons_succ]
  refine wpAnyH_take (i := 1) (oi := ⟨some 28, _, _, _, _, _⟩) (v := ?_) rfl (by kernel_rfl) (by kernel_rfl) (by kernel_rfl) (fun _ _ _ h => h) (Or.inl ⟨by rfl, ?_⟩) HS0.out ?_
  rotate_left
  · (intro W hSW; clear hSW; go_simp)
    first | done | (with_reducible rfl)
  try simp only [Act.put, List.setIfInBounds_toArray, List.set_cons_zero, List.set_cons_succ]
  refine wpAnyH_take (i := 2) (oi := ⟨some 29, _, _, _, _, _⟩) (v := ?_) rfl (by kernel_rfl) (by kernel_rfl) (by kernel_rfl) (fun _ _ _ h => h) (Or.inl ⟨by rfl, ?_⟩) HS0.out ?_
  rotate_left
  · (intro W hSW; clear hSW; go_simp)
    first | done | (with_reducible rfl)
  try simp only [Act.put, List.setIfInBounds_toArray, List.set_cons_zero, List.set_cons_succ]
  refine wpAnyH_take (i := 3) (oi := ⟨some 30, _, _, _, _, _⟩) (v := .int .i64 L) rfl (by kernel_rfl) (by kernel_rfl) (by kernel_rfl) (fun _ _ _ h => h) (Or.inl ⟨by rfl, ?_⟩) HS0.out ?_
  · (intro W hSW; have hc := hSW.cell 2; clear hSW; go_simp)
  try simp only [Act.put, List.setIfInBounds_toArray, List.set_cons_zero, List.set_cons_succ]
  refine wpAnyH_take (i := 4) (oi := ⟨some 31, _, _, _, _, _⟩) (v := ?_) rfl (by kernel_rfl) (by kernel_rfl) (by kernel_rfl) (fun _ _ _ h => h) (Or.inl ⟨by rfl, ?_⟩) HS0.out ?_
  rotate_left
  · (intro W hSW; clear hSW; go_simp)
    first | done | (with_reducible rfl)
  try simp only [Act.put, List.setIfInBounds_toArray, List.set_cons_zero, List.set_cons_succ]
  refine wpAnyH_take (i := 7) (oi := ⟨some 34, _, _, _, _, _⟩) (v := ?_) rfl (by kernel_rfl) (by kernel_rfl) (by kernel_rfl) (fun _ _ _ h => h) (Or.inl ⟨by rfl, ?_⟩) HS0.out ?_
  rotate_left
  · (intro W hSW; clear hSW; go_simp)
    first | done | (with_reducible rfl)
  try simp only [Act.put, List.setIfInBounds_toArray, List.set_cons_zero, List.set_cons_succ]
  refine wpAnyH_take (i := 8) (oi := ⟨some 35, _, _, _, _, _⟩) (v := ?_) rfl (by kernel_rfl) (by kernel_rfl) (by kernel_rfl) (fun _ _ _ h => h) (Or.inl ⟨by rfl, ?_⟩) HS0.out ?_
  rotate_left
  · (intro W hSW; clear hSW; go_simp)
    first | done | (with_reducible rfl)
  try simp only [Act.put, List.setIfInBounds_toArray, List.set_cons_zero, List.set_cons_succ]
  refine wpAnyH_take (i := 9) (oi := ⟨some 36, _, _, _, _, _⟩) (v := ?_) rfl (by kernel_rfl) (by kernel_rfl) (by kernel_rfl) (fun _ _ _ h => h) (Or.inl ⟨by rfl, ?_⟩) HS0.out ?_
  rotate_left
  · (intro W hSW; clear hSW; go_simp)
    first | done | (with_reducible rfl)
  try simp only [Act.put, List.setIfInBounds_toArray, List.set_cons_zero, List.set_cons_succ]
  refine wpAnyH_take (i := 10) (oi := ⟨some 37, _, _, _, _, _⟩) (v := .int .i64 B) rfl (by kernel_rfl) (by kernel_rfl) (by kernel_rfl) (fun _ _ _ h => h) (Or.inl ⟨by rfl, ?_⟩) HS0.out ?_
  · (intro W hSW; have hc := hSW.cell 1; clear hSW; go_simp)
  try simp only [Act.put, List.setIfInBounds_toArray, List.set_cons_zero, List.set_cons_succ]
  refine wpAnyH_ready (rs := [5]) (by kernel_rfl) (by simp) ?_
  refine AllReadyH.cons (o := ⟨some 32, _, _, _, _, _⟩) rfl (fun K hK => ?_) AllReadyH.nil
  go_simp
  have HS1 : Hid (Blk (z.alloc (.cells #[.int .i64 L, .int .i64 (mulC r (x - m))] 2)) g 46 [.int .i64 r, .int .i64 B, .int .i64 L, .int .i64 m]) := HS0.out.alloc _
  have X1 : Hid (Below w.heap.size w (z.alloc (.cells #[.int .i64 L, .int .i64 (mulC r (x - m))] 2))) := X0.out.alloc X0.out.size _
  refine hK.out _ _ ?_ (fun _ => ?_)
  · exact HS1.out
  clear hK K
  try simp only [Act.put, List.setIfInBounds_toArray, List.set_cons_zero, List.set_cons_succ]
  refine wpAnyH_ready (rs := [6]) (by kernel_rfl) (by simp) ?_
  refine AllReadyH.cons (o := ⟨some 33, _, _, _, _, _⟩) rfl (fun K hK => ?_) AllReadyH.nil
  go_simp
  refine (add2_lev L (mulC r (x - m)) z hL0 (by omega) hm.1 hm.2).mono ?_
  rintro e w' ⟨rfl, rfl⟩
  go_simp
  refine hK.out _ _ ?_ (fun _ => ?_)
  · exact HS1.out
  clear hK K
  try simp only [Act.put, List.setIfInBounds_toArray, List.set_cons_zero, List.set_cons_succ]
  refine wpAnyH_take (i := 11) (oi := ⟨some 38, _, _, _, _, _⟩) (v := ?_) rfl (by kernel_rfl) (by kernel_rfl) (by kernel_rfl) (fun _ _ _ h => h) (Or.inl ⟨by rfl, ?_⟩) HS1.out ?_
  rotate_left
  · (intro W hSW; clear hSW; go_simp)
    first | done | (with_reducible rfl)
  try simp only [Act.put, List.setIfInBounds_toArray, List.set_cons_zero, List.set_cons_succ]
  refine wpAnyH_take (i := 12) (oi := ⟨some 4, _, _, _, _, _⟩) (v := ?_) rfl (by kernel_rfl) (by kernel_rfl) (by kernel_rfl) (fun _ _ _ h => h) (Or.inl ⟨by rfl, ?_⟩) HS1.out ?_
  rotate_left
  · (intro W hSW; clear hSW; go_simp)
    first | done | (with_reducible rfl)
  try simp only [Act.put, List.setIfInBounds_toArray, List.set_cons_zero, List.set_cons_succ]
  refine wpAnyH_done (by kernel_rfl) ?_ _
  go_wp2
  go_ret
  exact ⟨rfl, X1.out⟩
theorem at_ (g : Nat) (r B L m x : Int) (w : World) (h : TAt w g r B L m) (hx : x ≤ 9223372036854775807) :
    Calls Try.prog 14 #[.pointer (some ⟨g, 0, none⟩), .int .i64 x] w (NumOut w (lev r B L m x)) := by
  by_cases h1 : x ≤ m
  · rw [lev_old h1]
    exact at_old g r B L m x w h h1
  · exact at_new g r B L m x w h (by omega) hx
set_option maxHeartbeats 400000 in
theorem level_ (g : Nat) (r B L m x : Int) (w : World) (h : TAt w g r B L m) (hx : x ≤ 9223372036854775807) :
    Calls Try.prog 10 #[.pointer (some ⟨g, 0, none⟩), .int .i64 x] w (NumOut w (lev r B L m x / 1048576)) := by
  have H := Lib.hid h
  have hl := lev_bd (x := x) h.ok
  have hB := h.ok.b1
  clear h
  go_enter Try.func10, Try.ntmps10
  go_wp2_with (go_at_call 14; (with_reducible refine (at_ g r B L m x _ H.out hx).mono ?_); rintro e w1 ⟨rfl, hb⟩; have HB := Lib.hid hb; clear hb)
  go_ret
  exact ⟨rfl, HB.out⟩
set_option maxHeartbeats 400000 in
theorem level_nil (x : Int) (w : World) : Calls Try.prog 10 #[.pointer none, .int .i64 x] w fun e w' => e = .returned (.int .i64 0) ∧ w = w' := by
  go_enter Try.func10, Try.ntmps10
  go_wp2
  go_ret
  exact ⟨rfl, rfl⟩
set_option maxHeartbeats 400000 in
theorem take_nil (x n : Int) (w : World) : Calls Try.prog 9 #[.pointer none, .int .i64 x, .int .i64 n] w fun e w' => e = .returned (.bool false) ∧ w = w' := by
  go_enter Try.func9, Try.ntmps9
  go_wp2
  go_ret
  exact ⟨rfl, rfl⟩
/-- What New answers. -/
def NewPost (r b : Int) (w : World) (e : Ending) (w' : World) : Prop :=
  ∃ g, e = .returned (.tuple #[.pointer (some ⟨g, 0, none⟩), .int .i64 0]) ∧ TAt w' g r (b * 1048576) (b * 1048576) 0 ∧ w.heap.size ≤ g ∧ Below w.heap.size w w'
theorem new_post (r b : Int) (w : World) (h0 : 0 ≤ r) (h1 : r ≤ 1073741824) (h2 : 1 ≤ b) (h3 : b ≤ 1073741824) :
    NewPost r b w (.returned (.tuple #[.pointer (some ⟨w.heap.size, 0, none⟩), .int .i64 0])) (w.alloc (.cells #[.int .i64 r, .int .i64 (b * 1048576), .int .i64 (b * 1048576), .int .i64 0] 46)) :=
  ⟨_, rfl, ⟨Blk.new w 46 [.int .i64 r, .int .i64 (b * 1048576), .int .i64 (b * 1048576), .int .i64 0], ⟨h0, h1, by omega, by omega, by omega, by omega, by omega⟩⟩, Nat.le_refl _, (Below.refl _ _).alloc (Nat.le_refl _) _⟩
set_option maxHeartbeats 400000 in
theorem new_ (r b : Int) (w : World) (h0 : 0 ≤ r) (h1 : r ≤ 1073741824) (h2 : 1 ≤ b) (h3 : b ≤ 1073741824) : Calls Try.prog 8 #[.int .i64 r, .int .i64 b] w (NewPost r b w) := by
  have HP := Lib.hid (new_post r b w h0 h1 h2 h3)
  go_enter Try.func8, Try.ntmps8
  go_wp2
  go_ret2
  exact HP.out
/-- What New refuses. -/
def bad (r b : Int) : Bool := decide (r < 0) || decide (1073741824 < r) || decide (b < 1) || decide (1073741824 < b)
theorem bad_cases {r b : Int} (h : bad r b = true) : r < 0 ∨ 1073741824 < r ∨ b < 1 ∨ 1073741824 < b := by
  simpa [bad, or_assoc] using h
theorem bad_no {r b : Int} (h : bad r b = false) : 0 ≤ r ∧ r ≤ 1073741824 ∧ 1 ≤ b ∧ b ≤ 1073741824 := by
  simp [bad] at h
  omega
set_option maxHeartbeats 400000 in
theorem new_bad (r b : Int) (w : World) (h : bad r b = true) : Calls Try.prog 8 #[.int .i64 r, .int .i64 b] w fun e w' => e = .returned (.tuple #[.pointer none, .int .i64 1]) ∧ w = w' := by
  have h1 := bad_cases h
  clear h
  by_cases r1 : r < 0
  · clear h1
    go_enter Try.func8, Try.ntmps8
    go_wp2
    go_ret2
    exact ⟨rfl, rfl⟩
  · by_cases r2 : 1073741824 < r
    · clear h1
      go_enter Try.func8, Try.ntmps8
      go_wp2
      go_ret2
      exact ⟨rfl, rfl⟩
    · by_cases r3 : b < 1
      · clear h1
        go_enter Try.func8, Try.ntmps8
        go_wp2
        go_ret2
        exact ⟨rfl, rfl⟩
      · have r4 : 1073741824 < b := by omega
        clear h1
        go_enter Try.func8, Try.ntmps8
        go_wp2
        go_ret2
        exact ⟨rfl, rfl⟩
/-- What Take leaves. -/
def TakePost (g : Nat) (r B L m x n : Int) (w : World) (e : Ending) (w' : World) : Prop :=
  e = .returned (.bool (okT r B L m x n)) ∧ TAt w' g r B (lef r B L m x n) (max m x) ∧ Far (only g) w w'
theorem take_no (g : Nat) (r B L m x n : Int) (w w1 : World) (h : TAt w g r B L m) (hx : x ≤ 9223372036854775807) (hb : Below w.heap.size w w1) (hn : okT r B L m x n = false) :
    TakePost g r B L m x n w (.returned (.bool false)) ((w1.setCell ⟨g, 2, none⟩ (.int .i64 (lev r B L m x))).setCell ⟨g, 3, none⟩ (.int .i64 (max m x))) := by
  have ho := ok_left (x := x) (n := n) h.ok hx
  have h1 := ((h.below hb).blk.set_ 2 (.int .i64 (lev r B L m x))).set_ 3 (.int .i64 (max m x))
  rw [lef_no hn] at ho
  refine ⟨by rw [hn], ⟨?_, ?_⟩, ((Far.of_below hb (only g)).set_ (p := ⟨g, 2, none⟩) (fun _ => rfl) _).set_ (p := ⟨g, 3, none⟩) (fun _ => rfl) _⟩
  · rw [lef_no hn]; exact h1
  · rw [lef_no hn]; exact ho
theorem take_yes (g : Nat) (r B L m x n : Int) (w w1 : World) (h : TAt w g r B L m) (hx : x ≤ 9223372036854775807) (hb : Below w.heap.size w w1) (hn : okT r B L m x n = true) :
    TakePost g r B L m x n w (.returned (.bool true)) (((w1.setCell ⟨g, 2, none⟩ (.int .i64 (lev r B L m x))).setCell ⟨g, 3, none⟩ (.int .i64 (max m x))).setCell ⟨g, 2, none⟩ (.int .i64 (lev r B L m x - n * 1048576))) := by
  have ho := ok_left (x := x) (n := n) h.ok hx
  have h1 := (((h.below hb).blk.set_ 2 (.int .i64 (lev r B L m x))).set_ 3 (.int .i64 (max m x))).set_ 2 (.int .i64 (lev r B L m x - n * 1048576))
  rw [lef_yes hn] at ho
  refine ⟨by rw [hn], ⟨?_, ?_⟩, (((Far.of_below hb (only g)).set_ (p := ⟨g, 2, none⟩) (fun _ => rfl) _).set_ (p := ⟨g, 3, none⟩) (fun _ => rfl) _).set_ (p := ⟨g, 2, none⟩) (fun _ => rfl) _⟩
  · rw [lef_yes hn]; exact h1
  · rw [lef_yes hn]; exact ho
set_option maxHeartbeats 1000000 in
theorem take_ (g : Nat) (r B L m x n : Int) (w : World) (h : TAt w g r B L m) (hx : x ≤ 9223372036854775807) :
    Calls Try.prog 9 #[.pointer (some ⟨g, 0, none⟩), .int .i64 x, .int .i64 n] w (TakePost g r B L m x n w) := by
  have H := Lib.hid h
  have hq := lev_bd (x := x) h.ok
  have hB := h.ok.b1
  have hm0 := h.ok.m0
  by_cases h1 : n < 0
  · have HN := Lib.hid (ok_neg (r := r) (B := B) (L := L) (m := m) (x := x) h1)
    have HP := Lib.hid (fun w1 hb => take_no g r B L m x n w w1 h hx hb HN.out)
    obtain ⟨l, hl⟩ : ∃ l, lev r B L m x = l := ⟨_, rfl⟩
    have HL := Lib.hid hl
    rw [hl] at hq HP
    clear hl h
    go_enter Try.func9, Try.ntmps9
    go_wp2_with (go_at_call 14; (with_reducible refine (at_ g r B L m x _ H.out hx).mono ?_); rintro e w1 ⟨rfl, hb⟩; have HB := Lib.hid hb; have K1 : Hid (Blk w1 g 46 [.int .i64 r, .int .i64 B, .int .i64 L, .int .i64 m]) := (H.out.below hb).blk; have K2 : Hid (Blk (w1.setCell ⟨g, 2, none⟩ (.int .i64 l)) g 46 [.int .i64 r, .int .i64 B, .int .i64 l, .int .i64 m]) := K1.out.set_ 2 (.int .i64 l); have K3 : Hid (Blk ((w1.setCell ⟨g, 2, none⟩ (.int .i64 l)).setCell ⟨g, 3, none⟩ (.int .i64 (max m x))) g 46 [.int .i64 r, .int .i64 B, .int .i64 l, .int .i64 (max m x)]) := K2.out.set_ 3 (.int .i64 (max m x)); obtain ⟨a0, a1, a2, a3, f0, f1, f2, f3⟩ := four K1.out; obtain ⟨b0, b1, b2, b3, i0, i1, i2, i3⟩ := four K2.out; obtain ⟨c0, c1, c2, c3, j0, j1, j2, j3⟩ := four K3.out; rw [HL.out]; clear hb)
    go_ret
    exact HP.out _ HB.out
  · by_cases h2 : 1073741824 < n
    · have HN := Lib.hid (ok_big (r := r) (B := B) (L := L) (m := m) (x := x) h2)
      have HP := Lib.hid (fun w1 hb => take_no g r B L m x n w w1 h hx hb HN.out)
      obtain ⟨l, hl⟩ : ∃ l, lev r B L m x = l := ⟨_, rfl⟩
      have HL := Lib.hid hl
      rw [hl] at hq HP
      clear hl h
      go_enter Try.func9, Try.ntmps9
      go_wp2_with (go_at_call 14; (with_reducible refine (at_ g r B L m x _ H.out hx).mono ?_); rintro e w1 ⟨rfl, hb⟩; have HB := Lib.hid hb; have K1 : Hid (Blk w1 g 46 [.int .i64 r, .int .i64 B, .int .i64 L, .int .i64 m]) := (H.out.below hb).blk; have K2 : Hid (Blk (w1.setCell ⟨g, 2, none⟩ (.int .i64 l)) g 46 [.int .i64 r, .int .i64 B, .int .i64 l, .int .i64 m]) := K1.out.set_ 2 (.int .i64 l); have K3 : Hid (Blk ((w1.setCell ⟨g, 2, none⟩ (.int .i64 l)).setCell ⟨g, 3, none⟩ (.int .i64 (max m x))) g 46 [.int .i64 r, .int .i64 B, .int .i64 l, .int .i64 (max m x)]) := K2.out.set_ 3 (.int .i64 (max m x)); obtain ⟨a0, a1, a2, a3, f0, f1, f2, f3⟩ := four K1.out; obtain ⟨b0, b1, b2, b3, i0, i1, i2, i3⟩ := four K2.out; obtain ⟨c0, c1, c2, c3, j0, j1, j2, j3⟩ := four K3.out; rw [HL.out]; clear hb)
      go_ret
      exact HP.out _ HB.out
    · by_cases h3 : lev r B L m x < n * 1048576
      · have HN := Lib.hid (ok_few h3)
        have HP := Lib.hid (fun w1 hb => take_no g r B L m x n w w1 h hx hb HN.out)
        obtain ⟨l, hl⟩ : ∃ l, lev r B L m x = l := ⟨_, rfl⟩
        have HL := Lib.hid hl
        rw [hl] at hq HP h3
        clear hl h
        go_enter Try.func9, Try.ntmps9
        go_wp2_with (go_at_call 14; (with_reducible refine (at_ g r B L m x _ H.out hx).mono ?_); rintro e w1 ⟨rfl, hb⟩; have HB := Lib.hid hb; have K1 : Hid (Blk w1 g 46 [.int .i64 r, .int .i64 B, .int .i64 L, .int .i64 m]) := (H.out.below hb).blk; have K2 : Hid (Blk (w1.setCell ⟨g, 2, none⟩ (.int .i64 l)) g 46 [.int .i64 r, .int .i64 B, .int .i64 l, .int .i64 m]) := K1.out.set_ 2 (.int .i64 l); have K3 : Hid (Blk ((w1.setCell ⟨g, 2, none⟩ (.int .i64 l)).setCell ⟨g, 3, none⟩ (.int .i64 (max m x))) g 46 [.int .i64 r, .int .i64 B, .int .i64 l, .int .i64 (max m x)]) := K2.out.set_ 3 (.int .i64 (max m x)); obtain ⟨a0, a1, a2, a3, f0, f1, f2, f3⟩ := four K1.out; obtain ⟨b0, b1, b2, b3, i0, i1, i2, i3⟩ := four K2.out; obtain ⟨c0, c1, c2, c3, j0, j1, j2, j3⟩ := four K3.out; rw [HL.out]; clear hb)
        go_ret
        exact HP.out _ HB.out
      · have HN := Lib.hid (ok_some (by omega) (by omega) (show n * 1048576 ≤ lev r B L m x by omega))
        have HP := Lib.hid (fun w1 hb => take_yes g r B L m x n w w1 h hx hb HN.out)
        obtain ⟨l, hl⟩ : ∃ l, lev r B L m x = l := ⟨_, rfl⟩
        have HL := Lib.hid hl
        rw [hl] at hq HP h3
        clear hl h
        go_enter Try.func9, Try.ntmps9
        go_wp2_with (go_at_call 14; (with_reducible refine (at_ g r B L m x _ H.out hx).mono ?_); rintro e w1 ⟨rfl, hb⟩; have HB := Lib.hid hb; have K1 : Hid (Blk w1 g 46 [.int .i64 r, .int .i64 B, .int .i64 L, .int .i64 m]) := (H.out.below hb).blk; have K2 : Hid (Blk (w1.setCell ⟨g, 2, none⟩ (.int .i64 l)) g 46 [.int .i64 r, .int .i64 B, .int .i64 l, .int .i64 m]) := K1.out.set_ 2 (.int .i64 l); have K3 : Hid (Blk ((w1.setCell ⟨g, 2, none⟩ (.int .i64 l)).setCell ⟨g, 3, none⟩ (.int .i64 (max m x))) g 46 [.int .i64 r, .int .i64 B, .int .i64 l, .int .i64 (max m x)]) := K2.out.set_ 3 (.int .i64 (max m x)); obtain ⟨a0, a1, a2, a3, f0, f1, f2, f3⟩ := four K1.out; obtain ⟨b0, b1, b2, b3, i0, i1, i2, i3⟩ := four K2.out; obtain ⟨c0, c1, c2, c3, j0, j1, j2, j3⟩ := four K3.out; rw [HL.out]; clear hb)
        go_ret
        exact HP.out _ HB.out
end Go.Proofs.Ytbmapegfodomaaa
