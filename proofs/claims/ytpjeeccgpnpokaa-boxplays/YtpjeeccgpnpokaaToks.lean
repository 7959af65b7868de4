/- The contracts of package token's calls. Conditions: those of each theorem. -/
import Derived.Test.YtpjeeccgpnpokaaProgs
import Derived.Lib.MinMax
namespace Go.Proofs.Ytpjeeccgpnpokaa
open Go.RowKit

/-- Tokens at block g. -/
def TAt (w : World) (g : Nat) (r B L m : Int) : Prop := Blk w g 87 [.int .i64 r, .int .i64 B, .int .i64 L, .int .i64 m] ∧ Ok r B L m
section
variable {w w' : World} {g : Nat} {r B L m : Int}
theorem TAt.far {T : Nat → Prop} (h : TAt w g r B L m) (hf : Far T w w') (h1 : ¬ T g) : TAt w' g r B L m := ⟨h.1.far hf h1, h.2⟩
theorem TAt.below (h : TAt w g r B L m) (hb : Below w.heap.size w w') : TAt w' g r B L m := h.far (Far.of_below hb nobody) (fun e => e)
theorem TAt.drew (h : TAt w g r B L m) : TAt w.drew g r B L m := h
theorem TAt.drewN (h : TAt w g r B L m) (N : Nat) : TAt (w.drewN N) g r B L m := h
theorem TAt.blk (h : TAt w g r B L m) : Blk w g 87 [.int .i64 r, .int .i64 B, .int .i64 L, .int .i64 m] := h.1
theorem TAt.ok (h : TAt w g r B L m) : Ok r B L m := h.2
end
/-- What a call that answers a number leaves. -/
def NumOut (w : World) (z : Int) (e : Ending) (w' : World) : Prop := e = .returned (.int .i64 z) ∧ Below w.heap.size w w'

set_option maxHeartbeats 400000 in
theorem kat_old (g : Nat) (r B L m x : Int) (w : World) (h : TAt w g r B L m) (hx : x ≤ m) :
    Calls Try.prog 38 #[.pointer (some ⟨g, 0, none⟩), .int .i64 x] w (NumOut w L) := by
  have HB := Lib.hid (Below.refl w.heap.size w)
  obtain ⟨c0, c1, c2, c3, f0, f1, f2, f3⟩ := four h.blk
  clear h
  go_enter Try.func38, Try.ntmps38
  go_wp2
  go_ret
  exact ⟨rfl, HB.out⟩
/-- Add of two numbers, as at lays them out. -/
theorem add2_lev (L y : Int) (w : World) (h0 : 0 ≤ L) (h1 : L ≤ 4611686018427387904) (h2 : 0 ≤ y) (h3 : y ≤ 4611686018427387904) :
    Calls Try.prog 36 #[.slice (some ⟨w.heap.size, 0, none⟩) 2 2] (w.alloc (.cells #[.int .i64 L, .int .i64 y] 2)) fun e w' => e = .returned (.int .i64 (addC L y)) ∧ w.alloc (.cells #[.int .i64 L, .int .i64 y] 2) = w' := by
  have := add2_any L y w w.heap.size 2 rfl
  rw [sumF_two, cnt_id h0 h1, cnt_id h2 h3] at this
  exact this
set_option maxHeartbeats 1000000 in
theorem kat_new (g : Nat) (r B L m x : Int) (w : World) (h : TAt w g r B L m) (hx : m < x) (hx' : x ≤ 9223372036854775807) :
    Calls Try.prog 38 #[.pointer (some ⟨g, 0, none⟩), .int .i64 x] w (NumOut w (lev r B L m x)) := by
  obtain ⟨hr0, hr1, hB1, hL0, hL1, hm0, hm1⟩ := h.ok
  rw [lev_new hx]
  have H := Lib.hid h.blk
  obtain ⟨c0, c1, c2, c3, f0, f1, f2, f3⟩ := four h.blk
  have hm := mulC_bd r (x - m)
  have ha := addC_bd (a := L) (b := mulC r (x - m)) hL0 hm.1
  clear h
  go_enter Try.func38, Try.ntmps38
  go_wp2
  clear c0 c1 c2 c3 f0 f1 f2 f3
  refine wp_region_held_drew (S := fun W => Blk W g 87 [.int .i64 r, .int .i64 B, .int .i64 L, .int .i64 m]) (by kernel_rfl) ?_ (fun _ => ?_)
  · exact H.out
  have HS0 : Hid (Blk w.drew g 87 [.int .i64 r, .int .i64 B, .int .i64 L, .int .i64 m]) := H.out
  have B0 : Hid (Below w.heap.size w w.drew) := below_drewN (Below.refl _ w) 1
  generalize w.drew = y at *
  refine wpAnyH_take (i := 0) (oi := ⟨some 16, _, _, _, _, _⟩) (v := ?_) rfl (by kernel_rfl) (by kernel_rfl) (by kernel_rfl) (fun _ _ _ h => h) (Or.inl ⟨by rfl, ?_⟩) HS0.out ?_
  rotate_left
  · (intro W hSW; clear hSW; go_simp)
    first | done | (with_reducible rfl)
  try simp only [Act.put, List.setIfInBounds_toArray, List.set_cons_zero, List.set_cons_succ]
  refine wpAnyH_take (i := 1) (oi := ⟨some 17, _, _, _, _, _⟩) (v := ?_) rfl (by kernel_rfl) (by kernel_rfl) (by kernel_rfl) (fun _ _ _ h => h) (Or.inl ⟨by rfl, ?_⟩) HS0.out ?_
  rotate_left
  · (intro W hSW; clear hSW; go_simp)
    first | done | (with_reducible rfl)
  try simp only [Act.put, List.setIfInBounds_toArray, List.set_cons_zero, List.set_cons_succ]
  refine wpAnyH_take (i := 2) (oi := ⟨some 18, _, _, _, _, _⟩) (v := ?_) rfl (by kernel_rfl) (by kernel_rfl) (by kernel_rfl) (fun _ _ _ h => h) (Or.inl ⟨by rfl, ?_⟩) HS0.out ?_
  rotate_left
  · (intro W hSW; clear hSW; go_simp)
    first | done | (with_reducible rfl)
  try simp only [Act.put, List.setIfInBounds_toArray, List.set_cons_zero, List.set_cons_succ]
  refine wpAnyH_take (i := 3) (oi := ⟨some 19, _, _, _, _, _⟩) (v := .int .i64 r) rfl (by kernel_rfl) (by kernel_rfl) (by kernel_rfl) (fun _ _ _ h => h) (Or.inl ⟨by rfl, ?_⟩) HS0.out ?_
  · (intro W hSW; have hc := hSW.cell 0; clear hSW; go_simp)
  try simp only [Act.put, List.setIfInBounds_toArray, List.set_cons_zero, List.set_cons_succ]
  refine wpAnyH_take (i := 4) (oi := ⟨some 20, _, _, _, _, _⟩) (v := ?_) rfl (by kernel_rfl) (by kernel_rfl) (by kernel_rfl) (fun _ _ _ h => h) (Or.inl ⟨by rfl, ?_⟩) HS0.out ?_
  rotate_left
  · (intro W hSW; clear hSW; go_simp)
    first | done | (with_reducible rfl)
  try simp only [Act.put, List.setIfInBounds_toArray, List.set_cons_zero, List.set_cons_succ]
  refine wpAnyH_take (i := 5) (oi := ⟨some 21, _, _, _, _, _⟩) (v := ?_) rfl (by kernel_rfl) (by kernel_rfl) (by kernel_rfl) (fun _ _ _ h => h) (Or.inl ⟨by rfl, ?_⟩) HS0.out ?_
  rotate_left
  · (intro W hSW; clear hSW; go_simp)
    first | done | (with_reducible rfl)
  try simp only [Act.put, List.setIfInBounds_toArray, List.set_cons_zero, List.set_cons_succ]
  refine wpAnyH_take (i := 6) (oi := ⟨some 22, _, _, _, _, _⟩) (v := ?_) rfl (by kernel_rfl) (by kernel_rfl) (by kernel_rfl) (fun _ _ _ h => h) (Or.inl ⟨by rfl, ?_⟩) HS0.out ?_
  rotate_left
  · (intro W hSW; clear hSW; go_simp)
    first | done | (with_reducible rfl)
  try simp only [Act.put, List.setIfInBounds_toArray, List.set_cons_zero, List.set_cons_succ]
  refine wpAnyH_take (i := 7) (oi := ⟨some 23, _, _, _, _, _⟩) (v := ?_) rfl (by kernel_rfl) (by kernel_rfl) (by kernel_rfl) (fun _ _ _ h => h) (Or.inl ⟨by rfl, ?_⟩) HS0.out ?_
  rotate_left
  · (intro W hSW; clear hSW; go_simp)
    first | done | (with_reducible rfl)
  try simp only [Act.put, List.setIfInBounds_toArray, List.set_cons_zero, List.set_cons_succ]
  refine wpAnyH_take (i := 8) (oi := ⟨some 24, _, _, _, _, _⟩) (v := .int .i64 m) rfl (by kernel_rfl) (by kernel_rfl) (by kernel_rfl) (fun _ _ _ h => h) (Or.inl ⟨by rfl, ?_⟩) HS0.out ?_
  · (intro W hSW; have hc := hSW.cell 3; clear hSW; go_simp)
  try simp only [Act.put, List.setIfInBounds_toArray, List.set_cons_zero, List.set_cons_succ]
  refine wpAnyH_take (i := 9) (oi := ⟨some 25, _, _, _, _, _⟩) (v := .int .i64 (x - m)) rfl (by kernel_rfl) (by kernel_rfl) (by kernel_rfl) (fun _ _ _ h => h) (Or.inl ⟨by rfl, ?_⟩) HS0.out ?_
  · (intro W hSW; clear hSW; go_simp)
    (rw [IntKind.wrap_i64]; omega)
  try simp only [Act.put, List.setIfInBounds_toArray, List.set_cons_zero, List.set_cons_succ]
  refine wpAnyH_ready (rs := [10]) (by kernel_rfl) (by simp) ?_
  refine AllReadyH.cons (o := ⟨some 26, _, _, _, _, _⟩) rfl (fun K hK => ?_) AllReadyH.nil
  go_simp
  refine (mul_any _ _ _).mono ?_
  rintro e w' ⟨rfl, rfl⟩
  go_simp
  refine hK.out _ _ ?_ (fun _ => ?_)
  · exact HS0.out
  clear hK K
  try simp only [Act.put, List.setIfInBounds_toArray, List.set_cons_zero, List.set_cons_succ]
  refine wpAnyH_take (i := 11) (oi := ⟨some 5, _, _, _, _, _⟩) (v := ?_) rfl (by kernel_rfl) (by kernel_rfl) (by kernel_rfl) (fun _ _ _ h => h) (Or.inl ⟨by rfl, ?_⟩) HS0.out ?_
  rotate_left
  · (intro W hSW; clear hSW; go_simp)
    first | done | (with_reducible rfl)
  try simp only [Act.put, List.setIfInBounds_toArray, List.set_cons_zero, List.set_cons_succ]
  refine wpAnyH_done (by kernel_rfl) ?_ _
  go_wp2_with fail
  have H1 : Hid (Blk y g 87 [.int .i64 r, .int .i64 B, .int .i64 L, .int .i64 m]) := HS0.out
  refine wp_region_held_drew (S := fun W => Blk W g 87 [.int .i64 r, .int .i64 B, .int .i64 L, .int .i64 m]) (by kernel_rfl) ?_ (fun _ => ?_)
  · exact H1.out
  clear HS0
  have HS0 : Hid (Blk y.drew g 87 [.int .i64 r, .int .i64 B, .int .i64 L, .int .i64 m]) := H1.out
  have X0 : Hid (Below w.heap.size w y.drew) := B0.out.drew
  clear H1 B0
  generalize y.drew = z at *
  refine wpAnyH_take (i := 0) (oi := ⟨some 27, _, _, _, _, _⟩) (v := ?_) rfl (by kernel_rfl) (by kernel_rfl) (by kernel_rfl) (fun _ _ _ h => h) (Or.inl ⟨by rfl, ?_⟩) HS0.out ?_
  rotate_left
  · (intro W hSW; clear hSW; go_simp)
    first | done | (with_reducible rfl)
  try simp only [Act.put, List.setIfInBounds_toArray, List.set_cons_zero, List.set_cons_succ]
  refine wpAnyH_take (i := 1) (oi := ⟨some 28, _, _, _, _, _⟩) (v := ?_) rfl (by kernel_rfl) (by kernel_rfl) (by kernel_rfl) (fun _ _ _ h => h) (Or.inl ⟨by rfl, ?_⟩) HS0.out ?_
  rotate_left
  · (intro W hSW; clear hSW; go_simp)
    first | done | (with_reducible rfl)
  try simp only [Act.put, List.setIfInBounds_toArray, List.set_cons_zero, List.set_cons_succ]
  refine wpAnyH_take (i := 2) (oi := ⟨some 29, _, _, _, _, _⟩) (v := ?_) rfl (by kernel_rfl) (by kernel_rfl) (by kernel_rfl) (fun _ _ _ h => h) (Or.inl ⟨by rfl, ?_⟩) HS0.out ?_
  rotate_left
  · (intro W hSW; clear hSW; go_simp)
    first | done | (with_reducible rfl)
  try simp only [Act.put, List.setIfInBounds_toArray, List.set_cons_zero, List.set_cons_succ]
  refine wpAnyH_take (i := 3) (oi := ⟨some 30, _, _, _, _, _⟩) (v := .int .i64 L) rfl (by kernel_rfl) (by kernel_rfl) (by kernel_rfl) (fun _ _ _ h => h) (Or.inl ⟨by rfl, ?_⟩) HS0.out ?_
  · (intro W hSW; have hc := hSW.cell 2; clear hSW; go_simp)
  try simp only [Act.put, List.setIfInBounds_toArray, List.set_cons_zero, List.set_cons_succ]
  refine wpAnyH_take (i := 4) (oi := ⟨some 31, _, _, _, _, _⟩) (v := ?_) rfl (by kernel_rfl) (by kernel_rfl) (by kernel_rfl) (fun _ _ _ h => h) (Or.inl ⟨by rfl, ?_⟩) HS0.out ?_
  rotate_left
  · (intro W hSW; clear hSW; go_simp)
    first | done | (with_reducible rfl)
  try simp only [Act.put, List.setIfInBounds_toArray, List.set_cons_zero, List.set_cons_succ]
  refine wpAnyH_take (i := 7) (oi := ⟨some 34, _, _, _, _, _⟩) (v := ?_) rfl (by kernel_rfl) (by kernel_rfl) (by kernel_rfl) (fun _ _ _ h => h) (Or.inl ⟨by rfl, ?_⟩) HS0.out ?_
  rotate_left
  · (intro W hSW; clear hSW; go_simp)
    first | done | (with_reducible rfl)
  try simp only [Act.put, List.setIfInBounds_toArray, List.set_cons_zero, List.set_cons_succ]
  refine wpAnyH_take (i := 8) (oi := ⟨some 35, _, _, _, _, _⟩) (v := ?_) rfl (by kernel_rfl) (by kernel_rfl) (by kernel_rfl) (fun _ _ _ h => h) (Or.inl ⟨by rfl, ?_⟩) HS0.out ?_
  rotate_left
  · (intro W hSW; clear hSW; go_simp)
    first | done | (with_reducible rfl)
  try simp only [Act.put, List.setIfInBounds_toArray, List.set_cons_zero, List.set_cons_succ]
  refine wpAnyH_take (i := 9) (oi := ⟨some 36, _, _, _, _, _⟩) (v := ?_) rfl (by kernel_rfl) (by kernel_rfl) (by kernel_rfl) (fun _ _ _ h => h) (Or.inl ⟨by rfl, ?_⟩) HS0.out ?_
  rotate_left
  · (intro W hSW; clear hSW; go_simp)
    first | done | (with_reducible rfl)
  try simp only [Act.put, List.setIfInBounds_toArray, List.set_cons_zero, List.set_cons_succ]
  refine wpAnyH_take (i := 10) (oi := ⟨some 37, _, _, _, _, _⟩) (v := .int .i64 B) rfl (by kernel_rfl) (by kernel_rfl) (by kernel_rfl) (fun _ _ _ h => h) (Or.inl ⟨by rfl, ?_⟩) HS0.out ?_
  · (intro W hSW; have hc := hSW.cell 1; clear hSW; go_simp)
  try simp only [Act.put, List.setIfInBounds_toArray, List.set_cons_zero, List.set_cons_succ]
  refine wpAnyH_ready (rs := [5]) (by kernel_rfl) (by simp) ?_
  refine AllReadyH.cons (o := ⟨some 32, _, _, _, _, _⟩) rfl (fun K hK => ?_) AllReadyH.nil
  go_simp
  have HS1 : Hid (Blk (z.alloc (.cells #[.int .i64 L, .int .i64 (mulC r (x - m))] 2)) g 87 [.int .i64 r, .int .i64 B, .int .i64 L, .int .i64 m]) := HS0.out.alloc _
  have X1 : Hid (Below w.heap.size w (z.alloc (.cells #[.int .i64 L, .int .i64 (mulC r (x - m))] 2))) := X0.out.alloc X0.out.size _
  refine hK.out _ _ ?_ (fun _ => ?_)
  · exact HS1.out
  clear hK K
  try simp only [Act.put, List.setIfInBounds_toArray, List.set_cons_zero, List.set_cons_succ]
  refine wpAnyH_ready (rs := [6]) (by kernel_rfl) (by simp) ?_
  refine AllReadyH.cons (o := ⟨some 33, _, _, _, _, _⟩) rfl (fun K hK => ?_) AllReadyH.nil
  go_simp
  refine (add2_lev L (mulC r (x - m)) z hL0 (by omega) hm.1 hm.2).mono ?_
  rintro e w' ⟨rfl, rfl⟩
  go_simp
  refine hK.out _ _ ?_ (fun _ => ?_)
  · exact HS1.out
  clear hK K
  try simp only [Act.put, List.setIfInBounds_toArray, List.set_cons_zero, List.set_cons_succ]
  refine wpAnyH_take (i := 11) (oi := ⟨some 38, _, _, _, _, _⟩) (v := ?_) rfl (by kernel_rfl) (by kernel_rfl) (by kernel_rfl) (fun _ _ _ h => h) (Or.inl ⟨by rfl, ?_⟩) HS1.out ?_
  rotate_left
  · (intro W hSW; clear hSW; go_simp)
    first | done | (with_reducible rfl)
  try simp only [Act.put, List.setIfInBounds_toArray, List.set_cons_zero, List.set_cons_succ]
  refine wpAnyH_take (i := 12) (oi := ⟨some 4, _, _, _, _, _⟩) (v := ?_) rfl (by kernel_rfl) (by kernel_rfl) (by kernel_rfl) (fun _ _ _ h => h) (Or.inl ⟨by rfl, ?_⟩) HS1.out ?_
  rotate_left
  · (intro W hSW; clear hSW; go_simp)
    first | done | (with_reducible rfl)
  try simp only [Act.put, List.setIfInBounds_toArray, List.set_cons_zero, List.set_cons_succ]
  refine wpAnyH_done (by kernel_rfl) ?_ _
  go_wp2
  go_ret
  exact ⟨rfl, X1.out⟩
theorem kat_ (g : Nat) (r B L m x : Int) (w : World) (h : TAt w g r B L m) (hx : x ≤ 9223372036854775807) :
    Calls Try.prog 38 #[.pointer (some ⟨g, 0, none⟩), .int .i64 x] w (NumOut w (lev r B L m x)) := by
  by_cases h1 : x ≤ m
  · rw [lev_old h1]
    exact kat_old g r B L m x w h h1
  · exact kat_new g r B L m x w h (by omega) hx
set_option maxHeartbeats 400000 in
theorem ktake_nil (x n : Int) (w : World) : Calls Try.prog 31 #[.pointer none, .int .i64 x, .int .i64 n] w fun e w' => e = .returned (.bool false) ∧ w = w' := by
  go_enter Try.func31, Try.ntmps31
  go_wp2
  go_ret
  exact ⟨rfl, rfl⟩
/-- What New answers. -/
def NewPost (r b : Int) (w : World) (e : Ending) (w' : World) : Prop :=
  ∃ g, e = .returned (.tuple #[.pointer (some ⟨g, 0, none⟩), .int .i64 0]) ∧ TAt w' g r (b * 1048576) (b * 1048576) 0 ∧ w.heap.size ≤ g ∧ Below w.heap.size w w'
theorem knew_post (r b : Int) (w : World) (h0 : 0 ≤ r) (h1 : r ≤ 1073741824) (h2 : 1 ≤ b) (h3 : b ≤ 1073741824) :
    NewPost r b w (.returned (.tuple #[.pointer (some ⟨w.heap.size, 0, none⟩), .int .i64 0])) (w.alloc (.cells #[.int .i64 r, .int .i64 (b * 1048576), .int .i64 (b * 1048576), .int .i64 0] 87)) :=
  ⟨_, rfl, ⟨Blk.new w 87 [.int .i64 r, .int .i64 (b * 1048576), .int .i64 (b * 1048576), .int .i64 0], ⟨h0, h1, by omega, by omega, by omega, by omega, by omega⟩⟩, Nat.le_refl _, (Below.refl _ _).alloc (Nat.le_refl _) _⟩
set_option maxHeartbeats 400000 in
theorem knew_ (r b : Int) (w : World) (h0 : 0 ≤ r) (h1 : r ≤ 1073741824) (h2 : 1 ≤ b) (h3 : b ≤ 1073741824) : Calls Try.prog 21 #[.int .i64 r, .int .i64 b] w (NewPost r b w) := by
  have HP := Lib.hid (knew_post r b w h0 h1 h2 h3)
  go_enter Try.func21, Try.ntmps21
  go_wp2
  go_ret2
  exact HP.out
/-- What New refuses. -/
def kbad (r b : Int) : Bool := decide (r < 0) || decide (1073741824 < r) || decide (b < 1) || decide (1073741824 < b)
theorem kbad_cases {r b : Int} (h : kbad r b = true) : r < 0 ∨ 1073741824 < r ∨ b < 1 ∨ 1073741824 < b := by
  simpa [kbad, or_assoc] using h
theorem kbad_no {r b : Int} (h : kbad r b = false) : 0 ≤ r ∧ r ≤ 1073741824 ∧ 1 ≤ b ∧ b ≤ 1073741824 := by
  simp [kbad] at h
  omega
set_option maxHeartbeats 400000 in
theorem knew_bad (r b : Int) (w : World) (h : kbad r b = true) : Calls Try.prog 21 #[.int .i64 r, .int .i64 b] w fun e w' => e = .returned (.tuple #[.pointer none, .int .i64 1]) ∧ w = w' := by
  have h1 := kbad_cases h
  clear h
  by_cases r1 : r < 0
  · clear h1
    go_enter Try.func21, Try.ntmps21
    go_wp2
    go_ret2
    exact ⟨rfl, rfl⟩
  · by_cases r2 : 1073741824 < r
    · clear h1
      go_enter Try.func21, Try.ntmps21
      go_wp2
      go_ret2
      exact ⟨rfl, rfl⟩
    · by_cases r3 : b < 1
      · clear h1
        go_enter Try.func21, Try.ntmps21
        go_wp2
        go_ret2
        exact ⟨rfl, rfl⟩
      · have r4 : 1073741824 < b := by omega
        clear h1
        go_enter Try.func21, Try.ntmps21
        go_wp2
        go_ret2
        exact ⟨rfl, rfl⟩
/-- What Take leaves. -/
def TakePost (g : Nat) (r B L m x n : Int) (w : World) (e : Ending) (w' : World) : Prop :=
  e = .returned (.bool (okT r B L m x n)) ∧ TAt w' g r B (lef r B L m x n) (max m x) ∧ Far (only g) w w'
theorem ktake_no (g : Nat) (r B L m x n : Int) (w w1 : World) (h : TAt w g r B L m) (hx : x ≤ 9223372036854775807) (hb : Below w.heap.size w w1) (hn : okT r B L m x n = false) :
    TakePost g r B L m x n w (.returned (.bool false)) ((w1.setCell ⟨g, 2, none⟩ (.int .i64 (lev r B L m x))).setCell ⟨g, 3, none⟩ (.int .i64 (max m x))) := by
  have ho := ok_left (x := x) (n := n) h.ok hx
  have h1 := ((h.below hb).blk.set_ 2 (.int .i64 (lev r B L m x))).set_ 3 (.int .i64 (max m x))
  rw [lef_no hn] at ho
  refine ⟨by rw [hn], ⟨?_, ?_⟩, ((Far.of_below hb (only g)).set_ (p := ⟨g, 2, none⟩) (fun _ => rfl) _).set_ (p := ⟨g, 3, none⟩) (fun _ => rfl) _⟩
  · rw [lef_no hn]; exact h1
  · rw [lef_no hn]; exact ho
theorem ktake_yes (g : Nat) (r B L m x n : Int) (w w1 : World) (h : TAt w g r B L m) (hx : x ≤ 9223372036854775807) (hb : Below w.heap.size w w1) (hn : okT r B L m x n = true) :
    TakePost g r B L m x n w (.returned (.bool true)) (((w1.setCell ⟨g, 2, none⟩ (.int .i64 (lev r B L m x))).setCell ⟨g, 3, none⟩ (.int .i64 (max m x))).setCell ⟨g, 2, none⟩ (.int .i64 (lev r B L m x - n * 1048576))) := by
  have ho := ok_left (x := x) (n := n) h.ok hx
  have h1 := (((h.below hb).blk.set_ 2 (.int .i64 (lev r B L m x))).set_ 3 (.int .i64 (max m x))).set_ 2 (.int .i64 (lev r B L m x - n * 1048576))
  rw [lef_yes hn] at ho
  refine ⟨by rw [hn], ⟨?_, ?_⟩, (((Far.of_below hb (only g)).set_ (p := ⟨g, 2, none⟩) (fun _ => rfl) _).set_ (p := ⟨g, 3, none⟩) (fun _ => rfl) _).set_ (p := ⟨g, 2, none⟩) (fun _ => rfl) _⟩
  · rw [lef_yes hn]; exact h1
  · rw [lef_yes hn]; exact ho
set_option maxHeartbeats 1000000 in
theorem ktake_ (g : Nat) (r B L m x n : Int) (w : World) (h : TAt w g r B L m) (hx : x ≤ 9223372036854775807) :
    Calls Try.prog 31 #[.pointer (some ⟨g, 0, none⟩), .int .i64 x, .int .i64 n] w (TakePost g r B L m x n w) := by
  have H := Lib.hid h
  have hq := lev_bd (x := x) h.ok
  have hB := h.ok.b1
  have hm0 := h.ok.m0
  by_cases h1 : n < 0
  · have HN := Lib.hid (ok_neg (r := r) (B := B) (L := L) (m := m) (x := x) h1)
    have HP := Lib.hid (fun w1 hb => ktake_no g r B L m x n w w1 h hx hb HN.out)
    obtain ⟨l, hl⟩ : ∃ l, lev r B L m x = l := ⟨_, rfl⟩
    have HL := Lib.hid hl
    rw [hl] at hq HP
    clear hl h
    go_enter Try.func31, Try.ntmps31
    go_wp2_with (go_at_call 38; (with_reducible refine (kat_ g r B L m x _ H.out hx).mono ?_); rintro e w1 ⟨rfl, hb⟩; have HB := Lib.hid hb; have K1 : Hid (Blk w1 g 87 [.int .i64 r, .int .i64 B, .int .i64 L, .int .i64 m]) := (H.out.below hb).blk; have K2 : Hid (Blk (w1.setCell ⟨g, 2, none⟩ (.int .i64 l)) g 87 [.int .i64 r, .int .i64 B, .int .i64 l, .int .i64 m]) := K1.out.set_ 2 (.int .i64 l); have K3 : Hid (Blk ((w1.setCell ⟨g, 2, none⟩ (.int .i64 l)).setCell ⟨g, 3, none⟩ (.int .i64 (max m x))) g 87 [.int .i64 r, .int .i64 B, .int .i64 l, .int .i64 (max m x)]) := K2.out.set_ 3 (.int .i64 (max m x)); obtain ⟨a0, a1, a2, a3, f0, f1, f2, f3⟩ := four K1.out; obtain ⟨b0, b1, b2, b3, i0, i1, i2, i3⟩ := four K2.out; obtain ⟨c0, c1, c2, c3, j0, j1, j2, j3⟩ := four K3.out; rw [HL.out]; clear hb)
    go_ret
    exact HP.out _ HB.out
  · by_cases h2 : 1073741824 < n
    · have HN := Lib.hid (ok_big (r := r) (B := B) (L := L) (m := m) (x := x) h2)
      have HP := Lib.hid (fun w1 hb => ktake_no g r B L m x n w w1 h hx hb HN.out)
      obtain ⟨l, hl⟩ : ∃ l, lev r B L m x = l := ⟨_, rfl⟩
      have HL := Lib.hid hl
      rw [hl] at hq HP
      clear hl h
      go_enter Try.func31, Try.ntmps31
      go_wp2_with (go_at_call 38; (with_reducible refine (kat_ g r B L m x _ H.out hx).mono ?_); rintro e w1 ⟨rfl, hb⟩; have HB := Lib.hid hb; have K1 : Hid (Blk w1 g 87 [.int .i64 r, .int .i64 B, .int .i64 L, .int .i64 m]) := (H.out.below hb).blk; have K2 : Hid (Blk (w1.setCell ⟨g, 2, none⟩ (.int .i64 l)) g 87 [.int .i64 r, .int .i64 B, .int .i64 l, .int .i64 m]) := K1.out.set_ 2 (.int .i64 l); have K3 : Hid (Blk ((w1.setCell ⟨g, 2, none⟩ (.int .i64 l)).setCell ⟨g, 3, none⟩ (.int .i64 (max m x))) g 87 [.int .i64 r, .int .i64 B, .int .i64 l, .int .i64 (max m x)]) := K2.out.set_ 3 (.int .i64 (max m x)); obtain ⟨a0, a1, a2, a3, f0, f1, f2, f3⟩ := four K1.out; obtain ⟨b0, b1, b2, b3, i0, i1, i2, i3⟩ := four K2.out; obtain ⟨c0, c1, c2, c3, j0, j1, j2, j3⟩ := four K3.out; rw [HL.out]; clear hb)
      go_ret
      exact HP.out _ HB.out
    · by_cases h3 : lev r B L m x < n * 1048576
      · have HN := Lib.hid (ok_few h3)
        have HP := Lib.hid (fun w1 hb => ktake_no g r B L m x n w w1 h hx hb HN.out)
        obtain ⟨l, hl⟩ : ∃ l, lev r B L m x = l := ⟨_, rfl⟩
        have HL := Lib.hid hl
        rw [hl] at hq HP h3
        clear hl h
        go_enter Try.func31, Try.ntmps31
        go_wp2_with (go_at_call 38; (with_reducible refine (kat_ g r B L m x _ H.out hx).mono ?_); rintro e w1 ⟨rfl, hb⟩; have HB := Lib.hid hb; have K1 : Hid (Blk w1 g 87 [.int .i64 r, .int .i64 B, .int .i64 L, .int .i64 m]) := (H.out.below hb).blk; have K2 : Hid (Blk (w1.setCell ⟨g, 2, none⟩ (.int .i64 l)) g 87 [.int .i64 r, .int .i64 B, .int .i64 l, .int .i64 m]) := K1.out.set_ 2 (.int .i64 l); have K3 : Hid (Blk ((w1.setCell ⟨g, 2, none⟩ (.int .i64 l)).setCell ⟨g, 3, none⟩ (.int .i64 (max m x))) g 87 [.int .i64 r, .int .i64 B, .int .i64 l, .int .i64 (max m x)]) := K2.out.set_ 3 (.int .i64 (max m x)); obtain ⟨a0, a1, a2, a3, f0, f1, f2, f3⟩ := four K1.out; obtain ⟨b0, b1, b2, b3, i0, i1, i2, i3⟩ := four K2.out; obtain ⟨c0, c1, c2, c3, j0, j1, j2, j3⟩ := four K3.out; rw [HL.out]; clear hb)
        go_ret
        exact HP.out _ HB.out
      · have HN := Lib.hid (ok_some (by omega) (by omega) (show n * 1048576 ≤ lev r B L m x by omega))
        have HP := Lib.hid (fun w1 hb => ktake_yes g r B L m x n w w1 h hx hb HN.out)
        obtain ⟨l, hl⟩ : ∃ l, lev r B L m x = l := ⟨_, rfl⟩
        have HL := Lib.hid hl
        rw [hl] at hq HP h3
        clear hl h
        go_enter Try.func31, Try.ntmps31
        go_wp2_with (go_at_call 38; (with_reducible refine (kat_ g r B L m x _ H.out hx).mono ?_); rintro e w1 ⟨rfl, hb⟩; have HB := Lib.hid hb; have K1 : Hid (Blk w1 g 87 [.int .i64 r, .int .i64 B, .int .i64 L, .int .i64 m]) := (H.out.below hb).blk; have K2 : Hid (Blk (w1.setCell ⟨g, 2, none⟩ (.int .i64 l)) g 87 [.int .i64 r, .int .i64 B, .int .i64 l, .int .i64 m]) := K1.out.set_ 2 (.int .i64 l); have K3 : Hid (Blk ((w1.setCell ⟨g, 2, none⟩ (.int .i64 l)).setCell ⟨g, 3, none⟩ (.int .i64 (max m x))) g 87 [.int .i64 r, .int .i64 B, .int .i64 l, .int .i64 (max m x)]) := K2.out.set_ 3 (.int .i64 (max m x)); obtain ⟨a0, a1, a2, a3, f0, f1, f2, f3⟩ := four K1.out; obtain ⟨b0, b1, b2, b3, i0, i1, i2, i3⟩ := four K2.out; obtain ⟨c0, c1, c2, c3, j0, j1, j2, j3⟩ := four K3.out; rw [HL.out]; clear hb)
        go_ret
        exact HP.out _ HB.out
end Go.Proofs.Ytpjeeccgpnpokaa
