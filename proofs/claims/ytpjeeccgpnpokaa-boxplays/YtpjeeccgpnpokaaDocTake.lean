/- The contract of the document's Take. Conditions: those of each theorem. -/
import Derived.Test.YtpjeeccgpnpokaaDocs
namespace Go.Proofs.Ytpjeeccgpnpokaa
open Go.RowKit

/-- What Take leaves: both answers. -/
def DocOut (w : World) (v : Value) (k : Bool) (e : Ending) (w' : World) : Prop := e = .returned (.tuple #[v, .bool k]) ∧ Below w.heap.size w w'
abbrev put4 (w : World) (e : Nat) (r b L m : Int) : World := (((w.setCell ⟨e, 0, none⟩ (.int .i64 r)).setCell ⟨e, 1, none⟩ (.int .i64 b)).setCell ⟨e, 2, none⟩ (.int .i64 L)).setCell ⟨e, 3, none⟩ (.int .i64 m)
abbrev cells4 (r b L m : Int) : List Value := [.int .i64 r, .int .i64 b, .int .i64 L, .int .i64 m]
theorem put4_blk {w : World} {e : Nat} {r b L m r' b' L' m' : Int} (h : Blk w e 72 (cells4 r b L m)) : Blk (put4 w e r' b' L' m') e 72 (cells4 r' b' L' m') :=
  (((h.set_ 0 (.int .i64 r')).set_ 1 (.int .i64 b')).set_ 2 (.int .i64 L')).set_ 3 (.int .i64 m')
theorem put4_other {w : World} {e g : Nat} {t : TypeId} {cs : List Value} {r' b' L' m' : Int} (h : Blk w g t cs) (hn : g ≠ e) : Blk (put4 w e r' b' L' m') g t cs :=
  (((h.other (p := ⟨e, 0, none⟩) hn _).other (p := ⟨e, 1, none⟩) hn _).other (p := ⟨e, 2, none⟩) hn _).other (p := ⟨e, 3, none⟩) hn _
theorem put4_below {w0 w : World} {B e : Nat} {r' b' L' m' : Int} (h : Below B w0 w) (he : B ≤ e) : Below B w0 (put4 w e r' b' L' m') :=
  (((h.setCell he _).setCell he _).setCell he _).setCell he _
/-- Behind the call: the tokens' block, the result's block. -/
structure Two (w : World) (e : Nat) (r b L m : Int) (W : World) : Prop where
  one : Blk W e 72 (cells4 r b L m)
  res : Blk W (e + 1) 72 (cells4 0 0 0 0)
  be : Below e w W
theorem four_new (w : World) (r b L m : Int) : Two w w.heap.size r b L m ((w.alloc (.cells #[.int .i64 r, .int .i64 b, .int .i64 L, .int .i64 m] 72)).alloc (.cells #[.int .i64 0, .int .i64 0, .int .i64 0, .int .i64 0] 72)) := by
  refine ⟨(Blk.new w 72 (cells4 r b L m)).alloc _, ?_, below_two w _ _⟩
  have := Blk.new (w.alloc (.cells #[.int .i64 r, .int .i64 b, .int .i64 L, .int .i64 m] 72)) 72 (cells4 0 0 0 0)
  rwa [show (w.alloc (.cells #[.int .i64 r, .int .i64 b, .int .i64 L, .int .i64 m] 72)).heap.size = w.heap.size + 1 by simp] at this
theorem Two.turn {w W W' : World} {e : Nat} {r b L m r' b' L' m' : Int} (h : Two w e r b L m W) (hb : Below W.heap.size W W') : Two w e r' b' L' m' (put4 W' e r' b' L' m') :=
  ⟨put4_blk (h.one.below hb), put4_other (h.res.below hb) (by omega), put4_below (h.be.trans (hb.mono (Nat.le_of_lt h.one.lt))) (Nat.le_refl _)⟩

set_option maxHeartbeats 1000000 in
theorem refTake_no (r b L m x n : Int) (w : World) (h : Ok r (b * 1048576) L m) (hx' : x ≤ 9223372036854775807) (hb0 : 1 ≤ b) (hb1 : b ≤ 1073741824) (hn : okT r (b * 1048576) L m x n = false) :
    Calls Try.prog 32 #[doc r b L m, .int .i64 x, .int .i64 n] w (DocOut w (doc r b (lev r (b * 1048576) L m x) (max m x)) false) := by
  have HA := Lib.hid (fun w' => refAt_ r b L m x w' h hx' hb0 hb1)
  have hl := lev_bd (x := x) h
  obtain ⟨V, hv⟩ : ∃ V, lev r (b * 1048576) L m x = V := ⟨_, rfl⟩
  obtain ⟨M, hM⟩ : ∃ M, max m x = M := ⟨_, rfl⟩
  have T0 := Lib.hid (four_new w r b L m)
  rw [hM] at HA ⊢
  rw [hv] at HA hl ⊢
  have hcase : n < 0 ∨ 1073741824 < n ∨ (0 ≤ n ∧ n ≤ 1073741824 ∧ V / 1048576 < n) := by
    simp [okT, hv] at hn
    omega
  clear hn hv h hM
  obtain ⟨e0, he0⟩ : ∃ e0, w.heap.size = e0 := ⟨_, rfl⟩
  go_enter Try.func32, Try.ntmps32
  go_upto_region 1 with (fail)
  rw [he0] at T0
  generalize ((w.alloc (.cells #[.int .i64 r, .int .i64 b, .int .i64 L, .int .i64 m] 72)).alloc (.cells #[.int .i64 0, .int .i64 0, .int .i64 0, .int .i64 0] 72)) = W1 at *
  obtain ⟨a0, a1, a2, a3, f0, f1, f2, f3⟩ := four T0.out.one
  go_upto_region 2 with (go_at_call 39; (with_reducible refine (HA.out _).mono ?_); rintro e w2 ⟨rfl, hb⟩; obtain ⟨b0, b1, b2, b3, g0, g1, g2, g3⟩ := four (T0.out.one.below hb); have T1 : Hid (Two w e0 r b V M ((((w2.setCell ⟨e0, 0, none⟩ (.int .i64 r)).setCell ⟨e0, 1, none⟩ (.int .i64 b)).setCell ⟨e0, 2, none⟩ (.int .i64 V)).setCell ⟨e0, 3, none⟩ (.int .i64 M))) := T0.out.turn hb; clear hb)
  clear a0 a1 a2 a3 f0 f1 f2 f3 b0 b1 b2 b3 g0 g1 g2 g3 T0 HA
  generalize ((((w2.setCell ⟨e0, 0, none⟩ (.int .i64 r)).setCell ⟨e0, 1, none⟩ (.int .i64 b)).setCell ⟨e0, 2, none⟩ (.int .i64 V)).setCell ⟨e0, 3, none⟩ (.int .i64 M)) = W2 at *
  obtain ⟨a0, a1, a2, a3, f0, f1, f2, f3⟩ := four T1.out.one
  obtain ⟨b0, b1, b2, b3, g0, g1, g2, g3⟩ := four T1.out.res
  obtain ⟨r0, r1, r2, r3, _⟩ := four (put4_blk (r' := r) (b' := b) (L' := V) (m' := M) T1.out.res)
  have HBE : Hid (Below e0 w (put4 W2 (e0 + 1) r b V M)) := put4_below T1.out.be (by omega)
  rcases hcase with h1 | h1 | ⟨h1, h2, h3⟩
  all_goals
    go_wp2
    refine bodyPost_ret (v := .tuple #[doc r b V M, .bool false]) (by simp [results, Try.results32, go_sem, r0, r1, r2, r3]) rfl ⟨rfl, ?_⟩
    rw [he0]
    exact HBE.out

set_option maxHeartbeats 1000000 in
theorem refTake_yes (r b L m x n : Int) (w : World) (h : Ok r (b * 1048576) L m) (hx' : x ≤ 9223372036854775807) (hb0 : 1 ≤ b) (hb1 : b ≤ 1073741824) (hn : okT r (b * 1048576) L m x n = true) :
    Calls Try.prog 32 #[doc r b L m, .int .i64 x, .int .i64 n] w (DocOut w (doc r b (lev r (b * 1048576) L m x - n * 1048576) (max m x)) true) := by
  have HA := Lib.hid (fun w' => refAt_ r b L m x w' h hx' hb0 hb1)
  have hl := lev_bd (x := x) h
  obtain ⟨V, hv⟩ : ∃ V, lev r (b * 1048576) L m x = V := ⟨_, rfl⟩
  obtain ⟨M, hM⟩ : ∃ M, max m x = M := ⟨_, rfl⟩
  have T0 := Lib.hid (four_new w r b L m)
  rw [hM] at HA ⊢
  rw [hv] at HA hl ⊢
  have hcase : 0 ≤ n ∧ n ≤ 1073741824 ∧ n ≤ V / 1048576 ∧ n * 1048576 ≤ V := by
    simp [okT, hv] at hn
    omega
  clear hn hv h hM
  obtain ⟨e0, he0⟩ : ∃ e0, w.heap.size = e0 := ⟨_, rfl⟩
  go_enter Try.func32, Try.ntmps32
  go_upto_region 1 with (fail)
  rw [he0] at T0
  generalize ((w.alloc (.cells #[.int .i64 r, .int .i64 b, .int .i64 L, .int .i64 m] 72)).alloc (.cells #[.int .i64 0, .int .i64 0, .int .i64 0, .int .i64 0] 72)) = W1 at *
  obtain ⟨a0, a1, a2, a3, f0, f1, f2, f3⟩ := four T0.out.one
  go_upto_region 2 with (go_at_call 39; (with_reducible refine (HA.out _).mono ?_); rintro e w2 ⟨rfl, hb⟩; obtain ⟨b0, b1, b2, b3, g0, g1, g2, g3⟩ := four (T0.out.one.below hb); have T1 : Hid (Two w e0 r b V M ((((w2.setCell ⟨e0, 0, none⟩ (.int .i64 r)).setCell ⟨e0, 1, none⟩ (.int .i64 b)).setCell ⟨e0, 2, none⟩ (.int .i64 V)).setCell ⟨e0, 3, none⟩ (.int .i64 M))) := T0.out.turn hb; clear hb)
  clear a0 a1 a2 a3 f0 f1 f2 f3 b0 b1 b2 b3 g0 g1 g2 g3 T0 HA
  generalize ((((w2.setCell ⟨e0, 0, none⟩ (.int .i64 r)).setCell ⟨e0, 1, none⟩ (.int .i64 b)).setCell ⟨e0, 2, none⟩ (.int .i64 V)).setCell ⟨e0, 3, none⟩ (.int .i64 M)) = W2 at *
  obtain ⟨a0, a1, a2, a3, f0, f1, f2, f3⟩ := four T1.out.one
  obtain ⟨b0, b1, b2, b3, g0, g1, g2, g3⟩ := four T1.out.res
  obtain ⟨h1, h2, h3, h4⟩ := hcase
  clear b0 b1 b2 b3 g0 g1 g2 g3
  have K' : Hid (Blk (W2.setCell ⟨e0, 2, none⟩ (.int .i64 (V - n * 1048576))) e0 72 (cells4 r b (V - n * 1048576) M)) := T1.out.one.set_ 2 (.int .i64 (V - n * 1048576))
  have KR : Hid (Blk (W2.setCell ⟨e0, 2, none⟩ (.int .i64 (V - n * 1048576))) (e0 + 1) 72 (cells4 0 0 0 0)) := T1.out.res.other (p := ⟨e0, 2, none⟩) (by simp) _
  have KB : Hid (Below e0 w (W2.setCell ⟨e0, 2, none⟩ (.int .i64 (V - n * 1048576)))) := T1.out.be.setCell (Nat.le_refl _) _
  go_upto_region 5 with (fail)
  clear a0 a1 a2 a3 f0 f1 f2 f3 h1 h2 h3
  generalize (W2.setCell ⟨e0, 2, none⟩ (.int .i64 (V - n * 1048576))) = W3 at *
  generalize (V - n * 1048576) = Z at *
  obtain ⟨i0, i1, i2, i3, j0, j1, j2, j3⟩ := four K'.out
  obtain ⟨k0, k1, k2, k3, l0, l1, l2, l3⟩ := four KR.out
  have R3 := Lib.hid (put4_blk (r' := r) (b' := b) (L' := Z) (m' := M) KR.out)
  have HBE : Hid (Below e0 w (put4 W3 (e0 + 1) r b Z M)) := put4_below KB.out (by omega)
  go_wp2
  obtain ⟨r0, r1, r2, r3, _⟩ := four R3.out
  refine bodyPost_ret (v := .tuple #[doc r b Z M, .bool true]) (by simp [results, Try.results32, go_sem, r0, r1, r2, r3]) rfl ⟨rfl, ?_⟩
  rw [he0]
  exact HBE.out

theorem refTake_ (r b L m x n : Int) (w : World) (h : Ok r (b * 1048576) L m) (hx' : x ≤ 9223372036854775807) (hb0 : 1 ≤ b) (hb1 : b ≤ 1073741824) :
    Calls Try.prog 32 #[doc r b L m, .int .i64 x, .int .i64 n] w (DocOut w (doc r b (lef r (b * 1048576) L m x n) (max m x)) (okT r (b * 1048576) L m x n)) := by
  rcases e : okT r (b * 1048576) L m x n with _ | _
  · rw [lef_no e]
    exact refTake_no r b L m x n w h hx' hb0 hb1 e
  · rw [lef_yes e]
    exact refTake_yes r b L m x n w h hx' hb0 hb1 e
end Go.Proofs.Ytpjeeccgpnpokaa
