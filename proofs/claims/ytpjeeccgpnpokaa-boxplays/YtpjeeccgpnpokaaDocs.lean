/- The contracts of the document's tokens: New, At, Take. Conditions: those of each theorem. -/
import Derived.Test.YtpjeeccgpnpokaaLev
namespace Go.Proofs.Ytpjeeccgpnpokaa
open Go.RowKit

/-- The document's tokens, as a value and as cells. -/
abbrev doc (r b L m : Int) : Value := .agg #[.int .i64 r, .int .i64 b, .int .i64 L, .int .i64 m]
theorem below_two (w : World) (x y : Obj) : Below w.heap.size w ((w.alloc x).alloc y) := ((Below.refl _ w).alloc (Nat.le_refl _) _).alloc (by simp) _
set_option maxHeartbeats 400000 in
theorem refNew_ (r b : Int) (w : World) (h2 : 1 ≤ b) (h3 : b ≤ 1073741824) :
    Calls Try.prog 27 #[.int .i64 r, .int .i64 b] w fun e w' => e = .returned (doc r b (b * 1048576) 0) ∧ Below w.heap.size w w' := by
  go_enter Try.func27, Try.ntmps27
  go_wp2
  exact bodyPost_ret (v := doc r b (b * 1048576) 0) (by simp [results, Try.results27, go_sem]) rfl ⟨rfl, (Below.refl _ _).alloc (Nat.le_refl _) _⟩
/-- What At leaves. -/
def AtOut (w : World) (v : Value) (e : Ending) (w' : World) : Prop := e = .returned v ∧ Below w.heap.size w w'
set_option maxHeartbeats 400000 in
theorem refAt_old (r b L m x : Int) (w : World) (hx : x ≤ m) :
    Calls Try.prog 39 #[doc r b L m, .int .i64 x] w (AtOut w (doc r b L m)) := by
  have HB := Lib.hid (fun x y => below_two w x y)
  go_enter Try.func39, Try.ntmps39
  go_wp2
  all_goals first | done | exact bodyPost_ret (v := doc r b L m) (by simp [results, Try.results39, go_sem]) rfl ⟨rfl, HB.out _ _⟩
set_option maxHeartbeats 1000000 in
theorem refAt_new (r b L m x : Int) (w : World) (h : Ok r (b * 1048576) L m) (hx : m < x) (hx' : x ≤ 9223372036854775807) (hb0 : 1 ≤ b) (hb1 : b ≤ 1073741824) :
    Calls Try.prog 39 #[doc r b L m, .int .i64 x] w (AtOut w (doc r b (lev r (b * 1048576) L m x) x)) := by
  obtain ⟨hr0, hr1, hB1, hL0, hL1, hm0, hm1⟩ := h
  have HB := Lib.hid (fun x y => below_two w x y)
  have hm := mulC_bd r (x - m)
  have ha := addC_bd (a := L) (b := mulC r (x - m)) hL0 hm.1
  have HE : Hid (addC (cnt L) (cnt (mulC (x - m) r)) = addC L (mulC r (x - m))) := by
    show _ = _
    rw [mulC_comm, cnt_id hL0 (by omega), cnt_id hm.1 hm.2]
  have HL := Lib.hid (lev_new (r := r) (B := b * 1048576) (L := L) hx)
  have hw : IntKind.i64.wrap (x - m) = x - m := by rw [IntKind.wrap_i64]; omega
  generalize addC L (mulC r (x - m)) = G at *
  have HV1 : Hid (b * 1048576 < G → lev r (b * 1048576) L m x = b * 1048576) := by
    intro h1
    rw [HL.out]; omega
  have HV2 : Hid (¬ b * 1048576 < G → lev r (b * 1048576) L m x = G) := by
    intro h1
    rw [HL.out]; omega
  obtain ⟨V, hv⟩ : ∃ V, lev r (b * 1048576) L m x = V := ⟨_, rfl⟩
  rw [hv] at HV1 HV2 ⊢
  clear HL hv
  go_enter Try.func39, Try.ntmps39
  go_wp2
  go_region_with (first | (go_at_call 49; (with_reducible refine (rmul_any _ _ _).mono ?_); rintro e w' ⟨rfl, rfl⟩) | (go_at_call 29; (with_reducible refine (radd_any _ _ _).mono ?_); rintro e w' ⟨rfl, rfl⟩; rw [HE.out]))
  all_goals
    by_cases h1 : b * 1048576 < G
    · have h2 := HV1.out (by omega)
      clear HV1 HV2
      subst h2
      go_wp2
      exact bodyPost_ret (v := doc r b (b * 1048576) x) (by simp [results, Try.results39, go_sem]) rfl ⟨rfl, (HB.out _ _).drew⟩
    · have h2 := HV2.out (by omega)
      clear HV1 HV2
      subst h2
      go_wp2
      exact bodyPost_ret (v := doc r b V x) (by simp [results, Try.results39, go_sem]) rfl ⟨rfl, (HB.out _ _).drew⟩
theorem refAt_ (r b L m x : Int) (w : World) (h : Ok r (b * 1048576) L m) (hx' : x ≤ 9223372036854775807) (hb0 : 1 ≤ b) (hb1 : b ≤ 1073741824) :
    Calls Try.prog 39 #[doc r b L m, .int .i64 x] w (AtOut w (doc r b (lev r (b * 1048576) L m x) (max m x))) := by
  by_cases h1 : x ≤ m
  · rw [lev_old h1, Int.max_eq_left h1]
    exact refAt_old r b L m x w h1
  · rw [Int.max_eq_right (by omega)]
    exact refAt_new r b L m x w h (by omega) hx' hb0 hb1
end Go.Proofs.Ytpjeeccgpnpokaa
