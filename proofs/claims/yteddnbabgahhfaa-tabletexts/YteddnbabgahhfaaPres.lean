/- The contract of the document's Prefixes. Conditions: those of each theorem. -/
import Derived.Test.YteddnbabgahhfaaSteps
namespace Go.Proofs.Yteddnbabgahhfaa
open Go.RowKit

theorem pres_next {L : List Ent} {k : Nat} (h : k < L.length) : pres (L.take k) ++ [(at_ L k).p] = pres (L.take (k + 1)) := by
  rw [List.take_add_one, at_some h]
  simp [pres]
set_option maxHeartbeats 1000000 in
theorem prefixes_ (A : Option Addr) (c : Nat) (L : List Ent) (w : World) (h : Els kEnt w A L) (hl : L.length ≤ 1000) : Calls Try.prog 18 #[.slice A L.length c] w (DRes kPre (pres L) w) := by
  have H := Lib.hid h
  obtain ⟨n, hn⟩ : ∃ n, L.length = n := ⟨_, rfl⟩
  have HN := Lib.hid hn
  rw [hn] at hl ⊢
  clear h hn
  go_enter Try.func18, Try.ntmps18
  go_wp2_with fail
  go_loopw [3, 4, 7] (fun v _ i w' => ∃ k : Nat, k ≤ n ∧ i = .int .i64 k ∧ Ow kPre 31 w.heap.size v (pres (L.take k)) w' ∧ Below w.heap.size w w') (fun _ _ i _ => n - (intOf i).toNat)
  case atStart => exact ⟨0, by omega, rfl, Ow.nil, Below.refl _ _⟩
  case round =>
    obtain ⟨k, hk, rfl, ho, hbe⟩ := hrel
    have W2 := Lib.hid hbe
    have O2 := Lib.hid ho
    clear hbe ho
    by_cases hlt : k < n
    · have hkL : k < L.length := by rw [HN.out]; exact hlt
      obtain ⟨q, o, rfl, hs0⟩ := H.out k _ (at_some hkL)
      have HS := Lib.hid (range_pre (range_below (vs := (at_ L k).cs) hs0 (Nat.le_refl _) W2.out))
      have HX := Lib.hid (pres_next hkL)
      have hz := W2.out.size
      generalize (at_ L k).p = p at *
      have hb3 : Below wr.heap.size wr (wr.alloc (.cells p.cs.toArray 31)) := (Below.refl _ _).alloc (Nat.le_refl _) _
      obtain ⟨v3, w3, hrun, o3, g3, b3⟩ := run_app (P := Try.prog) (R := [p]) (wr.alloc (.cells p.cs.toArray 31)) 33 33 (.agg pre0.cs.toArray) 8 Try.underlying33 info31 rfl (by decide) (O2.out.below hb3) (Els.of_blk (Blk.new wr 31 p.cs)) 1 (by simp [pres]; omega) (by simp; omega)
      rw [HX.out] at o3
      have O3 := Lib.hid o3
      have W3 : Hid (Below w.heap.size w w3) := (W2.out.trans (hb3.mono hz)).trans ((Far.grown (S := fun k => w.heap.size ≤ k) (Far.refl _ _) g3 (fun k hk _ => (O2.out.lt k hk).1)).below (by simp; omega) (fun k hk e => by omega))
      rw [show ([p] : List Pre).length = 1 from rfl] at hrun
      clear hs0 o3 g3 b3 hb3 hkL
      go_upto_region 5 with fail
      go_upto_region 6 with (first | (refine wpList_pre (by rfl) (.tmp 14) rfl q (o + k * 9) rfl p HS.out ?_) | (refine wpList_onep rfl (.tmp 15) rfl p rfl ?_) | (at_builtin; refine wpList_app rfl 33 (.tmp 10) (.tmp 16) rfl _ _ _ rfl rfl hrun ?_; clear hrun))
      go_wp2_with fail
      go_roundw
      case rel => exact ⟨k + 1, by omega, by go_num, O3.out, W3.out⟩
      case measure => simp [intOf]; omega
    · have hkn : k = n := by omega
      obtain ⟨A', c', e, hc', _, E', _, _⟩ := O2.out.els
      rw [hkn, List.take_of_length_le (by rw [HN.out]; omega)] at e hc' E'
      have FIN : Hid (DRes kPre (pres L) w (.returned (.slice A' (pres L).length c')) wr) := ⟨A', c', rfl, hc', E', W2.out⟩
      clear hc' E'
      subst e
      go_wp2
      go_ret
      exact FIN.out
end Go.Proofs.Yteddnbabgahhfaa
