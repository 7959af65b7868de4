/- The contract of the document's All. Conditions: those of each theorem. -/
import Derived.Test.YtpjeeccgpnpokaaFind
namespace Go.Proofs.Ytpjeeccgpnpokaa
open Go.RowKit

theorem run_bl (A : Option Addr) (n c : Nat) (C : Cfg) (W : World) : (Instr.field 37 (bx A n c C) 0).run Try.prog W = .ok (.slice A n c) W := by
  simp [Instr.field, run_underlying Try.underlying37, part, isAgg, run_underlying Try.underlying35, asAgg, bcs]
theorem pres_next {L : List Ent} {k : Nat} (h : k < L.length) : pres (L.take k) ++ [(at_ L k).p] = pres (L.take (k + 1)) := by
  rw [List.take_add_one, at_some h]
  simp [pres]
set_option maxRecDepth 4000 in
set_option maxHeartbeats 1000000 in
theorem all_ (A : Option Addr) (c : Nat) (L : List Ent) (C : Cfg) (x : Int) (w : World) (h : Els (kEnt C.r C.b) w A L) (hl : L.length ≤ 1000) :
    Calls Try.prog 19 #[bx A L.length c C, .int .i64 x] w (DRes kPre (pres (swp L x)) w) := by
  have hb0 : Below w.heap.size w (w.alloc (.cells (bcs A L.length c C).toArray 37)) := (Below.refl _ w).alloc (Nat.le_refl _) _
  have N0 := Lib.hid (Blk.new w 37 (bcs A L.length c C))
  have W0 := Lib.hid hb0
  have HS := Lib.hid (fun W hW => sweep_ A c L C x W hW hl)
  have H := Lib.hid (h.below hb0)
  have hsl : (swp L x).length ≤ 1000 := Nat.le_trans (swp_len L x) hl
  obtain ⟨S, hS⟩ : ∃ S, swp L x = S := ⟨_, rfl⟩
  rw [hS] at HS hsl ⊢
  generalize L.length = n0 at *
  clear hS h hb0 hl
  have HR := fun A n c W => run_bl A n c C W
  go_enter Try.func19, Try.ntmps19
  go_upto_region 1 with fail
  generalize (w.alloc (.cells (bcs A n0 c C).toArray 37)) = x1 at *
  go_upto_region 3 with (first
    | (refine wpList_loadE (by rfl) 37 _ Try.underlying37 rfl (.tmp 2) rfl w.heap.size 0 rfl _ (whole_at N0.out) size37 ?_)
    | (go_at_call 12; (with_reducible refine (HS.out _ H.out).mono ?_); rintro e x2 ⟨A2, c2, rfl, hc2, hE2, hb2, hfr2⟩; have E2 := Lib.hid hE2; have W2 : Hid (Below w.heap.size w x2) := W0.out.trans (hb2.mono W0.out.size); clear hc2 hE2 hb2 hfr2))
  clear HR HS H N0 W0
  obtain ⟨n, hn⟩ : ∃ n, S.length = n := ⟨_, rfl⟩
  have HN := Lib.hid hn
  rw [hn] at hsl ⊢
  clear hn
  go_wp2_with fail
  go_loopw [5, 7, 14] (fun v _ i w' => ∃ k : Nat, k ≤ n ∧ i = .int .i64 k ∧ Ow kPre 31 x2.heap.size v (pres (S.take k)) w' ∧ Below x2.heap.size x2 w') (fun _ _ i _ => n - (intOf i).toNat)
  case atStart => exact ⟨0, by omega, rfl, Ow.nil, Below.refl _ _⟩
  case round =>
    obtain ⟨k, hk, rfl, ho, hbe⟩ := hrel
    have W3 := Lib.hid hbe
    have O3 := Lib.hid ho
    clear hbe ho
    by_cases hlt : k < n
    · have hkS : k < S.length := by rw [HN.out]; exact hlt
      obtain ⟨q, o, hA, hs0⟩ := (E2.out.below W3.out) k _ (at_some hkS)
      subst hA
      have HS := Lib.hid (range_p hs0)
      have HX := Lib.hid (pres_next hkS)
      have hz := W3.out.size
      generalize (at_ S k).p = p at *
      have hb3 : Below wr.heap.size wr (wr.alloc (.cells p.cs.toArray 31)) := (Below.refl _ _).alloc (Nat.le_refl _) _
      obtain ⟨v4, w4, hrun, o4, g4, b4⟩ := run_app (P := Try.prog) (R := [p]) (wr.alloc (.cells p.cs.toArray 31)) 33 33 (.agg pre0.cs.toArray) 8 Try.underlying33 info31 rfl (by decide) (O3.out.below hb3) (Els.of_blk (Blk.new wr 31 p.cs)) 1 (by simp [pres]; omega) (by simp; omega)
      rw [HX.out] at o4
      have O4 := Lib.hid o4
      have W4 : Hid (Below x2.heap.size x2 w4) := (W3.out.trans (hb3.mono hz)).trans ((Far.grown (S := fun k => x2.heap.size ≤ k) (Far.refl _ _) g4 (fun k hk _ => (O3.out.lt k hk).1)).below (by simp; omega) (fun k hk e => by omega))
      rw [show ([p] : List Pre).length = 1 from rfl] at hrun
      clear hs0 o4 g4 b4 hb3 hkS
      go_upto_region 6 with fail
      go_upto_region 7 with (first | (refine wpList_pre (by rfl) (.tmp 21) rfl q (o + k * 13) rfl p HS.out ?_) | (refine wpList_onep rfl (.tmp 22) rfl p rfl ?_) | (at_builtin; refine wpList_app rfl 33 (.tmp 17) (.tmp 23) rfl _ _ _ rfl rfl hrun ?_; clear hrun))
      go_wp2_with fail
      go_roundw
      case rel => exact ⟨k + 1, by omega, by go_num, O4.out, W4.out⟩
      case measure => simp [intOf]; omega
    · have hkn : k = n := by omega
      obtain ⟨A', c', e, hc', _, E', _, _⟩ := O3.out.els
      rw [hkn, List.take_of_length_le (by rw [HN.out]; omega)] at e hc' E'
      have FIN : Hid (DRes kPre (pres S) w (.returned (.slice A' (pres S).length c')) wr) := ⟨A', c', rfl, hc', E', W2.out.trans (W3.out.mono W2.out.size)⟩
      clear hc' E'
      subst e
      go_wp2
      go_ret
      exact FIN.out
end Go.Proofs.Ytpjeeccgpnpokaa
