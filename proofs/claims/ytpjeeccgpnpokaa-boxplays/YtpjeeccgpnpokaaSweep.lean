/- The contracts of the document's clamp, Sweep and Find. Conditions: those of each theorem. -/
import Derived.Test.YtpjeeccgpnpokaaSteps
namespace Go.Proofs.Ytpjeeccgpnpokaa
open Go.RowKit

set_option maxHeartbeats 400000 in
theorem clamp_ (x : Int) (w : World) : Calls Try.prog 28 #[.int .i64 x] w fun e w' => e = .returned (.int .i64 (clm x)) ∧ ∃ m, w' = w.drewN m := by
  go_enter Try.func28, Try.ntmps28
  by_cases h : x < 0
  · have e : clm x = 0 := by unfold clm; rw [if_pos h]
    rw [e]
    go_wp2
    go_ret
    exact ⟨rfl, 0, rfl⟩
  · have e : clm x = x := by unfold clm; rw [if_neg h]
    rw [e]
    go_wp2
    go_ret
    exact ⟨rfl, 0, rfl⟩
/-- Two new blocks: the box that came, the answer. -/
theorem two_bx (A : Option Addr) (n c : Nat) (C : Cfg) (w : World) : Blk ((w.alloc (.cells (bcs A n c C).toArray 37)).alloc (.cells #[.slice none 0 0, .int .i64 0, .int .i64 0, .int .i64 0, .int .i64 0] 37)) w.heap.size 37 (bcs A n c C) ∧ Blk ((w.alloc (.cells (bcs A n c C).toArray 37)).alloc (.cells #[.slice none 0 0, .int .i64 0, .int .i64 0, .int .i64 0, .int .i64 0] 37)) (w.heap.size + 1) 37 (bcs none 0 0 ⟨0, 0, 0, 0⟩) ∧ Below w.heap.size w ((w.alloc (.cells (bcs A n c C).toArray 37)).alloc (.cells #[.slice none 0 0, .int .i64 0, .int .i64 0, .int .i64 0, .int .i64 0] 37)) := by
  refine ⟨(Blk.new w 37 _).alloc _, ?_, ((Below.refl _ w).alloc (Nat.le_refl _) _).alloc (by simp) _⟩
  have := Blk.new (w.alloc (.cells (bcs A n c C).toArray 37)) 37 (bcs none 0 0 ⟨0, 0, 0, 0⟩)
  rwa [show (w.alloc (.cells (bcs A n c C).toArray 37)).heap.size = w.heap.size + 1 by simp] at this
theorem swp_next {L : List Ent} {k : Nat} (h : k < L.length) (x : Int) : swp (L.take (k + 1)) x = swp (L.take k) x ++ (if clm x < (at_ L k).u then [at_ L k] else []) := by
  rw [List.take_add_one, at_some h]
  simp only [swp, List.filter_append, Option.toList]
  congr 1
  by_cases hc : clm x < (at_ L k).u <;> simp [hc]
theorem range_u {w : World} {b o : Nat} {r c : Int} {s : Ent} (h : w.rangeAt b o (s.cs r c)) : w.cell? ⟨b, o + 8, none⟩ = some (.int .i64 s.u) := h 8 _ rfl
set_option maxRecDepth 4000 in
set_option maxHeartbeats 2000000 in
theorem sweep_ (A : Option Addr) (c : Nat) (L : List Ent) (C : Cfg) (x : Int) (w : World) (h : Els (kEnt C.r C.b) w A L) (hl : L.length ≤ 1000) :
    Calls Try.prog 12 #[bx A L.length c C, .int .i64 x] w (BRes (swp L x) C (fun v => v) w) := by
  obtain ⟨n, hn⟩ : ∃ n, L.length = n := ⟨_, rfl⟩
  obtain ⟨n1, n2, n3⟩ := two_bx A n c C w
  have N1 := Lib.hid n1
  have N2 := Lib.hid n2
  have W0 := Lib.hid n3
  have H := Lib.hid (h.below n3)
  have HN := Lib.hid hn
  rw [hn] at hl ⊢
  clear hn h n1 n2 n3
  go_enter Try.func12, Try.ntmps12
  go_upto_region 1 with fail
  generalize ((w.alloc (.cells (bcs A n c C).toArray 37)).alloc (.cells #[.slice none 0 0, .int .i64 0, .int .i64 0, .int .i64 0, .int .i64 0] 37)) = x1 at *
  have c0 : x1.cell? ⟨w.heap.size, 0, none⟩ = some (.slice A n c) := N1.out.cell 0
  go_wp2_with fail
  go_loopw [5, 6, 10] (fun v _ i w' => ∃ k : Nat, k ≤ n ∧ i = .int .i64 k ∧ Ow (kEnt C.r C.b) 77 x1.heap.size v (swp (L.take k) x) w' ∧ Below x1.heap.size x1 w') (fun _ _ i _ => n - (intOf i).toNat)
  case atStart => exact ⟨0, by omega, rfl, Ow.nil, Below.refl _ _⟩
  case round =>
    clear c0
    obtain ⟨k, hk, rfl, ho, hbe⟩ := hrel
    have W2 := Lib.hid hbe
    have O2 := Lib.hid ho
    clear hbe ho
    by_cases hlt : k < n
    · have hkL : k < L.length := by rw [HN.out]; exact hlt
      obtain ⟨q, o, hA, hs0⟩ := (H.out.below W2.out) k _ (at_some hkL)
      subst hA
      have HS := Lib.hid hs0
      have hz := W2.out.size
      have c0 : ∀ N, (wr.drewN N).cell? ⟨w.heap.size, 0, none⟩ = some (.slice (some ⟨q, o, none⟩) n c) := fun N => (N1.out.below W2.out).cell 0
      have c1 : ∀ N, (wr.drewN N).cell? ⟨q, o + k * 13 + 8, none⟩ = some (.int .i64 (at_ L k).u) := fun N => range_u hs0
      have HX := Lib.hid (swp_next hkL x)
      have SN := Lib.hid (fun N => Calls.quiet_of (clamp_ x (wr.drewN N)))
      obtain ⟨u, hu⟩ : ∃ u, (at_ L k).u = u := ⟨_, rfl⟩
      rw [hu] at HX c1
      clear hs0 hu
      obtain ⟨z, hz2⟩ : ∃ z, clm x = z := ⟨_, rfl⟩
      rw [hz2] at SN HX
      clear hz2
      by_cases hc : z < u
      · rw [if_pos hc] at HX
        go_upto_region 5 with fail
        go_quiet ((go_at_call 28; with_reducible exact SN.out _))
        have W3 : Hid (Below x1.heap.size x1 (wr.drewN nq)) := below_drewN W2.out nq
        have O3 : Hid (Ow (kEnt C.r C.b) 77 x1.heap.size u5 (swp (L.take k) x) (wr.drewN nq)) := O2.out.below (below_drewN (Below.refl _ _) nq)
        have HS3 : Hid ((wr.drewN nq).rangeAt q (o + k * 13) ((at_ L k).cs C.r C.b)) := HS.out
        have c2 := c0 nq
        have hz3 := W3.out.size
        have hlen := swp_len (L.take k) x
        rw [List.length_take, HN.out] at hlen
        clear c0 c1 HS SN W2 O2
        generalize wr.drewN nq = w3 at *
        generalize at_ L k = s at *
        have hb4 : Below w3.heap.size w3 (w3.alloc (.cells (s.cs C.r C.b).toArray 77)) := (Below.refl _ _).alloc (Nat.le_refl _) _
        obtain ⟨v4, w4, hrun, o4, g4, b4⟩ := run_app (P := Try.prog) (R := [s]) (w3.alloc (.cells (s.cs C.r C.b).toArray 77)) 35 35 (.agg (ent0.cs 0 0).toArray) 48 Try.underlying35 (info77 C.r C.b) rfl (by omega) (O3.out.below hb4) (Els.of_blk (K := kEnt C.r C.b) (Blk.new w3 77 (s.cs C.r C.b))) 1 (by simp; omega) (by simp; omega)
        rw [← HX.out] at o4
        have O4 := Lib.hid o4
        have W4 : Hid (Below x1.heap.size x1 w4) := (W3.out.trans (hb4.mono hz3)).trans ((Far.grown (S := fun k => x1.heap.size ≤ k) (Far.refl _ _) g4 (fun k hk _ => (O3.out.lt k hk).1)).below (by simp; omega) (fun k hk e => by omega))
        rw [show ([s] : List Ent).length = 1 from rfl] at hrun
        clear o4 g4 b4 hb4
        go_upto_region 6 with fail
        go_upto_region 7 with (first | (refine wpList_loadE (by rfl) 77 _ Try.underlying77 rfl (.tmp 26) rfl q (o + k * 13) rfl _ HS3.out (size77 _ _ _) ?_) | (refine wpList_onee rfl (.tmp 27) rfl C.r C.b s rfl ?_) | (at_builtin; refine wpList_app rfl 35 (.tmp 22) (.tmp 28) rfl _ _ _ rfl rfl hrun ?_; clear hrun))
        go_wp2_with fail
        go_roundw
        case rel => exact ⟨k + 1, by omega, by go_num, O4.out, W4.out⟩
        case measure => simp [intOf]; omega
      · rw [if_neg hc, List.append_nil] at HX
        go_upto_region 5 with fail
        go_quiet ((go_at_call 28; with_reducible exact SN.out _))
        go_wp2_with fail
        go_roundw
        case rel => exact ⟨k + 1, by omega, by go_num, HX.out ▸ (O2.out.below (below_drewN (Below.refl _ _) _)), below_drewN W2.out _⟩
        case measure => simp [intOf]; omega
    · have hkn : k = n := by omega
      have hlt2 := O2.out.lt
      obtain ⟨A', c', hv, hc', _, E', ho', _⟩ := O2.out.els
      have hfr : Fresh w wr A' := Fresh.own ho' hlt2 W0.out.size
      rw [hkn, List.take_of_length_le (by rw [HN.out]; omega)] at hv hc' E'
      have hN := N1.out.below W2.out
      have hM := N2.out.below W2.out
      have B2 : Below w.heap.size w wr := W0.out.trans (W2.out.mono W0.out.size)
      have d0 : wr.cell? ⟨w.heap.size, 0, none⟩ = some (.slice A n c) := hN.cell 0
      have d1 := hN.frozen 0
      have hN3 : Hid (Blk (wr.setCell ⟨w.heap.size, 0, none⟩ (.slice A' (swp L x).length c')) w.heap.size 37 (bcs A' (swp L x).length c' C)) := hN.set_ 0 _
      have hM3 : Hid (Blk (wr.setCell ⟨w.heap.size, 0, none⟩ (.slice A' (swp L x).length c')) (w.heap.size + 1) 37 (bcs none 0 0 ⟨0, 0, 0, 0⟩)) := hM.other (p := ⟨w.heap.size, 0, none⟩) (by show w.heap.size + 1 ≠ w.heap.size; omega) _
      have F3 : Far (only w.heap.size) wr (wr.setCell ⟨w.heap.size, 0, none⟩ (.slice A' (swp L x).length c')) := (Far.refl (only w.heap.size) wr).set_ (p := ⟨w.heap.size, 0, none⟩) (fun _ => rfl) _
      have FIN : Hid (∀ W, Far (only (w.heap.size + 1)) (wr.setCell ⟨w.heap.size, 0, none⟩ (.slice A' (swp L x).length c')) W → BRes (swp L x) C (fun v => v) w (.returned (bx A' (swp L x).length c' C)) W) := fun W hf => by
        have hz := W0.out.size
        have hz1 := hM.lt
        have hap : ∀ q o, A' = some ⟨q, o, none⟩ → x1.heap.size ≤ q := fun q o e => (hlt2 q (by rw [ho', e]; rfl)).1
        have hz2 := N2.out.lt
        have E3 := (E'.far F3 (fun q o e n => by have := hap q o e; have e2 : q = w.heap.size := n; omega)).far hf (fun q o e n => by have := hap q o e; have e2 : q = w.heap.size + 1 := n; omega)
        have B3 : Below w.heap.size w W := (B2.trans (F3.below B2.size (fun k hk e => by have e2 : k = w.heap.size := e; omega))).trans (hf.below (by have := F3.size; omega) (fun k hk e => by have e2 : k = w.heap.size + 1 := e; omega))
        exact ⟨A', c', rfl, hc', E3, B3, hfr.later (Nat.le_trans F3.size hf.size)⟩
      have hall : (bcs A' (swp L x).length c' C).toArray.all (·.oneCell') = true := all_oneCell_toArray (bcs_each _ _ _ _)
      subst hv
      clear hlt2 hc' E' ho' hfr hN hM B2 F3 H W2 O2 hkn
      generalize (swp L x).length = m at *
      go_upto_region 9 with fail
      generalize wr.setCell ⟨w.heap.size, 0, none⟩ (.slice A' m c') = w3 at *
      go_wp2_with (first | (refine wpList_loadE (by rfl) 37 _ Try.underlying37 rfl (.tmp 2) rfl w.heap.size 0 rfl _ (whole_at hN3.out) size37 ?_) | (refine wpList_lay rfl 37 5 size37 (.tmp 4) (.tmp 33) rfl _ (bcs A' m c' C) rfl rfl 37 _ hM3.out rfl rfl hall ?_; intro w4 hB4 hF4; have hv := load_bx hB4.out rfl; have FIN4 := Lib.hid (FIN.out w4 hF4.out)))
      refine bodyPost_ret (v := bx A' m c' C) (by simp [results, Try.results12, asAddr, Act.put, hv]) rfl FIN4.out
end Go.Proofs.Ytpjeeccgpnpokaa
