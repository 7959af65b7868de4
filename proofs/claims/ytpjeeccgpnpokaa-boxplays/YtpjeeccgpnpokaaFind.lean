/- The contract of the document's Find. Conditions: those of each theorem. -/
import Derived.Test.YtpjeeccgpnpokaaSweep
namespace Go.Proofs.Ytpjeeccgpnpokaa
open Go.RowKit

/-- Two new blocks: the box that came, a prefix. -/
theorem two_bp (A : Option Addr) (n c : Nat) (C : Cfg) (p : Pre) (w : World) : Blk ((w.alloc (.cells (bcs A n c C).toArray 37)).alloc (.cells p.cs.toArray 31)) w.heap.size 37 (bcs A n c C) ∧ Blk ((w.alloc (.cells (bcs A n c C).toArray 37)).alloc (.cells p.cs.toArray 31)) (w.heap.size + 1) 31 p.cs ∧ Below w.heap.size w ((w.alloc (.cells (bcs A n c C).toArray 37)).alloc (.cells p.cs.toArray 31)) := by
  refine ⟨(Blk.new w 37 _).alloc _, ?_, ((Below.refl _ w).alloc (Nat.le_refl _) _).alloc (by simp) _⟩
  have := Blk.new (w.alloc (.cells (bcs A n c C).toArray 37)) 31 p.cs
  rwa [show (w.alloc (.cells (bcs A n c C).toArray 37)).heap.size = w.heap.size + 1 by simp] at this
theorem range_p {w : World} {b o : Nat} {r c : Int} {s : Ent} (h : w.rangeAt b o (s.cs r c)) : w.rangeAt b o s.p.cs := fun j v hv => h j v (by
  show (s.p.cs ++ _)[j]? = _
  rw [List.getElem?_append_left (List.getElem?_eq_some_iff.1 hv).1]
  exact hv)
set_option maxHeartbeats 1000000 in
theorem find_ (A : Option Addr) (c : Nat) (L : List Ent) (C : Cfg) (p : Pre) (w : World) (h : Els (kEnt C.r C.b) w A L) (ho : Oks C L) (hp : p.Ok) (hl : L.length ≤ 1000) :
    Calls Try.prog 13 #[bx A L.length c C, .agg p.cs.toArray] w fun e w' => e = .returned (.int .i64 (fnd L p)) ∧ Below w.heap.size w w' := by
  obtain ⟨n, hn⟩ : ∃ n, L.length = n := ⟨_, rfl⟩
  obtain ⟨n1, n2, n3⟩ := two_bp A n c C p w
  have N1 := Lib.hid n1
  have N2 := Lib.hid n2
  have W0 := Lib.hid n3
  have H := Lib.hid (h.below n3)
  have HN := Lib.hid hn
  have HO := Lib.hid (And.intro ho hp)
  have HI := Lib.hid (idx_le (L := L) (p := p))
  rw [hn] at hl ⊢
  clear hn h n1 n2 n3 ho hp
  go_enter Try.func13, Try.ntmps13
  go_upto_region 1 with fail
  generalize ((w.alloc (.cells (bcs A n c C).toArray 37)).alloc (.cells p.cs.toArray 31)) = x1 at *
  have c0 : x1.cell? ⟨w.heap.size, 0, none⟩ = some (.slice A n c) := N1.out.cell 0
  go_wp2_with fail
  go_loopw [5, 9] (fun _ i w' => ∃ k : Nat, k ≤ n ∧ i = .int .i64 k ∧ k ≤ idx L p ∧ Below x1.heap.size x1 w') (fun _ i _ => n - (intOf i).toNat)
  case atStart => exact ⟨0, by omega, rfl, by omega, Below.refl _ _⟩
  case round =>
    clear c0
    obtain ⟨k, hk, rfl, hki, hbe⟩ := hrel
    have W2 := Lib.hid hbe
    clear hbe
    by_cases hlt : k < n
    · have hkL : k < L.length := by rw [HN.out]; exact hlt
      obtain ⟨q, o, hA, _⟩ := (H.out.below W2.out) k _ (at_some hkL)
      subst hA
      have HC : Hid (∀ W, Below x1.heap.size x1 W → W.cell? ⟨w.heap.size, 0, none⟩ = some (.slice (some ⟨q, o, none⟩) n c)) := fun W hW => (N1.out.below hW).cell 0
      have HE : Hid (∀ W, Below x1.heap.size x1 W → W.rangeAt q (o + k * 13) (at_ L k).p.cs) := fun W hW => by
        obtain ⟨q', o', e, hr⟩ := (H.out.below hW) k _ (at_some hkL)
        cases e
        exact range_p hr
      have HP : Hid (∀ W, Below x1.heap.size x1 W → W.rangeAt (w.heap.size + 1) 0 p.cs) := fun W hW => whole_at (N2.out.below hW)
      have HQ := Lib.hid (eq_pre (HO.out.1 _ (at_mem hkL)).p HO.out.2)
      by_cases hpk : (at_ L k).p = p
      · rw [decide_eq_true hpk] at HQ
        have HV : Hid (Value.int .i64 (k : Nat) = .int .i64 (fnd L p)) := by
          show _ = _
          have e : idx L p = k := by
            rcases Nat.lt_or_ge k (idx L p) with h1 | h1
            · exact absurd hpk (idx_not h1)
            · omega
          rw [fnd_has (has_iff.2 (by rw [e]; exact hkL)), e]
        clear hpk
        go_upto_region 4 with fail
        refine wp_region_held_drew (S := fun W => Below x1.heap.size x1 W) (by kernel_rfl) ?_ (fun _ => ?_)
        · exact W2.out.drew
        have HS0 : Hid (Below x1.heap.size x1 wr.drew) := W2.out.drew
        generalize wr.drew = x2 at *
        refine wpAnyH_take (i := 0) (oi := ⟨some 12, _, _, _, _, _⟩) (v := ?_) rfl (by kernel_rfl) (by kernel_rfl) (by kernel_rfl) (fun _ _ _ h => h) (Or.inl ⟨by rfl, ?_⟩) HS0.out ?_
        rotate_left
        · (intro W hSW; clear hSW; go_simp)
          first | done | (with_reducible rfl)
        try simp only [Act.put, List.setIfInBounds_toArray, List.set_cons_zero, List.set_cons_succ]
        refine wpAnyH_take (i := 1) (oi := ⟨some 13, _, _, _, _, _⟩) (v := ?_) rfl (by kernel_rfl) (by kernel_rfl) (by kernel_rfl) (fun _ _ _ h => h) (Or.inl ⟨by rfl, ?_⟩) HS0.out ?_
        rotate_left
        · (intro W hSW; have k0 := HC.out W hSW; clear hSW; go_simp)
          first | done | (with_reducible rfl)
        try simp only [Act.put, List.setIfInBounds_toArray, List.set_cons_zero, List.set_cons_succ]
        refine wpAnyH_take (i := 2) (oi := ⟨some 14, _, _, _, _, _⟩) (v := ?_) rfl (by kernel_rfl) (by kernel_rfl) (by kernel_rfl) (fun _ _ _ h => h) (Or.inl ⟨by rfl, ?_⟩) HS0.out ?_
        rotate_left
        · (intro W hSW; clear hSW; go_simp)
          first | done | (with_reducible rfl)
        try simp only [Act.put, List.setIfInBounds_toArray, List.set_cons_zero, List.set_cons_succ]
        refine wpAnyH_take (i := 3) (oi := ⟨some 15, _, _, _, _, _⟩) (v := ?_) rfl (by kernel_rfl) (by kernel_rfl) (by kernel_rfl) (fun _ _ _ h => h) (Or.inl ⟨by rfl, ?_⟩) HS0.out ?_
        rotate_left
        · (intro W hSW; clear hSW; go_simp)
          first | done | (with_reducible rfl)
        try simp only [Act.put, List.setIfInBounds_toArray, List.set_cons_zero, List.set_cons_succ]
        refine wpAnyH_take (i := 4) (oi := ⟨some 16, _, _, _, _, _⟩) (v := ?_) rfl (by kernel_rfl) (by kernel_rfl) (by kernel_rfl) (fun _ _ _ h => h) (Or.inl ⟨by rfl, ?_⟩) HS0.out ?_
        rotate_left
        · (intro W hSW; clear hSW; go_simp)
          first | done | (with_reducible rfl)
        try simp only [Act.put, List.setIfInBounds_toArray, List.set_cons_zero, List.set_cons_succ]
        refine wpAnyH_take (i := 5) (oi := ⟨some 17, _, _, _, _, _⟩) (v := .agg (at_ L k).p.cs.toArray) rfl (by kernel_rfl) (by kernel_rfl) (by kernel_rfl) (fun _ _ _ h => h) (yields_pre (by rfl) (.tmp 16) rfl q (o + k * 13) rfl (at_ L k).p HE.out) HS0.out ?_
        try simp only [Act.put, List.setIfInBounds_toArray, List.set_cons_zero, List.set_cons_succ]
        refine wpAnyH_take (i := 6) (oi := ⟨some 18, _, _, _, _, _⟩) (v := .agg p.cs.toArray) rfl (by kernel_rfl) (by kernel_rfl) (by kernel_rfl) (fun _ _ _ h => h) (yields_pre (by rfl) (.tmp 3) rfl _ 0 rfl p HP.out) HS0.out ?_
        try simp only [Act.put, List.setIfInBounds_toArray, List.set_cons_zero, List.set_cons_succ]
        refine wpAnyH_take (i := 7) (oi := ⟨some 19, _, _, _, _, _⟩) (v := .bool true) rfl (by kernel_rfl) (by kernel_rfl) (by kernel_rfl) (fun _ _ _ h => h) (yields_eql (by rfl) 31 (by kernel_rfl) (.tmp 17) (.tmp 18) 31 rfl _ _ rfl rfl _ HQ.out) HS0.out ?_
        try simp only [Act.put, List.setIfInBounds_toArray, List.set_cons_zero, List.set_cons_succ]
        refine wpAnyH_done (by kernel_rfl) ?_ _
        go_wp2_with fail
        go_ret
        exact ⟨congrArg Ending.returned HV.out, W0.out.trans (HS0.out.mono W0.out.size)⟩
      · rw [decide_eq_false hpk] at HQ
        have HK : Hid (k + 1 ≤ idx L p) := by
          show _ ≤ _
          rcases Nat.lt_or_ge k (idx L p) with h1 | h1
          · exact h1
          · exfalso
            obtain rfl : k = idx L p := by omega
            exact hpk (idx_at hkL)
        clear hpk
        go_upto_region 4 with fail
        refine wp_region_held_drew (S := fun W => Below x1.heap.size x1 W) (by kernel_rfl) ?_ (fun _ => ?_)
        · exact W2.out.drew
        have HS0 : Hid (Below x1.heap.size x1 wr.drew) := W2.out.drew
        generalize wr.drew = x2 at *
        refine wpAnyH_take (i := 0) (oi := ⟨some 12, _, _, _, _, _⟩) (v := ?_) rfl (by kernel_rfl) (by kernel_rfl) (by kernel_rfl) (fun _ _ _ h => h) (Or.inl ⟨by rfl, ?_⟩) HS0.out ?_
        rotate_left
        · (intro W hSW; clear hSW; go_simp)
          first | done | (with_reducible rfl)
        try simp only [Act.put, List.setIfInBounds_toArray, List.set_cons_zero, List.set_cons_succ]
        refine wpAnyH_take (i := 1) (oi := ⟨some 13, _, _, _, _, _⟩) (v := ?_) rfl (by kernel_rfl) (by kernel_rfl) (by kernel_rfl) (fun _ _ _ h => h) (Or.inl ⟨by rfl, ?_⟩) HS0.out ?_
        rotate_left
        · (intro W hSW; have k0 := HC.out W hSW; clear hSW; go_simp)
          first | done | (with_reducible rfl)
        try simp only [Act.put, List.setIfInBounds_toArray, List.set_cons_zero, List.set_cons_succ]
        refine wpAnyH_take (i := 2) (oi := ⟨some 14, _, _, _, _, _⟩) (v := ?_) rfl (by kernel_rfl) (by kernel_rfl) (by kernel_rfl) (fun _ _ _ h => h) (Or.inl ⟨by rfl, ?_⟩) HS0.out ?_
        rotate_left
        · (intro W hSW; clear hSW; go_simp)
          first | done | (with_reducible rfl)
        try simp only [Act.put, List.setIfInBounds_toArray, List.set_cons_zero, List.set_cons_succ]
        refine wpAnyH_take (i := 3) (oi := ⟨some 15, _, _, _, _, _⟩) (v := ?_) rfl (by kernel_rfl) (by kernel_rfl) (by kernel_rfl) (fun _ _ _ h => h) (Or.inl ⟨by rfl, ?_⟩) HS0.out ?_
        rotate_left
        · (intro W hSW; clear hSW; go_simp)
          first | done | (with_reducible rfl)
        try simp only [Act.put, List.setIfInBounds_toArray, List.set_cons_zero, List.set_cons_succ]
        refine wpAnyH_take (i := 4) (oi := ⟨some 16, _, _, _, _, _⟩) (v := ?_) rfl (by kernel_rfl) (by kernel_rfl) (by kernel_rfl) (fun _ _ _ h => h) (Or.inl ⟨by rfl, ?_⟩) HS0.out ?_
        rotate_left
        · (intro W hSW; clear hSW; go_simp)
          first | done | (with_reducible rfl)
        try simp only [Act.put, List.setIfInBounds_toArray, List.set_cons_zero, List.set_cons_succ]
        refine wpAnyH_take (i := 5) (oi := ⟨some 17, _, _, _, _, _⟩) (v := .agg (at_ L k).p.cs.toArray) rfl (by kernel_rfl) (by kernel_rfl) (by kernel_rfl) (fun _ _ _ h => h) (yields_pre (by rfl) (.tmp 16) rfl q (o + k * 13) rfl (at_ L k).p HE.out) HS0.out ?_
        try simp only [Act.put, List.setIfInBounds_toArray, List.set_cons_zero, List.set_cons_succ]
        refine wpAnyH_take (i := 6) (oi := ⟨some 18, _, _, _, _, _⟩) (v := .agg p.cs.toArray) rfl (by kernel_rfl) (by kernel_rfl) (by kernel_rfl) (fun _ _ _ h => h) (yields_pre (by rfl) (.tmp 3) rfl _ 0 rfl p HP.out) HS0.out ?_
        try simp only [Act.put, List.setIfInBounds_toArray, List.set_cons_zero, List.set_cons_succ]
        refine wpAnyH_take (i := 7) (oi := ⟨some 19, _, _, _, _, _⟩) (v := .bool false) rfl (by kernel_rfl) (by kernel_rfl) (by kernel_rfl) (fun _ _ _ h => h) (yields_eql (by rfl) 31 (by kernel_rfl) (.tmp 17) (.tmp 18) 31 rfl _ _ rfl rfl _ HQ.out) HS0.out ?_
        try simp only [Act.put, List.setIfInBounds_toArray, List.set_cons_zero, List.set_cons_succ]
        refine wpAnyH_done (by kernel_rfl) ?_ _
        go_wp2_with fail
        go_roundw
        case rel => exact ⟨k + 1, by omega, by go_num, HK.out, HS0.out⟩
        case measure => simp [intOf]; omega
    · have HV : Hid (Value.int .i64 (-1) = .int .i64 (fnd L p)) := by
        show _ = _
        rw [fnd_not (by rw [← Bool.not_eq_true, has_iff]; have := HN.out; omega)]
      go_wp2
      go_ret
      exact ⟨congrArg Ending.returned HV.out, W0.out.trans (W2.out.mono W0.out.size)⟩
end Go.Proofs.Ytpjeeccgpnpokaa
