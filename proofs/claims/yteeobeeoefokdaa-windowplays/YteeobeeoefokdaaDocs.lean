/- The contracts of the document's Find. Conditions: those of each theorem. -/
import Derived.Test.YteeobeeoefokdaaRans
namespace Go.Proofs.Yteeobeeoefokdaa
open Go.RowKit

/-- The slots L can be read at A. -/
def LAt (A : Option Addr) (L : List Slo) (w : World) : Prop := ∀ k s, L[k]? = some s → ∃ q, A = some ⟨q, 0, none⟩ ∧ w.rangeAt q (k * 10) s.cs
theorem LAt.below {A : Option Addr} {L : List Slo} {w w' : World} (h : LAt A L w) (hb : Below w.heap.size w w') : LAt A L w' := fun k p hk => by
  obtain ⟨q, e, hr⟩ := h k p hk
  exact ⟨q, e, fun j v hv => (hb.cell (World.block_lt_of_cell? w _ (hr j v hv))).trans (hr j v hv)⟩
theorem LAt.drew {A : Option Addr} {L : List Slo} {w : World} (h : LAt A L w) : LAt A L w.drew := h
/-- The document's sketch, as cells. -/
abbrev dcs (A : Option Addr) (n c M : Nat) (T : Int) : List Value := [.slice A n c, .int .i64 (M : Nat), .int .i64 T]
abbrev doc (A : Option Addr) (n c M : Nat) (T : Int) : Value := .agg (dcs A n c M T).toArray
/-- Two new blocks: the document's sketch, and a prefix. -/
theorem doc_new (A : Option Addr) (n c M : Nat) (T : Int) (p : Pre) (w : World) : Blk ((w.alloc (.cells (dcs A n c M T).toArray 38)).alloc (.cells p.cs.toArray 31)) w.heap.size 38 (dcs A n c M T) ∧ Blk ((w.alloc (.cells (dcs A n c M T).toArray 38)).alloc (.cells p.cs.toArray 31)) (w.heap.size + 1) 31 p.cs ∧ Below w.heap.size w ((w.alloc (.cells (dcs A n c M T).toArray 38)).alloc (.cells p.cs.toArray 31)) := by
  refine ⟨(Blk.new w 38 _).alloc _, ?_, ((Below.refl _ w).alloc (Nat.le_refl _) _).alloc (by simp) _⟩
  have := Blk.new (w.alloc (.cells (dcs A n c M T).toArray 38)) 31 p.cs
  rwa [show (w.alloc (.cells (dcs A n c M T).toArray 38)).heap.size = w.heap.size + 1 by simp] at this
set_option maxHeartbeats 1000000 in
theorem dfind_ (A : Option Addr) (c M : Nat) (T : Int) (L : List Slo) (p : Pre) (w : World) (h : LAt A L w) (ho : Oks L) (hp : p.Ok) (hl : L.length ≤ 1000) : Calls Try.prog 26 #[doc A L.length c M T, .agg p.cs.toArray] w (NumOut w (fnd L p)) := by
  obtain ⟨n1, n2, n3⟩ := doc_new A L.length c M T p w
  have D1 := Lib.hid n1
  have P1 := Lib.hid n2
  have W1 := Lib.hid n3
  have H := Lib.hid (h.below n3)
  have HO := Lib.hid ho
  have HP := Lib.hid hp
  have HI := Lib.hid (idx_le (L := L) (p := p))
  obtain ⟨n, hn⟩ : ∃ n, L.length = n := ⟨_, rfl⟩
  have HN := Lib.hid hn
  rw [hn] at hl D1 P1 W1 H ⊢
  clear n1 n2 n3 h hp ho hn
  go_enter Try.func26, Try.ntmps26
  go_upto_region 1 with fail
  generalize ((w.alloc (.cells (dcs A n c M T).toArray 38)).alloc (.cells p.cs.toArray 31)) = x at *
  have d0 : x.cell? ⟨w.heap.size, 0, none⟩ = some (.slice A n c) := D1.out.cell 0
  go_wp2_with fail
  go_loopw [5, 9] (fun _ i w' => ∃ k : Nat, k ≤ n ∧ i = .int .i64 k ∧ k ≤ idx L p ∧ Below x.heap.size x w') (fun _ i _ => n - (intOf i).toNat)
  case atStart => exact ⟨0, by omega, rfl, by omega, Below.refl _ _⟩
  case round =>
    obtain ⟨k, hk, rfl, hki, hbe⟩ := hrel
    have W2 := Lib.hid hbe
    clear hbe d0
    by_cases hlt : k < n
    · have HK : Hid (k < L.length) := by show _; rw [HN.out]; exact hlt
      obtain ⟨q, rfl, hs⟩ := H.out k _ (at_some HK.out)
      have OK := Lib.hid (HO.out.at_ HK.out)
      have IA := Lib.hid (fun (h : (at_ L k).p = p) => h)
      have HS : Hid (∀ W, Below x.heap.size x W → W.rangeAt q (k * 10) (at_ L k).cs) := fun W hW j v hv => (hW.cell (World.block_lt_of_cell? x _ (hs j v hv))).trans (hs j v hv)
      have W3 : Hid (Below x.heap.size x wr.drew) := W2.out.drew
      have HQ := Lib.hid (fun W => eq_pre OK.out.p HP.out W)
      have hd0 : Hid (wr.drew.cell? ⟨w.heap.size, 0, none⟩ = some (.slice (some ⟨q, 0, none⟩) n c)) := (D1.out.below W3.out).cell 0
      clear hs IA
      rcases hd : decide ((at_ L k).p = p) with _ | _
      · rw [hd] at HQ
        go_upto_region 4 with fail
        refine wp_region_held_drew (S := fun W => W.rangeAt q (k * 10) (at_ L k).cs ∧ Blk W (w.heap.size + 1) 31 p.cs ∧ W.cell? ⟨w.heap.size, 0, none⟩ = some (.slice (some ⟨q, 0, none⟩) n c)) (by kernel_rfl) ?_ (fun _ => ?_)
        · exact ⟨HS.out _ W3.out, P1.out.below W3.out, hd0.out⟩
        have HS0 : Hid (wr.drew.rangeAt q (k * 10) (at_ L k).cs ∧ Blk wr.drew (w.heap.size + 1) 31 p.cs ∧ wr.drew.cell? ⟨w.heap.size, 0, none⟩ = some (.slice (some ⟨q, 0, none⟩) n c)) := ⟨HS.out _ W3.out, P1.out.below W3.out, hd0.out⟩
        refine wpAnyH_take (i := 0) (oi := ⟨some 12, _, _, _, _, _⟩) (v := ?_) rfl (by kernel_rfl) (by kernel_rfl) (by kernel_rfl) (fun _ _ _ h => h) (Or.inl ⟨by rfl, ?_⟩) HS0.out ?_
        rotate_left
        · (intro W hSW; clear hSW; go_simp)
          first | done | (with_reducible rfl)
        try simp only [Act.put, List.setIfInBounds_toArray, List.set_cons_zero, List.set_cons_succ]
        refine wpAnyH_take (i := 1) (oi := ⟨some 13, _, _, _, _, _⟩) (v := .slice (some ⟨q, 0, none⟩) n c) rfl (by kernel_rfl) (by kernel_rfl) (by kernel_rfl) (fun _ _ _ h => h) (Or.inl ⟨by rfl, ?_⟩) HS0.out ?_
        · (intro W hSW; have hc := hSW.2.2; clear hSW; go_simp)
        try simp only [Act.put, List.setIfInBounds_toArray, List.set_cons_zero, List.set_cons_succ]
        refine wpAnyH_take (i := 2) (oi := ⟨some 14, _, _, _, _, _⟩) (v := ?_) rfl (by kernel_rfl) (by kernel_rfl) (by kernel_rfl) (fun _ _ _ h => h) (Or.inl ⟨by rfl, ?_⟩) HS0.out ?_
        rotate_left
        · (intro W hSW; clear hSW; go_simp)
          first | done | (with_reducible rfl)
        try simp only [Act.put, List.setIfInBounds_toArray, List.set_cons_zero, List.set_cons_succ]
        refine wpAnyH_take (i := 3) (oi := ⟨some 15, _, _, _, _, _⟩) (v := ?_) rfl (by kernel_rfl) (by kernel_rfl) (by kernel_rfl) (fun _ _ _ h => h) (Or.inl ⟨by rfl, ?_⟩) HS0.out ?_
        rotate_left
        · (intro W hSW; clear hSW; go_simp)
          first | done | (with_reducible rfl)
        try simp only [Act.put, List.setIfInBounds_toArray, List.set_cons_zero, List.set_cons_succ]
        refine wpAnyH_take (i := 4) (oi := ⟨some 16, _, _, _, _, _⟩) (v := ?_) rfl (by kernel_rfl) (by kernel_rfl) (by kernel_rfl) (fun _ _ _ h => h) (Or.inl ⟨by rfl, ?_⟩) HS0.out ?_
        rotate_left
        · (intro W hSW; clear hSW; go_simp)
          first | done | (with_reducible rfl)
        try simp only [Act.put, List.setIfInBounds_toArray, List.set_cons_zero, List.set_cons_succ]
        refine wpAnyH_take (i := 5) (oi := ⟨some 17, _, _, _, _, _⟩) (v := .agg (at_ L k).p.cs.toArray) rfl (by kernel_rfl) (by kernel_rfl) (by kernel_rfl) (fun _ _ _ h => h) (yields_pre (by rfl) (.tmp 16) rfl q (k * 10) rfl (at_ L k).p (fun _ h => range_pre h.1)) HS0.out ?_
        try simp only [Act.put, List.setIfInBounds_toArray, List.set_cons_zero, List.set_cons_succ]
        refine wpAnyH_take (i := 6) (oi := ⟨some 18, _, _, _, _, _⟩) (v := .agg p.cs.toArray) rfl (by kernel_rfl) (by kernel_rfl) (by kernel_rfl) (fun _ _ _ h => h) (yields_pre (by rfl) (.tmp 3) rfl (w.heap.size + 1) 0 rfl p (fun _ h => whole_at h.2.1)) HS0.out ?_
        try simp only [Act.put, List.setIfInBounds_toArray, List.set_cons_zero, List.set_cons_succ]
        refine wpAnyH_take (i := 7) (oi := ⟨some 19, _, _, _, _, _⟩) (v := .bool false) rfl (by kernel_rfl) (by kernel_rfl) (by kernel_rfl) (fun _ _ _ h => h) (yields_eql (by rfl) 31 (by kernel_rfl) (.tmp 17) (.tmp 18) 31 rfl (at_ L k).p.cs.toArray p.cs.toArray (by rfl) (by rfl) false HQ.out) HS0.out ?_
        try simp only [Act.put, List.setIfInBounds_toArray, List.set_cons_zero, List.set_cons_succ]
        refine wpAnyH_done (by kernel_rfl) ?_ _
        go_wp2_with fail
        go_roundw
        case rel => exact ⟨k + 1, by omega, by go_num, by
          rcases Nat.lt_or_ge k (idx L p) with h1 | h1
          · exact h1
          · exfalso
            obtain rfl : k = idx L p := by omega
            exact absurd (idx_at HK.out) (of_decide_eq_false hd), W3.out⟩
        case measure => simp [intOf]; omega
      · rw [hd] at HQ
        have HV : Hid (Value.int .i64 (k : Nat) = .int .i64 (fnd L p)) := by
          show _ = _
          have e : idx L p = k := by
            rcases Nat.lt_or_ge k (idx L p) with h1 | h1
            · exact absurd (of_decide_eq_true hd) (idx_not h1)
            · omega
          have hh : has L p = true := has_iff.2 (by rw [e]; exact HK.out)
          simp [fnd, hh, e]
        go_upto_region 4 with fail
        refine wp_region_held_drew (S := fun W => W.rangeAt q (k * 10) (at_ L k).cs ∧ Blk W (w.heap.size + 1) 31 p.cs ∧ W.cell? ⟨w.heap.size, 0, none⟩ = some (.slice (some ⟨q, 0, none⟩) n c)) (by kernel_rfl) ?_ (fun _ => ?_)
        · exact ⟨HS.out _ W3.out, P1.out.below W3.out, hd0.out⟩
        have HS0 : Hid (wr.drew.rangeAt q (k * 10) (at_ L k).cs ∧ Blk wr.drew (w.heap.size + 1) 31 p.cs ∧ wr.drew.cell? ⟨w.heap.size, 0, none⟩ = some (.slice (some ⟨q, 0, none⟩) n c)) := ⟨HS.out _ W3.out, P1.out.below W3.out, hd0.out⟩
        refine wpAnyH_take (i := 0) (oi := ⟨some 12, _, _, _, _, _⟩) (v := ?_) rfl (by kernel_rfl) (by kernel_rfl) (by kernel_rfl) (fun _ _ _ h => h) (Or.inl ⟨by rfl, ?_⟩) HS0.out ?_
        rotate_left
        · (intro W hSW; clear hSW; go_simp)
          first | done | (with_reducible rfl)
        try simp only [Act.put, List.setIfInBounds_toArray, List.set_cons_zero, List.set_cons_succ]
        refine wpAnyH_take (i := 1) (oi := ⟨some 13, _, _, _, _, _⟩) (v := .slice (some ⟨q, 0, none⟩) n c) rfl (by kernel_rfl) (by kernel_rfl) (by kernel_rfl) (fun _ _ _ h => h) (Or.inl ⟨by rfl, ?_⟩) HS0.out ?_
        · (intro W hSW; have hc := hSW.2.2; clear hSW; go_simp)
        try simp only [Act.put, List.setIfInBounds_toArray, List.set_cons_zero, List.set_cons_succ]
        refine wpAnyH_take (i := 2) (oi := ⟨some 14, _, _, _, _, _⟩) (v := ?_) rfl (by kernel_rfl) (by kernel_rfl) (by kernel_rfl) (fun _ _ _ h => h) (Or.inl ⟨by rfl, ?_⟩) HS0.out ?_
        rotate_left
        · (intro W hSW; clear hSW; go_simp)
          first | done | (with_reducible rfl)
        try simp only [Act.put, List.setIfInBounds_toArray, List.set_cons_zero, List.set_cons_succ]
        refine wpAnyH_take (i := 3) (oi := ⟨some 15, _, _, _, _, _⟩) (v := ?_) rfl (by kernel_rfl) (by kernel_rfl) (by kernel_rfl) (fun _ _ _ h => h) (Or.inl ⟨by rfl, ?_⟩) HS0.out ?_
        rotate_left
        · (intro W hSW; clear hSW; go_simp)
          first | done | (with_reducible rfl)
        try simp only [Act.put, List.setIfInBounds_toArray, List.set_cons_zero, List.set_cons_succ]
        refine wpAnyH_take (i := 4) (oi := ⟨some 16, _, _, _, _, _⟩) (v := ?_) rfl (by kernel_rfl) (by kernel_rfl) (by kernel_rfl) (fun _ _ _ h => h) (Or.inl ⟨by rfl, ?_⟩) HS0.out ?_
        rotate_left
        · (intro W hSW; clear hSW; go_simp)
          first | done | (with_reducible rfl)
        try simp only [Act.put, List.setIfInBounds_toArray, List.set_cons_zero, List.set_cons_succ]
        refine wpAnyH_take (i := 5) (oi := ⟨some 17, _, _, _, _, _⟩) (v := .agg (at_ L k).p.cs.toArray) rfl (by kernel_rfl) (by kernel_rfl) (by kernel_rfl) (fun _ _ _ h => h) (yields_pre (by rfl) (.tmp 16) rfl q (k * 10) rfl (at_ L k).p (fun _ h => range_pre h.1)) HS0.out ?_
        try simp only [Act.put, List.setIfInBounds_toArray, List.set_cons_zero, List.set_cons_succ]
        refine wpAnyH_take (i := 6) (oi := ⟨some 18, _, _, _, _, _⟩) (v := .agg p.cs.toArray) rfl (by kernel_rfl) (by kernel_rfl) (by kernel_rfl) (fun _ _ _ h => h) (yields_pre (by rfl) (.tmp 3) rfl (w.heap.size + 1) 0 rfl p (fun _ h => whole_at h.2.1)) HS0.out ?_
        try simp only [Act.put, List.setIfInBounds_toArray, List.set_cons_zero, List.set_cons_succ]
        refine wpAnyH_take (i := 7) (oi := ⟨some 19, _, _, _, _, _⟩) (v := .bool true) rfl (by kernel_rfl) (by kernel_rfl) (by kernel_rfl) (fun _ _ _ h => h) (yields_eql (by rfl) 31 (by kernel_rfl) (.tmp 17) (.tmp 18) 31 rfl (at_ L k).p.cs.toArray p.cs.toArray (by rfl) (by rfl) true HQ.out) HS0.out ?_
        try simp only [Act.put, List.setIfInBounds_toArray, List.set_cons_zero, List.set_cons_succ]
        refine wpAnyH_done (by kernel_rfl) ?_ _
        go_wp2_with fail
        go_ret
        exact ⟨congrArg Ending.returned HV.out, W1.out.trans (W3.out.mono W1.out.size)⟩
    · have HV : Hid (Value.int .i64 (-1) = .int .i64 (fnd L p)) := by
        show _ = _
        have hh : has L p = false := by
          have := HN.out
          simp [has]
          omega
        simp [fnd, hh]
      go_wp2
      go_ret
      exact ⟨congrArg Ending.returned HV.out, W1.out.trans (W2.out.mono W1.out.size)⟩
end Go.Proofs.Yteeobeeoefokdaa
