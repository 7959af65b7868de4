/- The contract of the law's same; where a prefix's slot is behind a counting. Conditions: those of each theorem. -/
import Derived.Test.YteeobeeoefokdaaDocs
import Derived.Test.YteeobeeoefokdaaUntil
namespace Go.Proofs.Yteeobeeoefokdaa
open Go.RowKit

section
variable {L : List Slo} {p : Pre} {M k : Nat} {n : Int}
theorem idx_plc (h1 : 1 ≤ M) : idx (plc M L p) p = pos M L p := by
  refine idx_first (Nat.le_of_lt (pos_lt h1)) (fun j hj => ?_) (fun _ => pos_at h1)
  rcases hh : has L p with _ | _
  · have hno : ∀ i, i < L.length → (at_ L i).p ≠ p := fun i hi => has_not hh hi
    by_cases hm : L.length < M
    · rw [plc_room hh hm]
      rw [pos_room hh hm] at hj
      rw [at_left hj]
      exact hno j hj
    · rw [plc_full hh hm]
      rw [pos_full hh hm] at hj
      have hl := low_lt (L := L) (by omega) L.length (Nat.le_refl _)
      rw [at_set_ne (by omega)]
      exact hno j (by omega)
  · rw [plc_has hh]
    rw [pos_has hh] at hj
    exact idx_not hj
theorem inc_p (j : Nat) : (at_ (inc L k n) j).p = (at_ L j).p := by
  unfold inc
  by_cases hk : k < L.length
  · by_cases e : k = j
    · subst e; rw [at_set hk]
    · rw [at_set_ne e]
  · rw [List.set_eq_of_length_le (by omega)]
theorem idx_inc : idx (inc L k n) p = idx L p := by
  refine idx_first (by rw [inc_length]; exact idx_le) (fun j hj => by rw [inc_p]; exact idx_not hj) (fun h => ?_)
  rw [inc_length] at h
  rw [inc_p]
  exact idx_at h
theorem has_stp (h1 : 1 ≤ M) : has (stp M L p n) p = true := by
  rw [has_iff]
  unfold stp
  rw [idx_inc, idx_plc h1, inc_length]
  exact pos_lt h1
theorem get_stp (h1 : 1 ≤ M) : get (stp M L p n) p = at_ (stp M L p n) (pos M L p) := by
  have h := has_stp (L := L) (p := p) (n := n) h1
  unfold get
  rw [if_pos h]
  congr 1
  unfold stp
  rw [idx_inc, idx_plc h1]
end
theorem RowAt.lat {base c : Nat} {A : Option Addr} {L : List Slo} {w : World} (h : RowAt base A c L w) : LAt A L w := fun k s hk => by
  obtain ⟨q, e, _, hr⟩ := h.at_ (List.getElem?_eq_some_iff.1 hk).1
  exact ⟨q, e, hr.slot hk⟩
theorem LAt.far {S : Nat → Prop} {A : Option Addr} {L : List Slo} {w w' : World} (h : LAt A L w) (hf : Far S w w') (hn : ∀ b, A = some ⟨b, 0, none⟩ → ¬ S b) : LAt A L w' := fun k s hk => by
  obtain ⟨q, e, hr⟩ := h k s hk
  exact ⟨q, e, fun j v hv => (World.cell?_of_block (hf.block _ (World.block_lt_of_cell? w _ (hr j v hv)) (hn q e))).trans (hr j v hv)⟩
/-- Two that may come up, in either order. -/
theorem til_two {P : Program} {ops : Array Oper} {Q : Exit → Act → World → Prop} {md : Region.Mode} {S : World → Prop} {k i j n : Nat} {o o' : Oper} {l : Array Bool} {a : Act} {w : World} (hr : Region.ready md ops l = [i, j]) (ho : ops[i]? = some o) (ho' : ops[j]? = some o')
    (h : ∀ K' : Act → World → Prop, Hid (∀ a w, ((l.setIfInBounds i true).getD k true = false → S w) → Til P md ops Q S k n (l.setIfInBounds i true) a w → K' a w) →
      if Region.wanted o (yielded ops a.tmps) = true then Oper.wp P o a w K' Q else K' (a.put o.dst undef) w)
    (h' : ∀ K' : Act → World → Prop, Hid (∀ a w, ((l.setIfInBounds j true).getD k true = false → S w) → Til P md ops Q S k n (l.setIfInBounds j true) a w → K' a w) →
      if Region.wanted o' (yielded ops a.tmps) = true then Oper.wp P o' a w K' Q else K' (a.put o'.dst undef) w) : Til P md ops Q S k (n + 1) l a w := by
  refine ⟨fun h0 => (by rw [hr] at h0; cases h0), fun x hx => ?_⟩
  rw [hr, List.mem_cons, List.mem_singleton] at hx
  rcases hx with rfl | rfl
  · exact wpOp_step ho fun K' hK => h K' fun a w hS hT => hK a w ⟨hS, hT⟩
  · exact wpOp_step ho' fun K' hK => h' K' fun a w hS hT => hK a w ⟨hS, hT⟩

set_option maxHeartbeats 1000000 in
theorem same_ (A B : Option Addr) (c d : Nat) (L : List Slo) (w : World) (h : LAt A L w) (h' : LAt B L w) (ho : Oks L) (hl : L.length ≤ 1000) :
    Calls Try.prog 15 #[.slice A (L.length : Nat) c, .slice B (L.length : Nat) d] w fun e w' => e = .returned (.bool true) ∧ Below w.heap.size w w' := by
  have H := Lib.hid h
  have H' := Lib.hid h'
  have HO := Lib.hid ho
  obtain ⟨n, hn⟩ : ∃ n, L.length = n := ⟨_, rfl⟩
  have HN := Lib.hid hn
  rw [hn] at hl ⊢
  clear h h' ho hn
  go_enter Try.func15, Try.ntmps15
  go_wp2_with fail
  go_loopw [5, 13] (fun _ i w' => ∃ k : Nat, k ≤ n ∧ i = .int .i64 k ∧ Below w.heap.size w w') (fun _ i _ => n - (intOf i).toNat)
  case atStart => exact ⟨0, by omega, rfl, Below.refl _ _⟩
  case round =>
    obtain ⟨k, hk, rfl, hbe⟩ := hrel
    have W2 := Lib.hid hbe
    clear hbe
    by_cases hlt : k < n
    · have hkL : k < L.length := by rw [HN.out]; exact hlt
      obtain ⟨q, rfl, hs⟩ := H.out k _ (at_some hkL)
      obtain ⟨q', rfl, hs'⟩ := H'.out k _ (at_some hkL)
      have W3 : Hid (Below w.heap.size w wr.drew) := W2.out.drew
      have HS : Hid (wr.drew.rangeAt q (k * 10) (at_ L k).cs ∧ wr.drew.rangeAt q' (k * 10) (at_ L k).cs) :=
        ⟨fun j v hv => (W3.out.cell (World.block_lt_of_cell? w _ (hs j v hv))).trans (hs j v hv), fun j v hv => (W3.out.cell (World.block_lt_of_cell? w _ (hs' j v hv))).trans (hs' j v hv)⟩
      have HQ := Lib.hid (fun W => eq_slo46 (HO.out.at_ hkL) (HO.out.at_ hkL) W)
      rw [decide_eq_true (rfl : at_ L k = at_ L k)] at HQ
      clear hs hs' hkL
      generalize at_ L k = s at *
      go_upto_region 6 with fail
      refine wp_region_held_drew (S := fun W => W.rangeAt q (k * 10) s.cs ∧ W.rangeAt q' (k * 10) s.cs) (by kernel_rfl) ?_ (fun _ => ?_)
      · exact HS.out
      have HS0 := HS
      refine wpAnyH_take (i := 0) (oi := ⟨some 16, _, _, _, _, _⟩) (v := ?_) rfl (by kernel_rfl) (by kernel_rfl) (by kernel_rfl) (fun _ _ _ h => h) (Or.inl ⟨by rfl, ?_⟩) HS0.out ?_
      rotate_left
      · (intro W hSW; clear hSW; go_simp)
        first | done | (with_reducible rfl)
      try simp only [Act.put, List.setIfInBounds_toArray, List.set_cons_zero, List.set_cons_succ]
      refine wpAnyH_take (i := 1) (oi := ⟨some 17, _, _, _, _, _⟩) (v := ?_) rfl (by kernel_rfl) (by kernel_rfl) (by kernel_rfl) (fun _ _ _ h => h) (Or.inl ⟨by rfl, ?_⟩) HS0.out ?_
      rotate_left
      · (intro W hSW; clear hSW; go_simp)
        first | done | (with_reducible rfl)
      try simp only [Act.put, List.setIfInBounds_toArray, List.set_cons_zero, List.set_cons_succ]
      refine wpAnyH_take (i := 2) (oi := ⟨some 18, _, _, _, _, _⟩) (v := ?_) rfl (by kernel_rfl) (by kernel_rfl) (by kernel_rfl) (fun _ _ _ h => h) (Or.inl ⟨by rfl, ?_⟩) HS0.out ?_
      rotate_left
      · (intro W hSW; clear hSW; go_simp)
        first | done | (with_reducible rfl)
      try simp only [Act.put, List.setIfInBounds_toArray, List.set_cons_zero, List.set_cons_succ]
      refine wpAnyH_take (i := 3) (oi := ⟨some 19, _, _, _, _, _⟩) (v := .agg s.cs.toArray) rfl (by kernel_rfl) (by kernel_rfl) (by kernel_rfl) (fun _ _ _ h => h) (yields_slo32 (by rfl) (.tmp 18) rfl q (k * 10) rfl s (fun _ h => h.1)) HS0.out ?_
      try simp only [Act.put, List.setIfInBounds_toArray, List.set_cons_zero, List.set_cons_succ]
      refine wpAnyH_take (i := 4) (oi := ⟨some 20, _, _, _, _, _⟩) (v := ?_) rfl (by kernel_rfl) (by kernel_rfl) (by kernel_rfl) (fun _ _ _ h => h) (Or.inl ⟨by rfl, ?_⟩) HS0.out ?_
      rotate_left
      · (intro W hSW; clear hSW; go_simp)
        first | done | (with_reducible rfl)
      try simp only [Act.put, List.setIfInBounds_toArray, List.set_cons_zero, List.set_cons_succ]
      refine wpAnyH_take (i := 5) (oi := ⟨some 21, _, _, _, _, _⟩) (v := ?_) rfl (by kernel_rfl) (by kernel_rfl) (by kernel_rfl) (fun _ _ _ h => h) (Or.inl ⟨by rfl, ?_⟩) HS0.out ?_
      rotate_left
      · (intro W hSW; clear hSW; go_simp)
        first | done | (with_reducible rfl)
      try simp only [Act.put, List.setIfInBounds_toArray, List.set_cons_zero, List.set_cons_succ]
      refine wpAnyH_take (i := 6) (oi := ⟨some 22, _, _, _, _, _⟩) (v := ?_) rfl (by kernel_rfl) (by kernel_rfl) (by kernel_rfl) (fun _ _ _ h => h) (Or.inl ⟨by rfl, ?_⟩) HS0.out ?_
      rotate_left
      · (intro W hSW; clear hSW; go_simp)
        first | done | (with_reducible rfl)
      try simp only [Act.put, List.setIfInBounds_toArray, List.set_cons_zero, List.set_cons_succ]
      refine wpAnyH_take (i := 7) (oi := ⟨some 23, _, _, _, _, _⟩) (v := .agg s.cs.toArray) rfl (by kernel_rfl) (by kernel_rfl) (by kernel_rfl) (fun _ _ _ h => h) (yields_slo46 (by rfl) (.tmp 22) rfl q' (k * 10) rfl s (fun _ h => h.2)) HS0.out ?_
      try simp only [Act.put, List.setIfInBounds_toArray, List.set_cons_zero, List.set_cons_succ]
      refine wpAnyH_take (i := 8) (oi := ⟨some 24, _, _, _, _, _⟩) (v := .bool (!true)) rfl (by kernel_rfl) (by kernel_rfl) (by kernel_rfl) (fun _ _ _ h => h) (yields_neq (by rfl) 65 (by kernel_rfl) (.tmp 19) (.tmp 23) 65 rfl s.cs.toArray s.cs.toArray (by rfl) (by rfl) true HQ.out) HS0.out ?_
      try simp only [Act.put, List.setIfInBounds_toArray, List.set_cons_zero, List.set_cons_succ]
      refine wpAnyH_done (by kernel_rfl) ?_ _
      go_wp2_with fail
      go_roundw
      case rel => exact ⟨k + 1, by omega, by go_num, W3.out⟩
      case measure => simp [intOf]; omega
    · go_wp2
      go_ret
      exact ⟨rfl, W2.out⟩
end Go.Proofs.Yteeobeeoefokdaa
