/- The contracts of the document's Find and Same. Conditions: those of each theorem. -/
import Derived.Test.YtpjeeccgpnpokaaLess
namespace Go.Proofs.Ytpjeeccgpnpokaa
open Go.RowKit
/-- A range that is behind what has happened. -/
theorem range_below {w w' : World} {b o B : Nat} {vs : List Value} (h : w.rangeAt b o vs) (hB : w.heap.size ≤ B) (hb : Below B w w') : w'.rangeAt b o vs := fun j v hv => ((hb.mono hB).cell (World.block_lt_of_cell? w _ (h j v hv))).trans (h j v hv)
theorem take_next {α : Type} [Inhabited α] {L R : List α} {k : Nat} {s u : α} (h : L.take k = R.take k) (hs : L[k]? = some s) (hu : R[k]? = some u) (e : s = u) : L.take (k + 1) = R.take (k + 1) := by
  rw [List.take_add_one, List.take_add_one, h, hs, hu, e]
theorem ne_next {α : Type} {L R : List α} {k : Nat} {s u : α} (hs : L[k]? = some s) (hu : R[k]? = some u) (e : s ≠ u) : L ≠ R := by
  rintro rfl
  rw [hs] at hu
  injection hu with hu
  exact e hu
instance : Inhabited Pre := ⟨pre0⟩
set_option maxHeartbeats 1000000 in
theorem same_ (A B : Option Addr) (c d : Nat) (L R : List Pre) (w : World) (h : Els kPre w A L) (h' : Els kPre w B R) (ho : ∀ p ∈ L, p.Ok) (ho' : ∀ p ∈ R, p.Ok) (hl : L.length ≤ 100000) :
    Calls Try.prog 18 #[.slice A L.length c, .slice B R.length d] w fun e w' => e = .returned (.bool (decide (L = R))) ∧ Below w.heap.size w w' := by
  have H := Lib.hid h
  have H' := Lib.hid h'
  have HO := Lib.hid ho
  have HO' := Lib.hid ho'
  clear h h' ho ho'
  by_cases hm : L.length = R.length
  · obtain ⟨n, hn⟩ : ∃ n, L.length = n := ⟨_, rfl⟩
    have HN := Lib.hid hn
    have HN' : Hid (R.length = n) := hm.symm.trans hn
    rw [HN'.out, hn] at ⊢
    rw [hn] at hl
    clear hm hn
    go_enter Try.func18, Try.ntmps18
    go_wp2_with fail
    go_loopw [5, 13] (fun _ i w' => ∃ k : Nat, k ≤ n ∧ i = .int .i64 k ∧ L.take k = R.take k ∧ Below w.heap.size w w') (fun _ i _ => n - (intOf i).toNat)
    case atStart => exact ⟨0, by omega, rfl, by simp, Below.refl _ _⟩
    case round =>
      obtain ⟨k, hk, rfl, htk, hbe⟩ := hrel
      have W2 := Lib.hid hbe
      have HT := Lib.hid htk
      clear hbe htk
      by_cases hlt : k < n
      · have hkL : k < L.length := by rw [HN.out]; exact hlt
        have hkR : k < R.length := by rw [HN'.out]; exact hlt
        obtain ⟨s, hs1⟩ : ∃ s, L[k]? = some s := ⟨_, List.getElem?_eq_getElem hkL⟩
        obtain ⟨u, hu1⟩ : ∃ u, R[k]? = some u := ⟨_, List.getElem?_eq_getElem hkR⟩
        obtain ⟨q, o, rfl, hs⟩ := H.out k _ hs1
        obtain ⟨q2, o2, rfl, hs'⟩ := H'.out k _ hu1
        have W3 : Hid (Below w.heap.size w wr.drew) := W2.out.drew
        have HS : Hid (wr.drew.rangeAt q (o + k * 8) s.cs ∧ wr.drew.rangeAt q2 (o2 + k * 8) u.cs) := ⟨range_below hs (Nat.le_refl _) W3.out, range_below hs' (Nat.le_refl _) W3.out⟩
        have HQ := Lib.hid (fun W => eq_pre (HO.out s (List.mem_of_getElem? hs1)) (HO'.out u (List.mem_of_getElem? hu1)) W)
        have S1 := Lib.hid hs1
        have U1 := Lib.hid hu1
        clear hs hs' hkL hkR hs1 hu1
        rcases hd : decide (s = u) with _ | _
        · rw [hd] at HQ
          have HV : Hid (decide (L = R) = false) := decide_eq_false (ne_next S1.out U1.out (of_decide_eq_false hd))
          go_upto_region 6 with fail
          refine wp_region_held_drew (S := fun W => W.rangeAt q (o + k * 8) s.cs ∧ W.rangeAt q2 (o2 + k * 8) u.cs) (by kernel_rfl) ?_ (fun _ => ?_)
          · exact HS.out
          have HS0 := HS
          refine wpAnyH_take (i := 0) (oi := ⟨some 16, _, _, _, _, _⟩) (v := ?_) rfl (by kernel_rfl) (by kernel_rfl) (by kernel_rfl) (fun _ _ _ h => h) (Or.inl ⟨by rfl, ?_⟩) HS0.out ?_
          rotate_left
          · (intro W hSW; clear hSW; go_simp)
            first | done | (with_reducible rfl)
          try simp only [Act.put, List.setIfInBounds_toArray, List.set_cons_zero, List.set_cons_succ]
          refine wpAnyH_take (i := 1) (oi := ⟨some 17, _, _, _, _, _⟩) (v := ?_) rfl (by kernel_rfl) (by kernel_rfl) (by kernel_rfl) (fun _ _ _ h => h) (Or.inl ⟨by rfl, ?_⟩) HS0.out ?_
          rotate_left
          · (intro W hSW; clear hSW; go_simp)
            first | done | (with_reducible rfl)
          try simp only [Act.put, List.setIfInBounds_toArray, List.set_cons_zero, List.set_cons_succ]
          refine wpAnyH_take (i := 2) (oi := ⟨some 18, _, _, _, _, _⟩) (v := ?_) rfl (by kernel_rfl) (by kernel_rfl) (by kernel_rfl) (fun _ _ _ h => h) (Or.inl ⟨by rfl, ?_⟩) HS0.out ?_
          rotate_left
          · (intro W hSW; clear hSW; go_simp)
            first | done | (with_reducible rfl)
          try simp only [Act.put, List.setIfInBounds_toArray, List.set_cons_zero, List.set_cons_succ]
          refine wpAnyH_take (i := 3) (oi := ⟨some 19, _, _, _, _, _⟩) (v := .agg s.cs.toArray) rfl (by kernel_rfl) (by kernel_rfl) (by kernel_rfl) (fun _ _ _ h => h) (yields_pre (by rfl) (.tmp 18) rfl q (o + k * 8) rfl s (fun _ h => h.1)) HS0.out ?_
          try simp only [Act.put, List.setIfInBounds_toArray, List.set_cons_zero, List.set_cons_succ]
          refine wpAnyH_take (i := 4) (oi := ⟨some 20, _, _, _, _, _⟩) (v := ?_) rfl (by kernel_rfl) (by kernel_rfl) (by kernel_rfl) (fun _ _ _ h => h) (Or.inl ⟨by rfl, ?_⟩) HS0.out ?_
          rotate_left
          · (intro W hSW; clear hSW; go_simp)
            first | done | (with_reducible rfl)
          try simp only [Act.put, List.setIfInBounds_toArray, List.set_cons_zero, List.set_cons_succ]
          refine wpAnyH_take (i := 5) (oi := ⟨some 21, _, _, _, _, _⟩) (v := ?_) rfl (by kernel_rfl) (by kernel_rfl) (by kernel_rfl) (fun _ _ _ h => h) (Or.inl ⟨by rfl, ?_⟩) HS0.out ?_
          rotate_left
          · (intro W hSW; clear hSW; go_simp)
            first | done | (with_reducible rfl)
          try simp only [Act.put, List.setIfInBounds_toArray, List.set_cons_zero, List.set_cons_succ]
          refine wpAnyH_take (i := 6) (oi := ⟨some 22, _, _, _, _, _⟩) (v := ?_) rfl (by kernel_rfl) (by kernel_rfl) (by kernel_rfl) (fun _ _ _ h => h) (Or.inl ⟨by rfl, ?_⟩) HS0.out ?_
          rotate_left
          · (intro W hSW; clear hSW; go_simp)
            first | done | (with_reducible rfl)
          try simp only [Act.put, List.setIfInBounds_toArray, List.set_cons_zero, List.set_cons_succ]
          refine wpAnyH_take (i := 7) (oi := ⟨some 23, _, _, _, _, _⟩) (v := .agg u.cs.toArray) rfl (by kernel_rfl) (by kernel_rfl) (by kernel_rfl) (fun _ _ _ h => h) (yields_pre (by rfl) (.tmp 22) rfl q2 (o2 + k * 8) rfl u (fun _ h => h.2)) HS0.out ?_
          try simp only [Act.put, List.setIfInBounds_toArray, List.set_cons_zero, List.set_cons_succ]
          refine wpAnyH_take (i := 8) (oi := ⟨some 24, _, _, _, _, _⟩) (v := .bool (!false)) rfl (by kernel_rfl) (by kernel_rfl) (by kernel_rfl) (fun _ _ _ h => h) (yields_neq (by rfl) 31 (by kernel_rfl) (.tmp 19) (.tmp 23) 31 rfl s.cs.toArray u.cs.toArray (by rfl) (by rfl) false HQ.out) HS0.out ?_
          try simp only [Act.put, List.setIfInBounds_toArray, List.set_cons_zero, List.set_cons_succ]
          refine wpAnyH_done (by kernel_rfl) ?_ _
          go_wp2_with fail
          go_ret
          exact ⟨ret_bool HV.out.symm, W3.out⟩
        · rw [hd] at HQ
          have HV : Hid (L.take (k + 1) = R.take (k + 1)) := take_next HT.out S1.out U1.out (of_decide_eq_true hd)
          go_upto_region 6 with fail
          refine wp_region_held_drew (S := fun W => W.rangeAt q (o + k * 8) s.cs ∧ W.rangeAt q2 (o2 + k * 8) u.cs) (by kernel_rfl) ?_ (fun _ => ?_)
          · exact HS.out
          have HS0 := HS
          refine wpAnyH_take (i := 0) (oi := ⟨some 16, _, _, _, _, _⟩) (v := ?_) rfl (by kernel_rfl) (by kernel_rfl) (by kernel_rfl) (fun _ _ _ h => h) (Or.inl ⟨by rfl, ?_⟩) HS0.out ?_
          rotate_left
          · (intro W hSW; clear hSW; go_simp)
            first | done | (with_reducible rfl)
          try simp only [Act.put, List.setIfInBounds_toArray, List.set_cons_zero, List.set_cons_succ]
          refine wpAnyH_take (i := 1) (oi := ⟨some 17, _, _, _, _, _⟩) (v := ?_) rfl (by kernel_rfl) (by kernel_rfl) (by kernel_rfl) (fun _ _ _ h => h) (Or.inl ⟨by rfl, ?_⟩) HS0.out ?_
          rotate_left
          · (intro W hSW; clear hSW; go_simp)
            first | done | (with_reducible rfl)
          try simp only [Act.put, List.setIfInBounds_toArray, List.set_cons_zero, List.set_cons_succ]
          refine wpAnyH_take (i := 2) (oi := ⟨some 18, _, _, _, _, _⟩) (v := ?_) rfl (by kernel_rfl) (by kernel_rfl) (by kernel_rfl) (fun _ _ _ h => h) (Or.inl ⟨by rfl, ?_⟩) HS0.out ?_
          rotate_left
          · (intro W hSW; clear hSW; go_simp)
            first | done | (with_reducible rfl)
          try simp only [Act.put, List.setIfInBounds_toArray, List.set_cons_zero, List.set_cons_succ]
          refine wpAnyH_take (i := 3) (oi := ⟨some 19, _, _, _, _, _⟩) (v := .agg s.cs.toArray) rfl (by kernel_rfl) (by kernel_rfl) (by kernel_rfl) (fun _ _ _ h => h) (yields_pre (by rfl) (.tmp 18) rfl q (o + k * 8) rfl s (fun _ h => h.1)) HS0.out ?_
          try simp only [Act.put, List.setIfInBounds_toArray, List.set_cons_zero, List.set_cons_succ]
          refine wpAnyH_take (i := 4) (oi := ⟨some 20, _, _, _, _, _⟩) (v := ?_) rfl (by kernel_rfl) (by kernel_rfl) (by kernel_rfl) (fun _ _ _ h => h) (Or.inl ⟨by rfl, ?_⟩) HS0.out ?_
          rotate_left
          · (intro W hSW; clear hSW; go_simp)
            first | done | (with_reducible rfl)
          try simp only [Act.put, List.setIfInBounds_toArray, List.set_cons_zero, List.set_cons_succ]
          refine wpAnyH_take (i := 5) (oi := ⟨some 21, _, _, _, _, _⟩) (v := ?_) rfl (by kernel_rfl) (by kernel_rfl) (by kernel_rfl) (fun _ _ _ h => h) (Or.inl ⟨by rfl, ?_⟩) HS0.out ?_
          rotate_left
          · (intro W hSW; clear hSW; go_simp)
            first | done | (with_reducible rfl)
          try simp only [Act.put, List.setIfInBounds_toArray, List.set_cons_zero, List.set_cons_succ]
          refine wpAnyH_take (i := 6) (oi := ⟨some 22, _, _, _, _, _⟩) (v := ?_) rfl (by kernel_rfl) (by kernel_rfl) (by kernel_rfl) (fun _ _ _ h => h) (Or.inl ⟨by rfl, ?_⟩) HS0.out ?_
          rotate_left
          · (intro W hSW; clear hSW; go_simp)
            first | done | (with_reducible rfl)
          try simp only [Act.put, List.setIfInBounds_toArray, List.set_cons_zero, List.set_cons_succ]
          refine wpAnyH_take (i := 7) (oi := ⟨some 23, _, _, _, _, _⟩) (v := .agg u.cs.toArray) rfl (by kernel_rfl) (by kernel_rfl) (by kernel_rfl) (fun _ _ _ h => h) (yields_pre (by rfl) (.tmp 22) rfl q2 (o2 + k * 8) rfl u (fun _ h => h.2)) HS0.out ?_
          try simp only [Act.put, List.setIfInBounds_toArray, List.set_cons_zero, List.set_cons_succ]
          refine wpAnyH_take (i := 8) (oi := ⟨some 24, _, _, _, _, _⟩) (v := .bool (!true)) rfl (by kernel_rfl) (by kernel_rfl) (by kernel_rfl) (fun _ _ _ h => h) (yields_neq (by rfl) 31 (by kernel_rfl) (.tmp 19) (.tmp 23) 31 rfl s.cs.toArray u.cs.toArray (by rfl) (by rfl) true HQ.out) HS0.out ?_
          try simp only [Act.put, List.setIfInBounds_toArray, List.set_cons_zero, List.set_cons_succ]
          refine wpAnyH_done (by kernel_rfl) ?_ _
          go_wp2_with fail
          go_roundw
          case rel => exact ⟨k + 1, by omega, by go_num, HV.out, W3.out⟩
          case measure => simp [intOf]; omega
      · have HV : Hid (decide (L = R) = true) := decide_eq_true (by
          have hkn : k = n := by omega
          have := HT.out
          rwa [hkn, List.take_of_length_le (by rw [HN.out]; omega), List.take_of_length_le (by rw [HN'.out]; omega)] at this)
        go_wp2
        go_ret
        exact ⟨ret_bool HV.out.symm, W2.out⟩
  · have HV : Hid (decide (L = R) = false) := decide_eq_false (fun e => hm (by rw [e]))
    have hb : ((L.length : Int) == (R.length : Int)) = false := by simp; omega
    generalize L.length = m at *
    generalize R.length = n at *
    clear hm
    go_enter Try.func18, Try.ntmps18
    go_wp2
    go_ret
    exact ⟨ret_bool HV.out.symm, Below.refl _ _⟩
end Go.Proofs.Ytpjeeccgpnpokaa
