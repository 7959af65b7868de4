/- The walk of the law SipSums: for any key, any bytes and any place it returns true and turns nothing that was there. -/
import Derived.Test.YthiikecmhaijlaaAwake
import Derived.Deep.MidRow
import Derived.Deep.RegionHeld3
namespace Go.Proofs.Ythiikecmhaijlaa
open Go.RowKit

theorem range_of {w : World} {g : Nat} {t : TypeId} {cs : List Value} (h : Blk w g t cs) : w.rangeAt g 0 cs := fun j v hv => by rw [h.cell, Nat.zero_add]; exact hv
theorem key_info {k : List Nat} (h16 : k.length = 16) : (Try.prog.info? 22).map (·.size) = some (cel k).length := by
  rw [cel_length, h16]
  kernel_rfl
/-- A slice from q on. -/
theorem run_cut (A : Option Addr) (n c q : Nat) (hq : q ≤ n) :
    ∃ Z, (∀ W, (Instr.slice 23 (.slice A n c) (some (.int .i64 (q : Nat))) none none).run Try.prog W = .ok (.slice Z (n - q) (c - q)) W) ∧ ∀ (w : World) (l : List Nat), n ≤ c → Vals w A n (cel l) → Vals w Z (n - q) (cel (l.drop q)) := by
  refine ⟨_, fun W => ?_, fun w l hc h => by rw [← cel_drop]; exact h.from_ hq hc⟩
  have h := run_slice_l (P := Try.prog) (w := W) 23 A n c (by kernel_rfl) .i64 (q : Int) (by omega) (by omega)
  rw [h]
  simp [sliced, go_sem]
/-- A slice up to q. -/
theorem run_upto (A : Option Addr) (n c q : Nat) (hq : q ≤ c) (W : World) : (Instr.slice 23 (.slice A n c) none (some (.int .i64 (q : Nat))) none).run Try.prog W = .ok (.slice A q c) W := by
  have h := run_slice_h (P := Try.prog) (w := W) 23 A n c (by kernel_rfl) .i64 (q : Int) (by omega) (by omega)
  rw [h]
  simp [sliced, go_sem]
/-- Three parts, in a new list. -/
theorem PartsAt.three {w : World} {A B : Option Addr} {q c m d : Nat} {l l' : List Nat} (h : Vals w A q (cel l)) (h' : Vals w B m (cel l')) :
    PartsAt (w.alloc (.cells #[.slice A q c, .slice none 0 0, .slice B m d] 23)) (some ⟨w.heap.size, 0, none⟩) 3 [l, [], l'] := by
  have hn : l.length = q := by have := h.1; rw [cel_length] at this; exact this
  have hn' : l'.length = m := by have := h'.1; rw [cel_length] at this; exact this
  subst hn hn'
  have hb := Blk.new w 23 [.slice A l.length c, .slice none 0 0, .slice B l'.length d]
  have hbel : Below w.heap.size w (w.alloc (.cells #[.slice A l.length c, .slice none 0 0, .slice B l'.length d] 23)) := (Below.refl _ _).alloc (Nat.le_refl _) _
  refine ⟨rfl, fun i hi => ?_⟩
  rcases (by omega : i = 0 ∨ i = 1 ∨ i = 2) with rfl | rfl | rfl
  · exact ⟨_, A, c, rfl, by rw [Addr.add_at]; exact hb.cell 0, h.below hbel⟩
  · exact ⟨_, none, 0, rfl, by rw [Addr.add_at]; exact hb.cell 1, Vals.none_⟩
  · exact ⟨_, B, d, rfl, by rw [Addr.add_at]; exact hb.cell 2, h'.below hbel⟩
theorem Small.three {l l' : List Nat} (h : Octs l) (hn : l.length ≤ 1000) (h' : Octs l') (hn' : l'.length ≤ 1000) : Small [l, [], l'] := fun p hp => by
  simp at hp
  rcases hp with rfl | rfl | rfl
  · exact ⟨h, hn⟩
  · exact ⟨Octs.nil, by simp⟩
  · exact ⟨h', hn'⟩

set_option maxRecDepth 100000 in
set_option maxHeartbeats 4000000 in
theorem sums_long (k : List Nat) (A : Option Addr) (n c a : Nat) (w : World) (hn : 400 < n) : Calls Try.prog 3 #[.agg (cel k).toArray, .slice A n c, .int .u16 (a : Nat)] w fun e w' => e = .returned (.bool true) ∧ Below w.heap.size w w' := by
  have hd : decide ((400 : Int) < (n : Int)) = true := by simp; omega
  have hd2 : decide (400 < n) = true := by simpa using hn
  have W0 : Hid (Below w.heap.size w (w.alloc (.cells (cel k).toArray 22))) := (Below.refl _ w).alloc (Nat.le_refl _) _
  go_enter Try.func3, Try.ntmps3
  go_wp2_with fail
  refine (awake_any _).mono ?_
  rintro e w1 ⟨rfl, hb1⟩
  have W1 : Hid (Below w.heap.size w w1) := W0.out.trans (hb1.mono W0.out.size)
  clear hb1
  go_wp2_with fail
  refine (awake_any _).mono ?_
  rintro e w2 ⟨rfl, hb2⟩
  have W2 : Hid (Below w.heap.size w w2) := W1.out.trans (hb2.mono W1.out.size)
  clear hb2
  go_wp2_with fail
  go_ret
  exact ⟨rfl, W2.out⟩

set_option maxRecDepth 100000 in
set_option maxHeartbeats 4000000 in
theorem sums_near (k : List Nat) (A : Option Addr) (n c a : Nat) (l : List Nat) (w : World) (hk : Octs k) (h16 : k.length = 16) (h : Vals w A n (cel l)) (hl : Octs l) (hn : n ≤ 400) (hc : n ≤ c) (ha : a < 65536) :
    Calls Try.prog 3 #[.agg (cel k).toArray, .slice A n c, .int .u16 (a : Nat)] w fun e w' => e = .returned (.bool true) ∧ Below w.heap.size w w' := by
  have hd : decide ((400 : Int) < (n : Int)) = false := by simp; omega
  have hd2 : decide (400 < n) = false := by simp; omega
  have hln : l.length = n := by have := h.1; rw [cel_length] at this; exact this
  have W0 : Hid (Below w.heap.size w (w.alloc (.cells (cel k).toArray 22))) := (Below.refl _ w).alloc (Nat.le_refl _) _
  have B0 : Hid (Blk (w.alloc (.cells (cel k).toArray 22)) w.heap.size 22 (cel k)) := Blk.new w 22 (cel k)
  obtain ⟨q, hq⟩ : ∃ q, q = a % (n + 1) := ⟨_, rfl⟩
  have eq : (a : Int) % ((n : Int) + 1) = (q : Int) := by subst hq; exact (Int.natCast_emod a (n + 1)).symm
  have hqn : q ≤ n := by have := Nat.mod_lt a (show 0 < n + 1 by omega); omega
  have HV := Lib.hid h
  have HL := Lib.hid hln
  have HK := Lib.hid hk
  have H16 := Lib.hid h16
  have HO := Lib.hid hl
  clear hq h hln hk h16 hl
  go_enter Try.func3, Try.ntmps3
  go_wp2_with fail
  refine (awake_any _).mono ?_
  rintro e w1 ⟨rfl, hb1⟩
  have W1 : Hid (Below w.heap.size w w1) := W0.out.trans (hb1.mono W0.out.size)
  have B1 : Hid (Blk w1 w.heap.size 22 (cel k)) := B0.out.far (S := fun _ => False) (Far.of_below hb1 _) (fun e => e)
  clear hb1 W0 B0
  go_wp2_with (first | (refine wpList_key rfl (.tmp 3) rfl w.heap.size rfl k B1.out H16.out ?_) | (go_at_call 7; (with_reducible refine (ref_sum k A n c l w1 HK.out H16.out (HV.out.below W1.out) (by omega) HO.out).mono ?_); rintro e w2 ⟨rfl, hb2⟩; have W2 : Hid (Below w.heap.size w w2) := W1.out.trans (hb2.mono W1.out.size); have B2 : Hid (Blk w2 w.heap.size 22 (cel k)) := B1.out.far (S := fun _ => False) (Far.of_below hb2 _) (fun e => e); clear hb2))
  have hln2 : (l.take q).length = q := by rw [List.length_take, HL.out]; omega
  have hln3 : (l.drop q).length = n - q := by rw [List.length_drop, HL.out]
  obtain ⟨Z, hcut, hZ⟩ := run_cut A n c q hqn
  have hup := run_upto A n c q (by omega)
  have C1 : Hid (Calls Try.prog 8 #[.agg (cel k).toArray, .slice (some ⟨w2.heap.size, 0, none⟩) 1 1] (w2.alloc (.cells #[.slice A n c] 23)).drew fun e w' => e = .returned (.int .u64 (sip k l : Nat)) ∧ Below w.heap.size w w' ∧ Blk w' w.heap.size 22 (cel k)) := by
    have hp : PartsAt (w2.alloc (.cells #[.slice A n c] 23)).drew (some ⟨w2.heap.size, 0, none⟩) 1 [l] := PartsAt.one (c := c) (HV.out.below W2.out)
    refine (sum_is k _ 1 1 [l] _ HK.out H16.out hp (by omega) (Small.one HO.out (by rw [HL.out]; omega))).mono ?_
    rintro e w' ⟨he, hb⟩
    rw [show [l].flatten = l by simp] at he
    exact ⟨he, ((W2.out.alloc W2.out.size _).drew).trans (hb.mono (by simp; have := W2.out.size; omega)), (show Blk (w2.alloc (.cells #[.slice A n c] 23)).drew w.heap.size 22 (cel k) from B2.out.alloc _).far (S := fun _ => False) (Far.of_below hb _) (fun e => e)⟩
  have C2 : Hid (∀ w3, Below w.heap.size w w3 → Blk w3 w.heap.size 22 (cel k) → Calls Try.prog 8 #[.agg (cel k).toArray, .slice (some ⟨w3.heap.size, 0, none⟩) 3 3] (w3.alloc (.cells #[.slice A q c, .slice none 0 0, .slice Z (n - q) (c - q)] 23)) fun e w' => e = .returned (.int .u64 (sip k l : Nat)) ∧ Below w.heap.size w w' ∧ Blk w' w.heap.size 22 (cel k)) := by
    intro w3 hb3 hk3
    have hv := HV.out.below hb3
    have h1 := hv.upto hqn
    rw [cel_take] at h1
    refine (sum_is k _ 3 3 [l.take q, [], l.drop q] _ HK.out H16.out (PartsAt.three h1 (hZ w3 l hc hv)) (by omega) (Small.three (HO.out.take q) (by omega) (HO.out.drop q) (by omega))).mono ?_
    rintro e w' ⟨he, hb⟩
    rw [show [l.take q, [], l.drop q].flatten = l by simp] at he
    exact ⟨he, (hb3.alloc hb3.size _).trans (hb.mono (by simp; have := hb3.size; omega)), ((hk3.alloc _).far (S := fun _ => False) (Far.of_below hb _) (fun e => e))⟩
  have hu := Try.underlying22
  have hi := key_info H16.out
  clear eq hln2 hln3 hZ hd hd2
  generalize sip k l = s at *
  have R2 := Lib.hid (range_of B2.out)
  have hss : (((s : Nat) : Int) == ((s : Nat) : Int)) = true := by simp
  refine wp_region_noPanic ?_
  refine wp_region_held_drew (S := fun W => W.rangeAt w.heap.size 0 (cel k)) (by kernel_rfl) ?_ (fun hHeld => ?_)
  · exact R2.out
  refine wpAnyH_take (i := 0) (oi := ⟨some 26, _, _, _, _, _⟩) (v := .agg (cel k).toArray) rfl (by kernel_rfl) (by kernel_rfl) (by kernel_rfl) (fun _ _ _ h => h) (yieldsIf_load_mid (by rfl) 22 (.tmp 3) rfl w.heap.size 0 rfl (cel k) _ (fun _ hW => hW) hu rfl hi) (by assumption) ?_
  try simp only [Act.put, List.setIfInBounds_toArray, List.set_cons_zero, List.set_cons_succ]
  refine wpAnyH_take (i := 1) (oi := ⟨some 27, _, _, _, _, _⟩) (v := ?_) rfl (by kernel_rfl) (by kernel_rfl) (by kernel_rfl) (fun _ _ _ h => h) (Or.inl ⟨by rfl, ?_⟩) (by assumption) ?_
  rotate_left
  · (intro w hSw; (try dsimp only at hSw); go_simp)
    first | done | (with_reducible rfl)
  try simp only [Act.put, List.setIfInBounds_toArray, List.set_cons_zero, List.set_cons_succ]
  refine wpAnyH_take (i := 4) (oi := ⟨some 30, _, _, _, _, _⟩) (v := ?_) rfl (by kernel_rfl) (by kernel_rfl) (by kernel_rfl) (fun _ _ _ h => h) (Or.inl ⟨by rfl, ?_⟩) (by assumption) ?_
  rotate_left
  · (intro w hSw; (try dsimp only at hSw); go_simp)
    first | done | (with_reducible rfl)
  try simp only [Act.put, List.setIfInBounds_toArray, List.set_cons_zero, List.set_cons_succ]
  refine wpAnyH_ready (rs := [2]) (by kernel_rfl) (by simp) ?_
  refine AllReadyH.cons (o := ⟨some 28, _, _, _, _, _⟩) rfl (fun K hK => ?_) AllReadyH.nil
  go_simp
  refine hK.out _ _ ?_ (fun hHeld => ?_)
  · exact range_of (B2.out.alloc _)
  clear hK K
  try simp only [Act.put, List.setIfInBounds_toArray, List.set_cons_zero, List.set_cons_succ]
  refine wpAnyH_ready (rs := [3]) (by kernel_rfl) (by simp) ?_
  refine AllReadyH.cons (o := ⟨some 29, _, _, _, _, _⟩) rfl (fun K hK => ?_) AllReadyH.nil
  go_simp
  refine C1.out.mono ?_
  rintro e w3 ⟨rfl, hb3, hk3⟩
  have W3 := Lib.hid hb3
  have B3 := Lib.hid hk3
  clear hb3 hk3
  refine hK.out _ _ ?_ (fun hHeld => ?_)
  · exact range_of B3.out
  clear hK K
  try simp only [Act.put, List.setIfInBounds_toArray, List.set_cons_zero, List.set_cons_succ]
  refine wpAnyH_take (i := 5) (oi := ⟨some 31, _, _, _, _, _⟩) (v := ?_) rfl (by kernel_rfl) (by kernel_rfl) (by kernel_rfl) (fun _ _ _ h => h) (Or.inl ⟨by rfl, ?_⟩) (by assumption) ?_
  rotate_left
  · (intro w hSw; (try dsimp only at hSw); go_simp)
    first | done | (with_reducible rfl)
  try simp only [Act.put, List.setIfInBounds_toArray, List.set_cons_zero, List.set_cons_succ]
  refine wpAnyH_take (i := 6) (oi := ⟨some 32, _, _, _, _, _⟩) (v := ?_) rfl (by kernel_rfl) (by kernel_rfl) (by kernel_rfl) (fun _ _ _ h => h) (Or.inl ⟨by rfl, ?_⟩) (by assumption) ?_
  rotate_left
  · (intro w hSw; (try dsimp only at hSw); go_simp)
    first | done | (with_reducible rfl)
  try simp only [Act.put, List.setIfInBounds_toArray, List.set_cons_zero, List.set_cons_succ]
  refine wpAnyH_take (i := 8) (oi := ⟨some 34, _, _, _, _, _⟩) (v := ?_) rfl (by kernel_rfl) (by kernel_rfl) (by kernel_rfl) (fun _ _ _ h => h) (Or.inl ⟨by rfl, ?_⟩) (by assumption) ?_
  rotate_left
  · (intro w hSw; (try dsimp only at hSw); go_simp)
    first | done | (with_reducible rfl)
  try simp only [Act.put, List.setIfInBounds_toArray, List.set_cons_zero, List.set_cons_succ]
  refine wpAnyH_take (i := 9) (oi := ⟨some 35, _, _, _, _, _⟩) (v := ?_) rfl (by kernel_rfl) (by kernel_rfl) (by kernel_rfl) (fun _ _ _ h => h) (Or.inl ⟨by rfl, ?_⟩) (by assumption) ?_
  rotate_left
  · (intro w hSw; (try dsimp only at hSw); go_simp)
    first | done | (with_reducible rfl)
  try simp only [Act.put, List.setIfInBounds_toArray, List.set_cons_zero, List.set_cons_succ]
  refine wpAnyH_take (i := 10) (oi := ⟨some 36, _, _, _, _, _⟩) (v := ?_) rfl (by kernel_rfl) (by kernel_rfl) (by kernel_rfl) (fun _ _ _ h => h) (Or.inl ⟨by rfl, ?_⟩) (by assumption) ?_
  rotate_left
  · (intro w hSw; (try dsimp only at hSw); go_simp)
    first | done | (with_reducible rfl)
  try simp only [Act.put, List.setIfInBounds_toArray, List.set_cons_zero, List.set_cons_succ]
  refine wpAnyH_take (i := 11) (oi := ⟨some 37, _, _, _, _, _⟩) (v := ?_) rfl (by kernel_rfl) (by kernel_rfl) (by kernel_rfl) (fun _ _ _ h => h) (Or.inl ⟨by rfl, ?_⟩) (by assumption) ?_
  rotate_left
  · (intro w hSw; (try dsimp only at hSw); go_simp)
    first | done | (with_reducible rfl)
  try simp only [Act.put, List.setIfInBounds_toArray, List.set_cons_zero, List.set_cons_succ]
  refine wpAnyH_take (i := 12) (oi := ⟨some 38, _, _, _, _, _⟩) (v := ?_) rfl (by kernel_rfl) (by kernel_rfl) (by kernel_rfl) (fun _ _ _ h => h) (Or.inl ⟨by rfl, ?_⟩) (by assumption) ?_
  rotate_left
  · (intro w hSw; (try dsimp only at hSw); go_simp)
    first | done | (with_reducible rfl)
  try simp only [Act.put, List.setIfInBounds_toArray, List.set_cons_zero, List.set_cons_succ]
  refine wpAnyH_take (i := 13) (oi := ⟨some 39, _, _, _, _, _⟩) (v := ?_) rfl (by kernel_rfl) (by kernel_rfl) (by kernel_rfl) (fun _ _ _ h => h) (Or.inl ⟨by rfl, ?_⟩) (by assumption) ?_
  rotate_left
  · (intro w hSw; (try dsimp only at hSw); go_simp)
    first | done | (with_reducible rfl)
  try simp only [Act.put, List.setIfInBounds_toArray, List.set_cons_zero, List.set_cons_succ]
  refine wpAnyH_take (i := 16) (oi := ⟨some 42, _, _, _, _, _⟩) (v := ?_) rfl (by kernel_rfl) (by kernel_rfl) (by kernel_rfl) (fun _ _ _ h => h) (Or.inl ⟨by rfl, ?_⟩) (by assumption) ?_
  rotate_left
  · (intro w hSw; (try dsimp only at hSw); go_simp)
    first | done | (with_reducible rfl)
  try simp only [Act.put, List.setIfInBounds_toArray, List.set_cons_zero, List.set_cons_succ]
  refine wpAnyH_take (i := 7) (oi := ⟨some 33, _, _, _, _, _⟩) (v := .agg (cel k).toArray) rfl (by kernel_rfl) (by kernel_rfl) (by kernel_rfl) (fun _ _ _ h => h) (yieldsIf_load_mid (by rfl) 22 (.tmp 3) rfl w.heap.size 0 rfl (cel k) _ (fun _ hW => hW) hu rfl hi) (by assumption) ?_
  try simp only [Act.put, List.setIfInBounds_toArray, List.set_cons_zero, List.set_cons_succ]
  refine wpAnyH_ready (rs := [14]) (by kernel_rfl) (by simp) ?_
  refine AllReadyH.cons (o := ⟨some 40, _, _, _, _, _⟩) rfl (fun K hK => ?_) AllReadyH.nil
  go_simp
  refine hK.out _ _ ?_ (fun hHeld => ?_)
  · exact range_of (B3.out.alloc _)
  clear hK K
  try simp only [Act.put, List.setIfInBounds_toArray, List.set_cons_zero, List.set_cons_succ]
  refine wpAnyH_ready (rs := [15]) (by kernel_rfl) (by simp) ?_
  refine AllReadyH.cons (o := ⟨some 41, _, _, _, _, _⟩) rfl (fun K hK => ?_) AllReadyH.nil
  go_simp
  refine (C2.out w3 W3.out B3.out).mono ?_
  rintro e w4 ⟨rfl, hb4, hk4⟩
  have W4 := Lib.hid hb4
  have B4 := Lib.hid hk4
  clear hb4 hk4
  refine hK.out _ _ ?_ (fun hHeld => ?_)
  · exact range_of B4.out
  clear hK K
  try simp only [Act.put, List.setIfInBounds_toArray, List.set_cons_zero, List.set_cons_succ]
  refine wpAnyH_take (i := 17) (oi := ⟨some 43, _, _, _, _, _⟩) (v := ?_) rfl (by kernel_rfl) (by kernel_rfl) (by kernel_rfl) (fun _ _ _ h => h) (Or.inl ⟨by rfl, ?_⟩) (by assumption) ?_
  rotate_left
  · (intro w hSw; (try dsimp only at hSw); go_simp)
    first | done | (with_reducible rfl)
  try simp only [Act.put, List.setIfInBounds_toArray, List.set_cons_zero, List.set_cons_succ]
  refine wpAnyH_take (i := 18) (oi := ⟨some 44, _, _, _, _, _⟩) (v := ?_) rfl (by kernel_rfl) (by kernel_rfl) (by kernel_rfl) (fun _ _ _ h => h) (Or.inl ⟨by rfl, ?_⟩) (by assumption) ?_
  rotate_left
  · (intro w hSw; (try dsimp only at hSw); go_simp)
    first | done | (with_reducible rfl)
  try simp only [Act.put, List.setIfInBounds_toArray, List.set_cons_zero, List.set_cons_succ]
  refine wpAnyH_take (i := 19) (oi := ⟨some 6, _, _, _, _, _⟩) (v := ?_) rfl (by kernel_rfl) (by kernel_rfl) (by kernel_rfl) (fun _ _ _ h => h) (Or.inl ⟨by rfl, ?_⟩) (by assumption) ?_
  rotate_left
  · (intro w hSw; (try dsimp only at hSw); go_simp)
    first | done | (with_reducible rfl)
  try simp only [Act.put, List.setIfInBounds_toArray, List.set_cons_zero, List.set_cons_succ]
  refine wpAnyH_done (by kernel_rfl) ?_ _
  refine NoPanic.normal ?_
  go_wp2
  go_ret
  exact ⟨rfl, W4.out⟩
theorem sums_any (k : List Nat) (A : Option Addr) (n c a : Nat) (l : List Nat) (w : World) (hk : Octs k) (h16 : k.length = 16) (h : Vals w A n (cel l)) (hl : Octs l) (hc : n ≤ c) (ha : a < 65536) :
    Calls Try.prog 3 #[.agg (cel k).toArray, .slice A n c, .int .u16 (a : Nat)] w fun e w' => e = .returned (.bool true) ∧ Below w.heap.size w w' := by
  by_cases hn : n ≤ 400
  · exact sums_near k A n c a l w hk h16 h hl hn hc ha
  · exact sums_long k A n c a w (by omega)
end Go.Proofs.Ythiikecmhaijlaa
