/- The walk of the law QuotaFits: for any numbers, acts and class it returns true and turns nothing that was there. -/
import Derived.Test.YtgjicnjibhofkaaBackWalk
namespace Go.Proofs.Ytgjicnjibhofkaa
open Go.RowKit

theorem fits_less {R S : Nat} {L : List Nat} {x n l : Int} (h : fits R S L x n = true) (h0 : 0 ≤ l) (h1 : l ≤ n) : fits R S L x l = true := by
  simp [fits] at h ⊢
  obtain ⟨⟨hx, hz⟩, hu⟩ := h
  obtain ⟨k, rfl, hk⟩ := has_iff.1 hx
  refine ⟨⟨hx, ?_⟩, ?_⟩
  · simp [isz] at hz ⊢
    omega
  · simp only [Int.toNat_natCast] at hu ⊢
    have e1 := used_set (R := R) (v := atOf L k + n.toNat) hk
    have e2 := used_set (R := R) (v := atOf L k + l.toNat) hk
    unfold plus at hu ⊢
    omega
theorem fits_bytes {R S : Nat} {L : List Nat} {x n : Int} (h : fits R S L x n = true) : ((bytesOf (addOf R S L x n) x : Nat) : Int) = (bytesOf L x : Nat) + n ∧ 0 ≤ n ∧ n ≤ 1073741824 := by
  have e : addOf R S L x n = plus L x.toNat n.toNat := by simp [addOf, h]
  simp [fits] at h
  obtain ⟨⟨hx, hz⟩, hu⟩ := h
  obtain ⟨k, rfl, hk⟩ := has_iff.1 hx
  simp [isz] at hz
  refine ⟨?_, hz⟩
  have h1 : has (plus L k n.toNat) k = true := has_iff.2 ⟨k, rfl, by rw [plus_length]; exact hk⟩
  have h2 : atOf (plus L k n.toNat) k = atOf L k + n.toNat := at_set_self hk
  rw [e]
  simp [bytesOf, hx, h1, h2]
  omega
theorem bytes_le (L : List Nat) (x : Int) : bytesOf L x ≤ total L := by
  unfold bytesOf
  split
  · exact at_le _ _
  · omega

set_option maxRecDepth 100000 in
set_option maxHeartbeats 8000000 in
theorem fitsLaw_near (re sh cl nn n0 : Int) (A : Option Addr) (n c : Nat) (X Y Z V : Nat → Int) (w : World) (hn : n ≤ 60) (hr0 : 0 ≤ re) (hr1 : re ≤ 4294967295) (hs0 : 0 ≤ sh) (hs1 : sh ≤ 4294967295) (hp0 : -128 ≤ cl) (hp1 : cl ≤ 127) (hq0 : -9223372036854775808 ≤ nn) (hq1 : nn ≤ 9223372036854775807) (ha : ActsIn w A n X Y Z V) :
    Calls Try.prog 6 #[.int .u32 re, .int .u32 sh, .slice A n c, .int .i8 cl, .int .i64 nn, .int .i64 n0] w fun e w' => e = .returned (.bool true) ∧ Below w.heap.size w w' := by
  have HA := Lib.hid ha
  clear ha
  have hd : decide ((60 : Int) < (n : Int)) = false := by simp; omega
  have hd' : decide (60 < n) = false := by simp; omega
  obtain ⟨R, hR⟩ : ∃ R : Nat, re % 1073741824 = R := ⟨(re % 1073741824).toNat, by omega⟩
  obtain ⟨S, hS⟩ : ∃ S : Nat, sh % 1073741824 = S := ⟨(sh % 1073741824).toNat, by omega⟩
  have hR2 : R ≤ 1073741824 := by omega
  have hS2 : S ≤ 1073741824 := by omega
  go_enter Try.func6, Try.ntmps6
  go_wp2_with (first | (go_at_call 7; (with_reducible refine (awake_any _).mono ?_); rintro e w1 ⟨rfl, hb1⟩; have W1 := Lib.hid hb1; clear hb1) | (go_at_call 8; (with_reducible refine (new_ 5 R S _ _ _ _ (by omega) (by omega) (by omega) (by omega) (by omega) hR2 hS2).mono ?_); rintro e w2 ⟨g, q, rfl, hr, a1, a2, hb2⟩; have R2 := Lib.hid hr; have W2 : Hid (Below w.heap.size w w2) := W1.out.trans (hb2.mono W1.out.size); have hsz1 := W1.out.size; have a1' : w.heap.size ≤ g := (by omega); have a2' : w.heap.size ≤ q := (by omega); clear hr hb2 W1 hsz1 a1 a2))
  go_loopw [15, 39] (fun _ i w' => ∃ k : Nat, k ≤ n ∧ i = .int .i64 k ∧ SumRel w g q R S w') (fun _ i _ => n - (intOf i).toNat)
  case atStart => exact ⟨0, by omega, rfl, _, R2.out, W2.out⟩
  case round =>
    clear R2 W2
    obtain ⟨k, hk, rfl, L, hr1, hr4⟩ := hrel
    have R3 := Lib.hid hr1
    have W3 := Lib.hid hr4
    clear hr1 hr4
    by_cases hlt : k < n
    · have hd5 : decide ((k : Int) < (n : Int)) = true := by simp; omega
      obtain ⟨a, rfl, hca, hcb, hcc, hcv, hx0, hx1, hy0, hy1, hz0, hz1, hv0, hv1⟩ := HA.out k hlt
      have hcb' : wr.cell? (a.add (k * 4 + 1)) = some (.int .i8 (Y k)) := (W3.out.cell (World.block_lt_of_cell? w _ hcb)).trans hcb
      have hcv' : wr.cell? (a.add (k * 4 + 3)) = some (.int .i64 (V k)) := (W3.out.cell (World.block_lt_of_cell? w _ hcv)).trans hcv
      rw [addr_one] at hcb'
      rw [addr_three] at hcv'
      generalize Y k = Y0 at *
      generalize V k = V0 at *
      clear hca hcb hcc hcv hx0 hx1 hz0 hz1
      have HW : Hid (IntKind.i64.wrap Y0 = Y0) := by show _ = _; rw [IntKind.wrap_i64]; omega
      go_wp2_with fail
      go_region_with (go_at_call 13; rw [HW.out]; (with_reducible refine (add_ g q R S _ _ L _ R3.out.drew).mono ?_); rintro e w5 ⟨rfl, hq5, hf5⟩; have HR : Hid (SumRel w g q R S w5) := ⟨_, hq5, below_two W3.out.drew hf5 a1' a2' W3.out.drew.size⟩; clear hq5 hf5)
      all_goals
        go_wp2_with fail
        go_roundw
        case rel => exact ⟨k + 1, by omega, by go_num, HR.out⟩
        case measure => simp [intOf]; omega
    · obtain rfl : k = n := by omega
      have hd5 : decide ((k : Int) < (k : Int)) = false := by simp
      clear HA hn hd hd' hlt hk
      have hby : bytesOf L cl ≤ 139586437120 := Nat.le_trans (bytes_le L cl) R3.out.ok.all
      have HB : Hid (∀ W1 W2 : World, Below w.heap.size w W1 → Far (two g q) W1 W2 → Below w.heap.size w W2) := fun W1 W2 hb hf => below_two hb hf a1' a2' hb.size
      rcases hf : fits R S L cl nn with _ | _
      · have he : addOf R S L cl nn = L := by simp [addOf, hf]
        go_wp2_with (first | (go_at_call 10; (with_reducible refine (fits_ g q R S _ _ L _ R3.out).mono ?_); rintro e w' ⟨rfl, N, rfl⟩; rw [hf]) | (go_at_call 9; (with_reducible refine (bytes_ g q R S _ L _ (R3.out.drewN N)).mono ?_); rintro e w' ⟨rfl, rfl⟩) | (go_at_call 13; (with_reducible refine (add_ g q R S _ _ L _ (R3.out.drewN N)).mono ?_); rintro e w6 ⟨rfl, hq6, hf6⟩; rw [hf]; rw [he] at hq6; have Q6 := Lib.hid hq6; have B6 := Lib.hid (HB.out _ _ (below_drewN W3.out N) hf6); clear hq6 hf6) | (go_at_call 9; (with_reducible refine (bytes_ g q R S _ L _ Q6.out).mono ?_); rintro e w' ⟨rfl, rfl⟩))
        go_ret
        exact ⟨rfl, B6.out⟩
      · obtain ⟨hb1, hb2, hb3⟩ := fits_bytes hf
        have HL := Lib.hid (fun h0 h1 => fits_less (l := n0) hf h0 h1)
        have HF := Lib.hid hf
        have HB1 := Lib.hid hb1
        clear hb1 hf
        by_cases l0 : 0 ≤ n0
        · have d0 : decide (0 ≤ n0) = true := by simpa using l0
          by_cases l1 : n0 ≤ nn
          · have d1 : decide (n0 ≤ nn) = true := by simpa using l1
            have HL2 := Lib.hid (HL.out l0 l1)
            clear HL
            go_wp2_with (first | (go_at_call 10; (with_reducible refine (fits_ g q R S _ _ L _ R3.out).mono ?_); rintro e w' ⟨rfl, N, rfl⟩; rw [HF.out]) | (go_at_call 10; (with_reducible refine (fits_ g q R S _ _ L _ (R3.out.drewN N)).mono ?_); rintro e w' ⟨rfl, N2, rfl⟩; rw [HL2.out]; rw [World.drewN_drewN]) | (go_at_call 9; (with_reducible refine (bytes_ g q R S _ L _ (R3.out.drewN _)).mono ?_); rintro e w' ⟨rfl, rfl⟩) | (go_at_call 13; (with_reducible refine (add_ g q R S _ _ L _ (R3.out.drewN _)).mono ?_); rintro e w6 ⟨rfl, hq6, hf6⟩; rw [HF.out]; have Q6 := Lib.hid hq6; have B6 := Lib.hid (HB.out _ _ (below_drewN W3.out _) hf6); clear hq6 hf6) | (go_at_call 9; (with_reducible refine (bytes_ g q R S _ (addOf R S L cl nn) _ Q6.out).mono ?_); rintro e w' ⟨rfl, rfl⟩; rw [HB1.out]))
            go_ret
            exact ⟨rfl, B6.out⟩
          · have d1 : decide (n0 ≤ nn) = false := by simpa using l1
            clear HL
            go_wp2_with (first | (go_at_call 10; (with_reducible refine (fits_ g q R S _ _ L _ R3.out).mono ?_); rintro e w' ⟨rfl, N, rfl⟩; rw [HF.out]) | (go_at_call 9; (with_reducible refine (bytes_ g q R S _ L _ (R3.out.drewN _)).mono ?_); rintro e w' ⟨rfl, rfl⟩) | (go_at_call 13; (with_reducible refine (add_ g q R S _ _ L _ (R3.out.drewN _)).mono ?_); rintro e w6 ⟨rfl, hq6, hf6⟩; rw [HF.out]; have Q6 := Lib.hid hq6; have B6 := Lib.hid (HB.out _ _ (below_drewN W3.out _) hf6); clear hq6 hf6) | (go_at_call 9; (with_reducible refine (bytes_ g q R S _ (addOf R S L cl nn) _ Q6.out).mono ?_); rintro e w' ⟨rfl, rfl⟩; rw [HB1.out]))
            go_ret
            exact ⟨rfl, B6.out⟩
        · have d0 : decide (0 ≤ n0) = false := by simpa using l0
          clear HL
          go_wp2_with (first | (go_at_call 10; (with_reducible refine (fits_ g q R S _ _ L _ R3.out).mono ?_); rintro e w' ⟨rfl, N, rfl⟩; rw [HF.out]) | (go_at_call 9; (with_reducible refine (bytes_ g q R S _ L _ (R3.out.drewN _)).mono ?_); rintro e w' ⟨rfl, rfl⟩) | (go_at_call 13; (with_reducible refine (add_ g q R S _ _ L _ (R3.out.drewN _)).mono ?_); rintro e w6 ⟨rfl, hq6, hf6⟩; rw [HF.out]; have Q6 := Lib.hid hq6; have B6 := Lib.hid (HB.out _ _ (below_drewN W3.out _) hf6); clear hq6 hf6) | (go_at_call 9; (with_reducible refine (bytes_ g q R S _ (addOf R S L cl nn) _ Q6.out).mono ?_); rintro e w' ⟨rfl, rfl⟩; rw [HB1.out]))
          go_ret
          exact ⟨rfl, B6.out⟩

set_option maxRecDepth 100000 in
set_option maxHeartbeats 2000000 in
theorem fitsLaw_far (re sh cl nn n0 : Int) (A : Option Addr) (n c : Nat) (w : World) (hn : 60 < n) :
    Calls Try.prog 6 #[.int .u32 re, .int .u32 sh, .slice A n c, .int .i8 cl, .int .i64 nn, .int .i64 n0] w fun e w' => e = .returned (.bool true) ∧ Below w.heap.size w w' := by
  have hd : decide ((60 : Int) < (n : Int)) = true := by simp; omega
  have hd' : decide (60 < n) = true := by simp; omega
  go_enter Try.func6, Try.ntmps6
  go_wp2_with fail
  refine (awake_any _).mono ?_
  rintro e w1 ⟨rfl, hb1⟩
  have W1 := Lib.hid hb1
  clear hb1
  go_wp2_with fail
  refine (awake_any _).mono ?_
  rintro e w2 ⟨rfl, hb2⟩
  have W2 : Hid (Below w.heap.size w w2) := W1.out.trans (hb2.mono W1.out.size)
  clear hb2
  go_wp2_with fail
  go_ret
  exact ⟨rfl, W2.out⟩
end Go.Proofs.Ytgjicnjibhofkaa
