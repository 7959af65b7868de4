/- The walk of the law FrameLong: for any two bytes it returns true and turns nothing that was there. -/
import Derived.Test.YtebpemknmcgamaaAwake
namespace Go.Proofs.Ytebpemknmcgamaa
open Go.RowKit

/-- The first k of n bytes are c. -/
def full (n k : Nat) (c : Int) : List Int := List.replicate k c ++ List.replicate (n - k) 0
theorem full_length {n k : Nat} {c : Int} (h : k ≤ n) : (full n k c).length = n := by simp [full]; omega
theorem full_set {n k : Nat} {c : Int} (h : k < n) : (full n k c).set k c = full n (k + 1) c := by
  unfold full
  rw [List.set_append_right _ _ (by simp), List.length_replicate, Nat.sub_self, show n - k = (n - (k + 1)) + 1 by omega, List.replicate_succ (n := n - (k + 1)), List.set_cons_zero, List.replicate_succ', List.append_assoc]
  rfl
theorem full_octs {n k : Nat} {c : Int} (h : 0 ≤ c ∧ c ≤ 255) : Octs (full n k c) := fun z hz => by
  rcases List.mem_append.1 hz with hz | hz
  · rw [List.eq_of_mem_replicate hz]; exact h
  · rw [List.eq_of_mem_replicate hz]; exact ⟨by decide, by decide⟩
theorem full_new (w : World) (n : Nat) (c : Int) : Blk (w.alloc (.cells (madeCells #[.int .u8 0] n) 5)) w.heap.size 5 (cel (full n 0 c)) := by
  have h : madeCells #[.int .u8 0] n = (cel (full n 0 c)).toArray := by
    apply Array.toList_inj.1
    rw [toList_madeCells_one]
    simp [full, cel]
  rw [h]
  exact Blk.new w 5 _

set_option maxRecDepth 100000 in
set_option maxHeartbeats 2000000 in
theorem long_any (C : Prog) (c : Int) (m : Nat) (w : World) (hc : 0 ≤ c ∧ c ≤ 255) (hm : m ≤ 255) : Calls Try.prog 6 #[.int .u8 c, .int .u8 ((m : Nat) : Int)] w fun e w' => e = .returned (.bool true) ∧ Below w.heap.size w w' := by
  have LZ : Hid (pak0.length = 46) := (rfl : _ = _)
  obtain ⟨N, hN⟩ : ∃ N, N = 9217 + m := ⟨_, rfl⟩
  have hmk : ∀ W, (Instr.makeSlice 22 (.int .i64 (9217 + (m : Int))) (.int .i64 (9217 + (m : Int)))).run Try.prog W = .ok (.slice (some ⟨W.heap.size, 0, none⟩) N N) (W.alloc (.cells (madeCells #[.int .u8 0] N) 5)) := fun W => by
    have := run_make_row' (P := Try.prog) 22 5 (.int .u8 0) 1 Try.underlying22 info5 rfl .i64 .i64 N (by omega) (by omega) W
    rw [show ((N : Nat) : Int) = 9217 + (m : Int) by omega] at this
    exact this
  have hN2 : 9217 ≤ N ∧ N ≤ 9472 := by omega
  clear hN
  go_enter Try.func6, Try.ntmps6
  go_upto_region 3 with (go_at_call 9; (with_reducible refine (awake_any C _).mono ?_); rintro e x1 ⟨rfl, hb⟩; have W1 := Lib.hid hb; clear hb)
  have B2 := Lib.hid (full_new x1 N c)
  have W2 : Hid (Below w.heap.size w (x1.alloc (.cells (madeCells #[.int .u8 0] N) 5))) := W1.out.alloc W1.out.size _
  go_upto_region 4 with (fail)
  generalize (x1.alloc (.cells (madeCells #[.int .u8 0] N) 5)) = x2 at *
  have hg : w.heap.size ≤ x1.heap.size := W1.out.size
  generalize x1.heap.size = G at *
  clear hmk
  go_wp2_with fail
  go_loopw [6, 17] (fun _ y w' => ∃ k : Nat, y = .int .i64 (k : Nat) ∧ k ≤ N ∧ Blk w' G 5 (cel (full N k c)) ∧ Below w.heap.size w w') (fun _ y _ => N - (intOf y).toNat)
  case atStart => exact ⟨0, rfl, by omega, B2.out, W2.out⟩
  case round =>
    obtain ⟨k, rfl, hk, hB, hW⟩ := hrel
    clear B2 W2
    have HB := Lib.hid hB
    have HW := Lib.hid hW
    clear hB hW
    by_cases hlt : k < N
    · obtain ⟨u, cp⟩ : ∃ u, wr.cell? ⟨G, k, none⟩ = some u := ⟨_, (HB.out.cell k).trans (List.getElem?_eq_getElem (by rw [cel_length, full_length hk]; exact hlt))⟩
      have fp := HB.out.frozen k
      have HN : Hid (Blk (wr.setCell ⟨G, k, none⟩ (.int .u8 c)) G 5 (cel (full N (k + 1) c))) := by
        have := HB.out.set_ k (.int .u8 c)
        refine Lib.hid ?_
        rw [← full_set hlt]
        simpa [cel, List.map_set] using this
      have HWN : Hid (Below w.heap.size w (wr.setCell ⟨G, k, none⟩ (.int .u8 c))) := HW.out.setCell (p := ⟨G, k, none⟩) hg _
      go_wp2
      go_roundw
      case rel => exact ⟨k + 1, by go_num, by omega, HN.out, HWN.out⟩
      case measure => simp [intOf]; omega
    · have HB2 : Hid (Byts wr (some ⟨G, 0, none⟩) N (full N N c)) := by
        have e : k = N := by omega
        have := HB.out
        rw [e] at this
        exact Byts.of_all this (full_length (Nat.le_refl _))
      have hq := eq_pak0
      go_wp2_with (first | (refine wpList_build rfl 32 [] rfl [] rfl pak0 (run_pak0 _) ?_) | (go_at_call 10; (with_reducible refine (C.parse (some ⟨G, 0, none⟩) N N 7 (full N N c) pak0 _ HB2.out (full_octs hc) (by omega) (Nat.le_refl _) (pk_long (by rw [full_length (Nat.le_refl _)]; omega))).mono ?_); rintro e x3 ⟨rfl, hb⟩; have W3 : Hid (Below w.heap.size w x3) := HW.out.trans (hb.mono HW.out.size); clear hb) | (refine wpList_packet rfl (.tmp 7) (.tmp 28) rfl x3 pak0 rfl rfl LZ.out (one_all pak_each) ?_; intro x4 B4 hb; have W4 : Hid (Below w.heap.size w x4) := W3.out.trans (hb.out.mono W3.out.size); clear hb) | (refine wpList_whole_packet (by rfl) (.tmp 7) rfl x3.heap.size rfl pak0 B4.out LZ.out ?_))
      go_ret
      exact ⟨rfl, W4.out⟩
end Go.Proofs.Ytebpemknmcgamaa
