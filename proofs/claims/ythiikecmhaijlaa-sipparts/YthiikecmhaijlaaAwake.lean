/- The contract of the laws' awake: it returns true. Conditions: those of each theorem. -/
import Derived.Test.YthiikecmhaijlaaRefSum
namespace Go.Proofs.Ythiikecmhaijlaa
open Go.RowKit

/-- One part alone, in a new list. -/
theorem PartsAt.one {w : World} {A : Option Addr} {n c : Nat} {l : List Nat} (h : Vals w A n (cel l)) : PartsAt (w.alloc (.cells #[.slice A n c] 23)) (some ⟨w.heap.size, 0, none⟩) 1 [l] := by
  have hn : l.length = n := by have := h.1; rw [cel_length] at this; exact this
  subst hn
  refine ⟨rfl, fun i hi => ⟨_, A, c, rfl, ?_, ?_⟩⟩
  · obtain rfl : i = 0 := by omega
    rw [Addr.add_at]
    exact (Blk.new w 23 [.slice A l.length c]).cell 0
  · obtain rfl : i = 0 := by omega
    exact h.below ((Below.refl _ _).alloc (Nat.le_refl _) _)
theorem Small.one {l : List Nat} (h : Octs l) (hn : l.length ≤ 1000) : Small [l] := fun p hp => by
  simp at hp
  subst hp
  exact ⟨h, hn⟩
theorem octs_range {n : Nat} (h : n ≤ 256) : Octs (List.range n) := fun b hb => by have := List.mem_range.1 hb; omega
/-- A key that is filled up to i. -/
def keyUp (i : Nat) : List Nat := List.range i ++ List.replicate (16 - i) 0
theorem keyUp_set {i : Nat} (h : i < 16) : (cel (keyUp i)).set i (.int .u8 (i : Nat)) = cel (keyUp (i + 1)) := by
  unfold keyUp cel
  rw [List.map_append, List.set_append_right _ _ (by simp), show 16 - i = (16 - (i + 1)) + 1 by omega, List.replicate_succ, List.range_succ]
  simp
theorem keyUp_at {i : Nat} (h : i < 16) : (cel (keyUp i))[i]? = some (.int .u8 0) := by
  unfold keyUp cel
  rw [List.map_append, List.getElem?_append_right (by simp), show 16 - i = (16 - (i + 1)) + 1 by omega, List.replicate_succ]
  simp

set_option maxRecDepth 100000 in
set_option maxHeartbeats 2000000 in
theorem awake_any (w : World) : Calls Try.prog 6 #[] w fun e w' => e = .returned (.bool true) ∧ Below w.heap.size w w' := by
  have B0 : Hid (Blk (w.alloc (.cells (cel (keyUp 0)).toArray 22)) w.heap.size 22 (cel (keyUp 0))) := Blk.new w 22 _
  have W0 : Hid (Below w.heap.size w (w.alloc (.cells (cel (keyUp 0)).toArray 22))) := (Below.refl _ w).alloc (Nat.le_refl _) _
  go_enter Try.func6, Try.ntmps6
  go_upto_region 3 with (fail)
  change Code.wp _ _ _ _ (w.alloc (.cells (cel (keyUp 0)).toArray 22))
  generalize w.alloc (.cells (cel (keyUp 0)).toArray 22) = w0 at *
  go_wp2_with fail
  go_loopw [3, 5] (fun _ y w' => ∃ i : Nat, y = .int .i64 i ∧ i ≤ 16 ∧ Blk w' w.heap.size 22 (cel (keyUp i)) ∧ Below w.heap.size w w') (fun _ y _ => 16 - (intOf y).toNat)
  case atStart => exact ⟨0, rfl, by omega, B0.out, W0.out⟩
  case round =>
    obtain ⟨i, rfl, hi, hb, hw⟩ := hrel
    have HB := Lib.hid hb
    have HW := Lib.hid hw
    clear hb hw
    by_cases hlt : i < 16
    · have hd : decide ((i : Int) < 16) = true := by simp; omega
      have hc : wr.cell? ⟨w.heap.size, i, none⟩ = some (.int .u8 0) := (HB.out.cell i).trans (keyUp_at hlt)
      have hf := HB.out.frozen i
      have eb : IntKind.u8.wrap (i : Int) = i := u8_of (by omega)
      go_wp2_with fail
      refine ⟨⟨i + 1, by go_num, by omega, ?_, HW.out.setCell (by simp) _⟩, by simp [intOf]; omega⟩
      rw [← keyUp_set hlt]
      exact HB.out.set_ i _
    · have hd : decide ((i : Int) < 16) = false := by simp; omega
      have B1 : Hid (Blk wr w.heap.size 22 (cel (List.range 16))) := by
        have := HB.out
        rw [show i = 16 by omega] at this
        exact this
      clear HB
      go_wp2_with fail
      go_loopw [2, 4, 13] (fun r _ y w' => ∃ (i : Nat) (A : Option Addr) (c : Nat), y = .int .i64 i ∧ r = .slice A i c ∧ i ≤ 15 ∧ Blk w' w.heap.size 22 (cel (List.range 16)) ∧ w'.ownsRow w.heap.size 5 1 r i (cel (List.range i)) ∧ Below w.heap.size w w') (fun _ _ y _ => 15 - (intOf y).toNat)
      case atStart => exact ⟨0, none, 0, rfl, rfl, by omega, B1.out, World.ownsRow_nil _ _ _ _, HW.out⟩
      case round =>
        obtain ⟨j, A, c, rfl, rfl, hj, hb, ho, hw⟩ := hrel
        have HB := Lib.hid hb
        have HO := Lib.hid ho
        have HW2 := Lib.hid hw
        have hws := hw.size
        clear hb ho hw
        by_cases hlt2 : j < 15
        · have hd2 : decide ((j : Int) < 15) = true := by simp; omega
          have eb : IntKind.u8.wrap (j : Int) = j := u8_of (by omega)
          have HR : Hid (List.range j ++ [j] = List.range (j + 1)) := List.range_succ.symm
          go_wp2_with (at_builtin; refine wpList_app rfl (.tmp 16) (.tmp 19) rfl w.heap.size (.slice A j c) j (List.range j) rfl (by exact HO.out.alloc _) (some ⟨wr.heap.size, 0, none⟩) 1 1 [j] rfl (by exact Vals.of_blk (vs := cel [j]) (Blk.new wr 5 (cel [j])) rfl) (j + 1) rfl (List.range (j + 1)) HR.out (by omega) (by simp; omega) ?_; intro A4 c4 w4 H1 H2 H3)
          go_roundw
          case rel => exact ⟨j + 1, A4, c4, by go_num, rfl, by omega, (HB.out.alloc _).grown H2.out (HB.out.row_apart HO.out (by decide)), H1.out, (HW2.out.alloc hws _).grown H2.out (by simp; omega) (fun k e => (HO.out.lt k e).1)⟩
          case measure => simp [intOf]; omega
        · have hd2 : decide ((j : Int) < 15) = false := by simp; omega
          have HV : Hid (Vals wr A j (cel (List.range 15))) := by
            have := Vals.of_own HO.out
            rw [show List.range j = List.range 15 by rw [show j = 15 by omega]] at this
            exact this
          have HP := Lib.hid (PartsAt.one (c := c) HV.out)
          have HBA := Lib.hid (HB.out.alloc (.cells #[.slice A j c] 23))
          have h1 := Lib.hid (octs_range (n := 16) (by omega))
          have h2 := Lib.hid (Small.one (octs_range (n := 15) (by omega)) (by simp))
          have hsip : (((sip (List.range 16) [List.range 15].flatten : Nat) : Int) == 11613035633349379557) = true := by
            rw [show [List.range 15].flatten = List.range 15 by simp, sip_awake]
            rfl
          have hcall := sum_is (List.range 16) (some ⟨wr.heap.size, 0, none⟩) 1 1 [List.range 15] (wr.alloc (.cells #[.slice A j c] 23)) h1.out (by simp) HP.out (by omega) h2.out
          generalize sip (List.range 16) [List.range 15].flatten = s at hsip hcall
          have HC := Lib.hid hcall
          have H16 : Hid ((List.range 16).length = 16) := (List.length_range : _ = 16)
          clear hcall HP HV h1 h2 HO HBA
          generalize List.range 16 = K at *
          generalize List.range 15 = L at *
          have HW3 : Hid (Below w.heap.size w (wr.alloc (.cells #[.slice A j c] 23))) := HW2.out.alloc hws _
          go_wp2_with (first | (refine wpList_key rfl (.tmp 1) rfl w.heap.size rfl K HB.out H16.out ?_) | (go_at_call 8; (with_reducible refine HC.out.mono ?_); rintro e w5 ⟨rfl, hb5⟩; have W5 := Lib.hid (HW3.out.trans (hb5.mono HW3.out.size)); clear hb5))
          go_ret
          exact ⟨rfl, W5.out⟩
end Go.Proofs.Ythiikecmhaijlaa
