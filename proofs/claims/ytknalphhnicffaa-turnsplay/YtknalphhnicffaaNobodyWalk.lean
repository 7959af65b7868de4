/- The walk of the law TurnsNobody over the program's contracts. -/
import Derived.Test.YtknalphhnicffaaAwake
namespace Go.Proofs.Ytknalphhnicffaa
open Go.RowKit

theorem picks_none {Q : Nat} {hd : Nat → Int} : ∀ {L : List Cls}, (∀ x ∈ L, hd x.n < 1) → Picks Q hd L [] none
  | [], _ => .none_
  | x :: _, h => .sleeps (h x (by simp)) (picks_none (fun y hy => h y (by simp [hy])))
theorem names_lt {n Q : Nat} {L : List Cls} (h : Ok n Q L) : L.length ≤ n := by
  have h1 : (names L).length ≤ (List.range n).length := by
    apply List.Nodup.length_le_of_subset h.nodup
    intro k hk
    obtain ⟨x, hx, rfl⟩ := List.mem_map.1 hk
    exact List.mem_range.2 (h.lt x hx)
  rwa [names_length, List.length_range] at h1
/-- Where the loop stands. -/
def NobRel (At : (Nat → Prop) → World → Nat → Nat → Nat → List Cls → Prop) (w : World) (g n Q : Nat) (w' : World) : Prop := ∃ L, At (from_ w.heap.size) w' g n Q L ∧ Below w.heap.size w w'
/-- Bytes that came in. -/
def BytesIn (w : World) (A : Option Addr) (n : Nat) (X : Nat → Int) : Prop := ∀ k, k < n → ∃ a : Addr, A = some a ∧ w.cell? (a.add k) = some (.int .u8 (X k)) ∧ 0 ≤ X k ∧ X k ≤ 255

section
variable {At : (Nat → Prop) → World → Nat → Nat → Nat → List Cls → Prop}
set_option maxRecDepth 100000 in
set_option maxHeartbeats 4000000 in
theorem nobody_near (P : Prog At) (A : Option Addr) (n c : Nat) (X : Nat → Int) (w : World) (hn : n ≤ 20) (ha : BytesIn w A n X) :
    Calls Try.prog 5 #[.slice A n c] w fun e w' => e = .returned (.bool true) ∧ Below w.heap.size w w' := by
  have HP := Lib.hid P
  have HA := Lib.hid ha
  clear ha P
  have hd : decide ((20 : Int) < (n : Int)) = false := by simp; omega
  have hd' : decide (20 < n) = false := by simp; omega
  go_enter Try.func5, Try.ntmps5
  go_wp2_with (first | (go_at_call 8; (with_reducible refine (awake_any HP.out _).mono ?_); rintro e w1 ⟨rfl, hb1⟩; have W1 := Lib.hid hb1; clear hb1) | (go_at_call 10; (with_reducible refine (HP.out.new 100 5 _ _ _ (by omega) (by omega) (by omega) (by omega) (by omega) (by omega)).mono ?_); rintro e w2 ⟨g, rfl, hr, hb⟩; have R2 : Hid (At (from_ w.heap.size) w2 g 100 5 []) := HP.out.weak hr (fun k hk h => Nat.le_trans W1.out.size h); have W2 : Hid (Below w.heap.size w w2) := W1.out.trans (hb.mono W1.out.size); clear hr hb))
  clear W1
  go_loopw [5, 26] (fun _ i w' => ∃ k : Nat, k ≤ n ∧ i = .int .i64 k ∧ NobRel At w g 100 5 w') (fun _ i _ => n - (intOf i).toNat)
  case atStart => exact ⟨0, by omega, rfl, _, R2.out, W2.out⟩
  case round =>
    clear R2 W2
    obtain ⟨k, hk, rfl, L, hr1, hr4⟩ := hrel
    have R3 := Lib.hid hr1
    have W3 := Lib.hid hr4
    clear hr1 hr4
    by_cases hlt : k < n
    · have hd5 : decide ((k : Int) < (n : Int)) = true := by simp; omega
      obtain ⟨a, rfl, hca, hx0, hx1⟩ := HA.out k hlt
      have hca' : wr.cell? (a.add k) = some (.int .u8 (X k)) := (W3.out.cell (World.block_lt_of_cell? w _ hca)).trans hca
      generalize X k = X0 at *
      clear hca
      go_wp2_with (go_at_call 11; (with_reducible refine (HP.out.wake _ g 100 5 _ L _ R3.out (from_le W3.out)).mono ?_); rintro e w4 ⟨rfl, hr, hf⟩; have HR : Hid (NobRel At w g 100 5 w4) := ⟨_, hr, below_far W3.out hf from_id W3.out.size⟩; clear hr hf)
      go_roundw
      case rel => exact ⟨k + 1, by omega, by go_num, HR.out⟩
      case measure => simp [intOf]; omega
    · obtain rfl : k = n := by omega
      have hd5 : decide ((k : Int) < (k : Int)) = false := by simp
      have hll : L.length ≤ 100 := names_lt (HP.out.ok R3.out)
      have HPK : Hid (Picks 5 (hdOf []) L [] none) := picks_none (fun x _ => by simp [hdOf])
      clear HA hlt hk
      go_upto_region 10 with (go_at_call 12; (with_reducible refine (HP.out.awake _ g 100 5 L _ R3.out).mono ?_); rintro e w4 ⟨⟨A4, c4, rfl, hv, _⟩, hb⟩; have R4 := Lib.hid (HP.out.below R3.out hb); have V4 := Lib.hid hv; have W4 : Hid (Below w.heap.size w w4) := W3.out.trans (hb.mono W3.out.size); clear hv hb)
      go_upto_region 11 with (go_at_call 16; (with_reducible refine (HP.out.picknil _ g 100 5 L _ R4.out).mono ?_); rintro e w5 ⟨rfl, hb⟩; have R5 := Lib.hid (HP.out.below R4.out hb); have V5 := Lib.hid (V4.out.below hb); have W5 : Hid (Below w.heap.size w w5) := W4.out.trans (hb.mono W4.out.size); clear hb)
      go_upto_region 12 with (first | (go_at_call 12; (with_reducible refine (HP.out.awake _ g 100 5 L _ R5.out).mono ?_); rintro e w6 ⟨⟨A6, c6, rfl, hv, _⟩, hb⟩; have R6 := Lib.hid (HP.out.below R5.out hb); have V6 := Lib.hid hv; have V6' := Lib.hid (V5.out.below hb); have W6 : Hid (Below w.heap.size w w6) := W5.out.trans (hb.mono W5.out.size); clear hv hb) | (go_at_call 18; (with_reducible refine (ints_alike A6 A4 L.length _ _ (who L) _ (by omega) V6.out V6'.out).mono ?_); rintro e w7 ⟨rfl, hb⟩; have R7 := Lib.hid (HP.out.below R6.out hb); have W7 : Hid (Below w.heap.size w w7) := W6.out.trans (hb.mono W6.out.size); clear hb))
      go_wp2_with (first | (go_at_call 16; (with_reducible refine (HP.out.pick _ g 100 5 none 0 0 [] L [] none _ R7.out (from_le W7.out) len_no (vals_no _) none_not HPK.out).mono ?_); rintro e w8 ⟨rfl, hr, hf⟩; have R8 := Lib.hid hr; have W8 : Hid (Below w.heap.size w w8) := below_far W7.out hf from_id W7.out.size; clear hr hf) | (go_at_call 12; (with_reducible refine (HP.out.awake _ g 100 5 [] _ R8.out).mono ?_); rintro e w9 ⟨⟨A9, c9, rfl, hv, _⟩, hb⟩; have W9 : Hid (Below w.heap.size w w9) := W8.out.trans (hb.mono W8.out.size); clear hv hb))
      go_ret
      exact ⟨rfl, W9.out⟩
set_option maxRecDepth 100000 in
set_option maxHeartbeats 2000000 in
theorem nobody_far (P : Prog At) (A : Option Addr) (n c : Nat) (w : World) (hn : 20 < n) :
    Calls Try.prog 5 #[.slice A n c] w fun e w' => e = .returned (.bool true) ∧ Below w.heap.size w w' := by
  have HP := Lib.hid P
  clear P
  have hd : decide ((20 : Int) < (n : Int)) = true := by simp; omega
  have hd' : decide (20 < n) = true := by simp; omega
  go_enter Try.func5, Try.ntmps5
  go_wp2_with fail
  refine (awake_any HP.out _).mono ?_
  rintro e w1 ⟨rfl, hb1⟩
  have W1 := Lib.hid hb1
  clear hb1
  go_wp2_with fail
  refine (awake_any HP.out _).mono ?_
  rintro e w2 ⟨rfl, hb2⟩
  have W2 : Hid (Below w.heap.size w w2) := W1.out.trans (hb2.mono W1.out.size)
  clear hb2
  go_wp2_with fail
  go_ret
  exact ⟨rfl, W2.out⟩
end
end Go.Proofs.Ytknalphhnicffaa
