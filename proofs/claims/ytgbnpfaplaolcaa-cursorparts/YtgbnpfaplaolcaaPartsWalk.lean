/- The walk of the law CursorParts: for any two slices of bytes it returns true and turns nothing that was there. -/
import Derived.Test.YtgbnpfaplaolcaaSteps
namespace Go.Proofs.Ytgbnpfaplaolcaa
open Go.RowKit

set_option maxHeartbeats 400000 in
theorem parts_far (A B : Option Addr) (n c m d : Nat) (w : World) (hn : n ≤ 140737488355328) (hm : m ≤ 140737488355328) (h : 400 < n + m) :
    Calls Try.prog 6 #[.slice A n c, .slice B m d] w fun e w' => e = .returned (.bool true) ∧ Below w.heap.size w w' := by
  have hd : decide ((400 : Int) < (n : Int) + (m : Int)) = true := by simp; omega
  go_enter Try.func6, Try.ntmps6
  go_wp2_with fail
  refine (awake_any _).mono ?_
  rintro e w1 ⟨rfl, hb⟩
  have HB := Lib.hid hb
  clear hb
  go_wp2_with fail
  refine (awake_any _).mono ?_
  rintro e w2 ⟨rfl, hb⟩
  have HC := Lib.hid hb
  clear hb
  go_wp2
  go_ret
  exact ⟨rfl, HB.out.trans (HC.out.mono HB.out.size)⟩

set_option maxHeartbeats 1000000 in
theorem parts_near (A B : Option Addr) (n c m d : Nat) (za zb : List Int) (w : World) (h : n + m ≤ 400) (ha : Byts w A n za) (hb : Byts w B m zb) :
    Calls Try.prog 6 #[.slice A n c, .slice B m d] w fun e w' => e = .returned (.bool true) ∧ Below w.heap.size w w' := by
  have hd : decide ((400 : Int) < (n : Int) + (m : Int)) = false := by simp; omega
  have HA := Lib.hid ha
  have HB := Lib.hid hb
  clear ha hb
  go_enter Try.func6, Try.ntmps6
  have hl : (za ++ zb).length = n + m := by have := HA.out.1; have := HB.out.1; simp; omega
  go_wp2_with (first | (go_at_call 8; (with_reducible refine (awake_any _).mono ?_); rintro e w1 ⟨rfl, hb1⟩; have W1 := Lib.hid hb1; clear hb1) | (at_builtin; refine wpList_app_to rfl (.tmp 20) (.tmp 21) rfl w.heap.size _ 0 [] rfl (by exact World.ownsRow_made w1 #[] 0 W1.out.size (by decide) rfl) A n c za rfl (by exact HA.out.below (W1.out.alloc W1.out.size _)) n (by omega) za rfl (by omega) (by exact (W1.out.alloc W1.out.size _).size) ?_; intro A2 c2 w2 H1 H2 H3; have W2 : Hid (Below w.heap.size w w2) := (W1.out.alloc W1.out.size _).grown H2.out (W1.out.alloc W1.out.size _).size (fun k e => by cases e; exact W1.out.size); clear H2 H3) | (at_builtin; refine wpList_app_to rfl (.tmp 22) (.tmp 23) rfl w.heap.size _ n za rfl (by exact H1.out) B m d zb rfl (by exact HB.out.below W2.out) (n + m) rfl (za ++ zb) rfl (by omega) (by exact W2.out.size) ?_; intro A3 c3 w3 H4 H5 H6; have W3 : Hid (Below w.heap.size w w3) := W2.out.grown H5.out W2.out.size (fun k e => (H1.out.lt k e).1); clear H5 H6) | fail)
  have HL := Lib.hid hl
  clear hl
  refine (new_in A3 (n + m) c3 (za ++ zb) _ (by omega) (Byts.of_own H4.out)).mono ?_
  rintro e w4 ⟨g, q, rfl, hi, hg, hq, hb4⟩
  have HI := Lib.hid hi
  have hgw : w.heap.size ≤ g := Nat.le_trans W3.out.size hg
  have W4 : Hid (Below w.heap.size w w4) := W3.out.trans (hb4.mono W3.out.size)
  clear hi hb4
  go_wp2_with fail
  refine (raw_ok g q false (za ++ zb) n n _ HI.out rfl (by have := HL.out; omega) (by have := HL.out; omega)).mono ?_
  rintro e w5 ⟨bx, rfl, hbx, hbk, hi, hf⟩
  rw [List.take_left' HA.out.1] at hbk
  rw [List.drop_left' HA.out.1] at hi
  have hbg : bx ≠ g := by have := HI.out.lt; omega
  have HI2 := Lib.hid hi
  have HX := Lib.hid hbk
  have W5 : Hid (Below w.heap.size w w5) := below_only W4.out hf hgw W4.out.size
  clear hbk hi hf hbx
  go_wp2_with fail
  refine (raw_ok g q false zb m m _ HI2.out rfl (by have := HB.out.1; omega) (by have := HB.out.1; omega)).mono ?_
  rintro e w6 ⟨by_, rfl, hby, hbk, hi, hf⟩
  rw [List.take_of_length_le (by have := HB.out.1; omega)] at hbk
  rw [List.drop_of_length_le (by have := HB.out.1; omega)] at hi
  have HI3 := Lib.hid hi
  have HY := Lib.hid hbk
  have HX2 := Lib.hid (HX.out.far hf hbg)
  have W6 : Hid (Below w.heap.size w w6) := below_only W5.out hf hgw W5.out.size
  clear hbk hi hf hby
  go_wp2_with fail
  refine (done_any g q false [] true _ HI3.out rfl).mono ?_
  rintro e w' ⟨rfl, rfl⟩
  have t1 := text_is n (Byts.of_all HX2.out HA.out.1)
  have t2 := text_is c (HA.out.below W6.out)
  have t3 := text_is m (Byts.of_all HY.out HB.out.1)
  have t4 := text_is d (HB.out.below W6.out)
  go_wp2_with fail
  clear t1 t2 t3 t4
  refine (raw_bad g q false [] 1 _ HI3.out (.inr (by decide))).mono ?_
  rintro e w7 ⟨bz, rfl, hbz, hbk, hi, hf⟩
  have HI4 := Lib.hid hi
  have W7 : Hid (Below w.heap.size w w7) := below_only W6.out hf hgw W6.out.size
  clear hbk hi hf hbz
  go_wp2_with fail
  refine (bad_any g q true _ _ HI4.out).mono ?_
  rintro e w' ⟨rfl, rfl⟩
  go_wp2
  go_ret
  exact ⟨rfl, W7.out⟩
end Go.Proofs.Ytgbnpfaplaolcaa
