/- The walk of the law TurnsSleep where there are too many acts. -/
import Derived.Test.YtknalphhnicffaaSleepWalk
namespace Go.Proofs.Ytknalphhnicffaa
open Go.RowKit
section
variable {At : (Nat → Prop) → World → Nat → Nat → Nat → List Cls → Prop}
theorem acts_below {w W : World} {A : Option Addr} {n : Nat} {T : Nat → ActIn} (ha : ActsIn w A n T) (hB : Below w.heap.size w W) : ActsIn W A n T := fun k hk => by
  obtain ⟨a, e, h1, h2, h3, h4, h5, h6⟩ := ha k hk
  exact ⟨a, e, keep9 hB h1, keep9 hB h2, keep9 hB h3, h4.below hB, fun ad e hm => Nat.lt_of_lt_of_le (h5 ad e hm) hB.size, h6⟩
set_option maxRecDepth 100000 in
set_option maxHeartbeats 2000000 in
theorem sleep_far (P : Prog At) (A : Option Addr) (n cc : Nat) (c : Int) (T : Nat → ActIn) (w : World) (hm : n ≤ maxLen) (hn : fewOf n T = false ∨ 30 < n) (ha : ActsIn w A n T) :
    Calls Try.prog 7 #[.slice A n cc, .int .i8 c] w fun e w' => e = .returned (.bool true) ∧ Below w.heap.size w w' := by
  have HP := Lib.hid P
  have HFW := Lib.hid (fun W (hB : Below w.heap.size w W) => few_ A n cc T W hm (acts_below ha hB))
  clear ha P hm
  rcases hf : fewOf n T with _ | _
  · rw [hf] at HFW
    clear hn hf
    go_enter Try.func7, Try.ntmps7
    go_wp2_with fail
    refine (awake_any HP.out _).mono ?_
    rintro e w1 ⟨rfl, hb1⟩
    have W1 := Lib.hid hb1
    clear hb1
    go_wp2_with fail
    refine (HFW.out _ W1.out).mono ?_
    rintro e w' ⟨rfl, rfl⟩
    go_wp2_with fail
    refine (awake_any HP.out _).mono ?_
    rintro e w2 ⟨rfl, hb2⟩
    have W2 : Hid (Below w.heap.size w w2) := W1.out.trans (hb2.mono W1.out.size)
    clear hb2
    go_wp2_with fail
    go_ret
    exact ⟨rfl, W2.out⟩
  · rw [hf] at HFW
    have h30 : 30 < n := by rcases hn with h | h; · rw [hf] at h; cases h
                            · exact h
    have hd : decide ((30 : Int) < (n : Int)) = true := by simp; omega
    have hd' : decide (30 < n) = true := by simp; omega
    clear hn hf
    go_enter Try.func7, Try.ntmps7
    go_wp2_with fail
    refine (awake_any HP.out _).mono ?_
    rintro e w1 ⟨rfl, hb1⟩
    have W1 := Lib.hid hb1
    clear hb1
    go_wp2_with fail
    refine (HFW.out _ W1.out).mono ?_
    rintro e w' ⟨rfl, rfl⟩
    go_wp2_with fail
    refine (awake_any HP.out _).mono ?_
    rintro e w2 ⟨rfl, hb2⟩
    have W2 : Hid (Below w.heap.size w w2) := W1.out.trans (hb2.mono W1.out.size)
    clear hb2
    go_wp2_with fail
    go_ret
    exact ⟨rfl, W2.out⟩
end
end Go.Proofs.Ytknalphhnicffaa
