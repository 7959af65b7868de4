/- The walk of the law SlabNone: for any number of places and any place it returns true and turns nothing that was there. -/
import Derived.Test.YtmkegonlepkhdaaIns
namespace Go.Proofs.Ytmkegonlepkhdaa
open Go.RowKit

theorem bare_new (n : Nat) (x : Int) : Bare (List.replicate n none) x := by
  by_cases h : x < 0 ∨ (n : Int) ≤ x
  · exact .inl (by simpa using h)
  · refine .inr ⟨x.toNat, by omega, ?_⟩
    rw [List.getElem?_replicate, if_pos (by omega)]

set_option maxHeartbeats 2000000 in
theorem none_any (a x : Int) (w : World) (h0 : 0 ≤ a) (h1 : a ≤ 65535) :
    Calls Try.prog 5 #[.int .u16 a, .int .i64 x] w fun e w' => e = .returned (.bool true) ∧ Below w.heap.size w w' := by
  obtain ⟨n, hn⟩ : ∃ n : Nat, 1 + a % 4096 = n := ⟨(1 + a % 4096).toNat, by omega⟩
  have hn1 : 1 ≤ n ∧ n ≤ 4096 := by omega
  have HBR := Lib.hid (bare_new n x)
  go_enter Try.func5, Try.ntmps5
  go_wp2_with (first | (go_at_call 7; (with_reducible refine (awake_any _).mono ?_); rintro e w1 ⟨rfl, hb1⟩; have W1 := Lib.hid hb1; clear hb1)  | (go_at_call 8; (with_reducible refine (new_I n _ _ (by omega) hn1.1 hn1.2).mono ?_); rintro e w2 ⟨g, q, f, rfl, hr, _, hb2⟩; have R2 := Lib.hid hr; have W2 : Hid (Below w.heap.size w w2) := W1.out.trans (hb2.mono W1.out.size); clear hr hb2)  | (go_at_call 14; (with_reducible refine (getno_I g q f n _ _ _ _ R2.out HBR.out).mono ?_); rintro e w' ⟨rfl, rfl⟩)  | (go_at_call 12; (with_reducible refine (giveno_I g q f n _ _ _ _ R2.out HBR.out).mono ?_); rintro e w' ⟨rfl, rfl⟩)  | (go_at_call 13; (with_reducible refine (setno_I g q f n _ _ _ _ _ R2.out HBR.out).mono ?_); rintro e w' ⟨rfl, rfl⟩)  | (go_at_call 9; (with_reducible refine (freein_I g q f n n _ _ _ R2.out (by simp)).mono ?_); rintro e w' ⟨rfl, rfl⟩))
  go_ret
  exact ⟨rfl, W2.out⟩
end Go.Proofs.Ytmkegonlepkhdaa
