/- The contract of sort.Search. Conditions: what it is handed tells false up to a place, true from there on. -/
import Derived.Test.YtpjeeccgpnpokaaTCmp
import Derived.Deep.LoopGhost
namespace Go.Proofs.Ytpjeeccgpnpokaa
open Go.RowKit

set_option maxHeartbeats 1000000 in
theorem search_ (g : Nat) (u0 u1 : Value) (n m : Nat) (p : Nat → Bool) (w : World) (eg : ∀ args W, (callFunc g args).run Try.prog W = .ok (.enter g args) W) (hn : n ≤ 1000) (hm : m ≤ n)
    (hl : ∀ t, t < m → p t = false) (hr : ∀ t, m ≤ t → t < n → p t = true)
    (hf : ∀ (i : Nat) W, i < n → Below w.heap.size w W → Calls Try.prog g #[.int .i64 (i : Int), u0, u1] W fun e W' => e = .returned (.bool (p i)) ∧ Below W.heap.size W W') :
    Calls Try.prog 41 #[.int .i64 (n : Int), .func (.func g) #[] #[u0, u1]] w (Ans (.int .i64 (m : Nat)) w) := by
  have HF := Lib.hid hf
  have HL := Lib.hid hl
  have HR := Lib.hid hr
  have W0 := Lib.hid (Below.refl w.heap.size w)
  clear hf hl hr
  go_enter Try.func41, Try.ntmps41
  go_wp2
  go_loopg [5, 6] n (fun kx s5 s6 wr => ∃ (lo hi : Nat), s5 = .int .i64 lo ∧ s6 = .int .i64 hi ∧ lo ≤ m ∧ m ≤ hi ∧ hi ≤ n ∧ hi - lo ≤ kx ∧ Below w.heap.size w wr)
  case atStart => exact ⟨0, n, rfl, rfl, by omega, hm, by omega, by omega, W0.out⟩
  case round =>
    clear W0
    obtain ⟨lo, hi, rfl, rfl, hlm, hmh, hin, hkx, hbe⟩ := hrel
    have W1 := Lib.hid hbe
    clear hbe
    by_cases hlt : lo < hi
    · have hc := Lib.hid (HF.out ((lo + hi) / 2) _ (by omega) W1.out)
      rw [show (((lo + hi) / 2 : Nat) : Int) = ((lo : Int) + (hi : Int)) / 2 by omega] at hc
      rcases hp : p ((lo + hi) / 2) with _ | _
      · rw [hp] at hc
        have hmid : (lo + hi) / 2 < m := by
          rcases Nat.lt_or_ge ((lo + hi) / 2) m with h | h
          · exact h
          · rw [HR.out _ h (by omega)] at hp; cases hp
        clear hp
        go_wp2_with (refine hc.out.mono ?_; rintro e w2 ⟨rfl, hb2⟩; have W2 : Hid (Below w.heap.size w w2) := W1.out.trans (hb2.mono W1.out.size); clear hb2)
        go_roundg (hi - ((lo + hi) / 2 + 1))
        case measure => omega
        case rel => exact ⟨(lo + hi) / 2 + 1, hi, by rw [show ((lo : Int) + (hi : Int)) / 2 + 1 = (((lo + hi) / 2 + 1 : Nat) : Int) by omega], rfl, hmid, hmh, hin, Nat.le_refl _, W2.out⟩
      · rw [hp] at hc
        have hmid : m ≤ (lo + hi) / 2 := by
          rcases Nat.lt_or_ge ((lo + hi) / 2) m with h | h
          · rw [HL.out _ h] at hp; cases hp
          · exact h
        clear hp
        go_wp2_with (refine hc.out.mono ?_; rintro e w2 ⟨rfl, hb2⟩; have W2 : Hid (Below w.heap.size w w2) := W1.out.trans (hb2.mono W1.out.size); clear hb2)
        go_roundg ((lo + hi) / 2 - lo)
        case measure => omega
        case rel => exact ⟨lo, (lo + hi) / 2, rfl, by rw [show ((lo : Int) + (hi : Int)) / 2 = (((lo + hi) / 2 : Nat) : Int) by omega], hlm, hmid, by omega, Nat.le_refl _, W2.out⟩
    · have e : lo = m := by omega
      subst e
      go_wp2
      go_ret
      exact ⟨rfl, W1.out⟩
end Go.Proofs.Ytpjeeccgpnpokaa
