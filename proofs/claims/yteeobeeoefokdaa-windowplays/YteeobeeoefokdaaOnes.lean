/- One prefix alone in a window; what Slots tells of it. Conditions: those of each theorem. -/
import Derived.Test.YteeobeeoefokdaaWake
namespace Go.Proofs.Yteeobeeoefokdaa
open Go.RowKit

theorem has_one (p : Pre) (c e : Int) : has [⟨p, c, e⟩] p = true ∧ idx [⟨p, c, e⟩] p = 0 := by simp [has, idx]
theorem stp_first {M : Nat} (h1 : 1 ≤ M) (p : Pre) (n : Int) : stp M [] p n = [⟨p, addK 0 n, 0⟩] ∧ pos M [] p = 0 := by
  have hh : has [] p = false := by simp [has, idx]
  unfold stp
  rw [pos_room hh (by simp; omega), plc_room hh (by simp; omega)]
  exact ⟨rfl, rfl⟩
theorem stp_again {M : Nat} (p : Pre) (c e n : Int) : stp M [⟨p, c, e⟩] p n = [⟨p, addK c n, e⟩] ∧ pos M [⟨p, c, e⟩] p = 0 := by
  unfold stp
  rw [pos_has (has_one p c e).1, plc_has (has_one p c e).1, (has_one p c e).2]
  exact ⟨rfl, rfl⟩
theorem tm_id {now : Int} (h0 : 0 ≤ now) (h1 : now ≤ 4611686018427387903) : tm now = now := by unfold tm; omega
theorem tm_le {a b : Int} (h : a ≤ b) : tm a ≤ tm b := by unfold tm; omega
/-- A moment that is no later than the window's. -/
theorem to_same {W : Wn} {now : Int} (h : tm now / W.ns ≤ W.no) : W.to now = W := by unfold Wn.to Wn.rch; rw [if_neg (by omega)]
/-- A moment of a later window. -/
theorem to_later {W : Wn} {now : Int} (h : W.no < tm now / W.ns) : W.to now = ⟨W.ns, W.th, tm now / W.ns, 0, W.M, []⟩ := by unfold Wn.to Wn.rch; rw [if_pos h]
theorem to_empty {ns th no now : Int} {M : Nat} (h : no ≤ tm now / ns) : Wn.to ⟨ns, th, no, 0, M, []⟩ now = ⟨ns, th, tm now / ns, 0, M, []⟩ := by
  by_cases h' : no < tm now / ns
  · exact to_later h'
  · obtain rfl : no = tm now / ns := by omega
    exact to_same (Int.le_refl _)
theorem cnt_empty {ns th no n : Int} {M : Nat} (h1 : 1 ≤ M) (p : Pre) (hn : 0 ≤ n ∧ n ≤ 4611686018427387904) : (Wn.cnt ⟨ns, th, no, 0, M, []⟩ p n) = ⟨ns, th, no, n, M, [⟨p, n, 0⟩]⟩ ∧ Wn.hvy ⟨ns, th, no, 0, M, []⟩ p n = decide (th ≤ n) := by
  have e : addK 0 n = n := by rw [addK_few (Int.le_refl 0) hn.1 (by omega), Int.zero_add]
  unfold Wn.cnt Wn.hvy
  rw [(stp_first h1 p n).1, (stp_first h1 p n).2, e]
  refine ⟨rfl, ?_⟩
  show decide (th ≤ n - 0) = _
  rw [Int.sub_zero]
theorem cnt_again {ns th no T c n : Int} {M : Nat} (p : Pre) (hc : 0 ≤ c) (hn : 0 ≤ n) (hs : c + n ≤ 4611686018427387904) : (Wn.cnt ⟨ns, th, no, T, M, [⟨p, c, 0⟩]⟩ p n) = ⟨ns, th, no, addK T n, M, [⟨p, c + n, 0⟩]⟩ ∧ Wn.hvy ⟨ns, th, no, T, M, [⟨p, c, 0⟩]⟩ p n = decide (th ≤ c + n) := by
  have e : addK c n = c + n := addK_few hc hn hs
  unfold Wn.cnt Wn.hvy
  rw [(stp_again p c 0 n).1, (stp_again p c 0 n).2, e]
  refine ⟨rfl, ?_⟩
  show decide (th ≤ c + n - 0) = _
  rw [Int.sub_zero]
/-- What Slots tells where there is one. -/
theorem wslots_one (g s q : Nat) (W : Wn) (sl : Slo) (w : World) (h : WAt w g s q W) (hL : W.L = [sl]) :
    Calls Try.prog 10 #[.pointer (some ⟨g, 0, none⟩)] w fun e w' => ∃ q' c, e = .returned (.slice (some ⟨q', 0, none⟩) 1 c) ∧ Below w.heap.size w w' ∧ w.heap.size ≤ q' ∧ w'.rangeAt q' 0 sl.cs := by
  refine (wslots_ g s q W w h).mono ?_
  rintro e w' ⟨A, c, rfl, hb, hr⟩
  rw [hL] at hr ⊢
  rcases hr with ⟨_, e⟩ | ⟨q', rfl, hq, hr⟩
  · cases e
  · exact ⟨q', c, rfl, hb, hq, by simpa using hr.slot (k := 0) rfl⟩
end Go.Proofs.Yteeobeeoefokdaa
