/- The contract of blue's each: what a closure does with each of a flow's bins. Conditions: those of each theorem. -/
import Derived.Test.YtedpikpknlaggaaBlues
namespace Go.Proofs.Ytedpikpknlaggaa
open Go.RowKit

set_option maxHeartbeats 1000000 in
theorem each_ (g s : Nat) (q : Nat → Nat) (V : Blu) (A : Option Addr) (nb cb : Nat) (xs : List Int) (f : Nat) (caps : Array Value) (I : Nat → World → Prop) (w : World) (hen : ∀ args W, Sem.run Try.prog (callFunc f args) W = .ok (.enter f args) W) (h : BAt w g s q V) (hi : Ints w A nb xs) (hnb : nb ≤ 1000000) (hf : flow V.n V.m xs = true)
    (h0 : I 0 w) (hr : ∀ j W, I j W → (∃ B, BAt W g s q (V.put B)) ∧ Ints W A nb xs)
    (hs : ∀ j W, j < V.n → I j W → Calls Try.prog f (#[.pointer (some ⟨q j, binOf xs j * 3, none⟩)] ++ caps) W fun e W' => e = .returned (.tuple #[]) ∧ I (j + 1) W') :
    Calls Try.prog 27 #[.pointer (some ⟨g, 0, none⟩), .slice A nb cb, .func (.func f) #[] caps] w fun e w' => e = .returned (.bool true) ∧ I V.n w' := by
  have HF := Lib.hid (isFlow_ g s q V A nb cb xs w h hi hnb)
  rw [hf] at HF
  have hl := flow_len hf
  have HX := Lib.hid (fun l hl => flow_at hf (l := l) hl)
  have hnn := h.ok.n2
  have hmm := h.ok.m2
  have H0 := Lib.hid h0
  have HR := Lib.hid hr
  have HS := Lib.hid hs
  have hnb2 : nb = V.n := by rw [← hl, hi.1]
  clear h hi hnb hf h0 hr hs hl
  subst hnb2
  have HRD : Hid (∀ j W, j < V.n → I j W → ∃ ad c, A = some ad ∧ W.cell? (ad.add j) = some (.int .i64 (binOf xs j : Nat)) ∧ W.cell? ⟨g, 0, none⟩ = some (.slice (some ⟨s, 0, none⟩) V.n c) ∧ W.cell? ⟨s, j, none⟩ = some (.slice (some ⟨q j, 0, none⟩) V.m V.m)) := fun j W hj hI => by
    obtain ⟨⟨B, hb⟩, hi⟩ := HR.out j W hI
    obtain ⟨ad, e, hc⟩ := hi.at_ hj
    rw [(HX.out j hj).1] at hc
    obtain ⟨c, h1⟩ := hb.head
    exact ⟨ad, c, e, hc, h1, hb.lev hj⟩
  have HLT : Hid (∀ j, j < V.n → binOf xs j < V.m) := fun j hj => (HX.out j hj).2
  clear HR HX
  generalize V.n = n at *
  generalize V.m = m at *
  go_enter Try.func27, Try.ntmps27
  go_wp2_with (go_at_call 41; (with_reducible refine HF.out.mono ?_); rintro e w' ⟨rfl, rfl⟩)
  go_loopw [7, 8, 15] (fun _ _ i w' => ∃ k : Nat, k ≤ n ∧ i = .int .i64 k ∧ I k w') (fun _ _ i _ => n - (intOf i).toNat)
  case atStart => exact ⟨0, by omega, rfl, H0.out⟩
  case round =>
    clear H0
    obtain ⟨k, hk, rfl, hI⟩ := hrel
    have HI := Lib.hid hI
    clear hI
    by_cases hlt : k < n
    · have hd : decide ((k : Int) < (n : Int)) = true := by simp; omega
      obtain ⟨ad, c, rfl, c1, c2, c3⟩ := HRD.out k wr hlt HI.out
      have hlt2 := HLT.out k hlt
      have HC := Lib.hid (HS.out k wr hlt HI.out)
      generalize binOf xs k = b at *
      go_wp2_with ((with_reducible refine HC.out.mono ?_); rintro e w2 ⟨rfl, hI2⟩; have HI2 := Lib.hid hI2; clear hI2)
      go_roundw
      case rel => exact ⟨k + 1, by omega, by go_num, HI2.out⟩
      case measure => simp [intOf]; omega
    · obtain rfl : k = n := by omega
      have hd : decide ((k : Int) < (k : Int)) = false := by simp
      go_wp2
      go_ret
      exact ⟨rfl, HI.out⟩
set_option maxHeartbeats 400000 in
theorem each_not (g s : Nat) (q : Nat → Nat) (V : Blu) (A : Option Addr) (nb cb : Nat) (xs : List Int) (F : Value) (w : World) (h : BAt w g s q V) (hi : Ints w A nb xs) (hnb : nb ≤ 1000000) (hf : flow V.n V.m xs = false) :
    Calls Try.prog 27 #[.pointer (some ⟨g, 0, none⟩), .slice A nb cb, F] w fun e w' => e = .returned (.bool false) ∧ w = w' := by
  have HF := Lib.hid (isFlow_ g s q V A nb cb xs w h hi hnb)
  rw [hf] at HF
  clear h hi hf
  go_enter Try.func27, Try.ntmps27
  go_wp2_with (go_at_call 41; (with_reducible refine HF.out.mono ?_); rintro e w' ⟨rfl, rfl⟩)
  go_ret
  exact ⟨rfl, rfl⟩
set_option maxHeartbeats 400000 in
theorem isFlow_nil (A : Option Addr) (nb cb : Nat) (w : World) : Calls Try.prog 41 #[.pointer none, .slice A nb cb] w fun e w' => e = .returned (.bool false) ∧ w = w' := by
  go_enter Try.func41, Try.ntmps41
  go_wp2
  go_ret
  exact ⟨rfl, rfl⟩
set_option maxHeartbeats 400000 in
theorem each_nil (A : Option Addr) (nb cb : Nat) (F : Value) (w : World) : Calls Try.prog 27 #[.pointer none, .slice A nb cb, F] w fun e w' => e = .returned (.bool false) ∧ w = w' := by
  go_enter Try.func27, Try.ntmps27
  go_wp2_with (go_at_call 41; (with_reducible refine (isFlow_nil _ _ _ _).mono ?_); rintro e w' ⟨rfl, rfl⟩)
  go_ret
  exact ⟨rfl, rfl⟩
end Go.Proofs.Ytedpikpknlaggaa
