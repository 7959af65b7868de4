/- The contract of the law's same: all bins are what the document says. Conditions: those of each theorem. -/
import Derived.Test.YtedpikpknlaggaaDocMark
namespace Go.Proofs.Ytedpikpknlaggaa
open Go.RowKit

theorem bin_in {g s l k : Nat} {q : Nat → Nat} {V : Blu} {w : World} (h : BAt w g s q V) (hl : l < V.n) (hk : k < V.m) :
    Calls Try.prog 24 #[.pointer (some ⟨g, 0, none⟩), .int .i64 (l : Nat), .int .i64 (k : Nat)] w fun e w' => e = .returned (.tuple #[.int .i64 ((V.B l k).b : Nat), .int .i64 ((V.B l k).p : Nat)]) ∧ Below w.heap.size w w' := by
  have := bin_ g s q V (l : Nat) (k : Nat) w h
  rw [show binV V (l : Nat) (k : Nat) = V.B l k by unfold binV; rw [hasV_iff.2 ⟨l, k, rfl, rfl, hl, hk⟩]; rfl] at this
  exact this
theorem bin_out {g s : Nat} {q : Nat → Nat} {V : Blu} {w : World} (x y : Int) (h : BAt w g s q V) (hv : hasV V.n V.m x y = false) :
    Calls Try.prog 24 #[.pointer (some ⟨g, 0, none⟩), .int .i64 x, .int .i64 y] w fun e w' => e = .returned (.tuple #[.int .i64 0, .int .i64 0]) ∧ Below w.heap.size w w' := by
  have := bin_ g s q V x y w h
  rw [show binV V x y = bin0 by unfold binV; rw [hv]; rfl] at this
  exact this
set_option maxHeartbeats 4000000 in
theorem same_ (b : Nat → Prop) (g s : Nat) (q : Nat → Nat) (V : Blu) (A : Option Addr) (c : Nat) (w : World) (ha : BAt w g s q V) (hd : DocAt b w A V.n V.m V.B) :
    Calls Try.prog 23 #[.pointer (some ⟨g, 0, none⟩), dval A V.n c V.t V.h V.u V.d] w fun e w' => e = .returned (.bool true) ∧ Below w.heap.size w w' := by
  have T1 := Lib.hid (One5.start w A V.n c V.t V.h V.u V.d)
  have HA := Lib.hid ha
  have hn := ha.ok.n2
  have hm := ha.ok.m2
  have HO := Lib.hid ha.ok.B
  obtain ⟨s2, q2, cp, rfl, hr⟩ := hd.reads
  have HR := Lib.hid hr
  have HB1 := Lib.hid (fun W (hW : Below w.heap.size w W) l k hl hk => bin_in (l := l) (k := k) (ha.below hW) hl hk)
  have HB2 := Lib.hid (fun W (hW : Below w.heap.size w W) => bin_out (V.n : Nat) 0 (ha.below hW) (by simp [hasV]))
  have HB3 := Lib.hid (fun W (hW : Below w.heap.size w W) => bin_out 0 (-1) (ha.below hW) (by simp [hasV]))
  clear ha hd hr
  generalize V.n = n at *
  generalize V.m = m at *
  generalize V.t = t at *
  generalize V.h = h at *
  generalize V.u = u at *
  generalize V.d = d at *
  have c0 := T1.out.cells.1
  go_enter Try.func23, Try.ntmps23
  go_wp2_with fail
  clear c0
  go_loopw [5, 6, 7, 8, 16] (fun _ _ _ _ i w' => ∃ l : Nat, l ≤ n ∧ i = .int .i64 l ∧ One5 w (some ⟨s2, 0, none⟩) n c t h u d w') (fun _ _ _ _ i _ => n - (intOf i).toNat)
  case atStart => exact ⟨0, by omega, rfl, T1.out⟩
  case round =>
    clear T1
    obtain ⟨l, hl, rfl, hr⟩ := hrel
    have T2 := Lib.hid hr
    clear hr
    have c0 := T2.out.cells.1
    by_cases hlt : l < n
    · have hd1 : decide ((l : Int) < (n : Int)) = true := by simp; omega
      have h0 := (HR.out wr T2.out.be).1 l hlt
      go_upto_region 5 with fail
      clear c0 h0
      go_loopw [6, 7, 8, 25] (fun _ _ _ i w' => ∃ k : Nat, k ≤ m ∧ i = .int .i64 k ∧ One5 w (some ⟨s2, 0, none⟩) n c t h u d w') (fun _ _ _ i _ => m - (intOf i).toNat)
      case atStart => exact ⟨0, by omega, rfl, T2.out⟩
      case round =>
        clear T2
        obtain ⟨k, hk, rfl, hr⟩ := hrel
        have T3 := Lib.hid hr
        clear hr
        by_cases hlt2 : k < m
        · have hd2 : decide ((k : Int) < (m : Int)) = true := by simp; omega
          have HC := Lib.hid (HB1.out wr T3.out.be l k hlt hlt2)
          have HX := Lib.hid (fun W hW => (HR.out W hW).2 l k hlt hlt2)
          have HH := Lib.hid (fun W hW => (HR.out W hW).1 l hlt)
          generalize V.B l k = X at *
          obtain ⟨bb, pp, cc⟩ := X
          dsimp only at *
          go_upto_region 8 with (go_at_call 24; (with_reducible refine HC.out.mono ?_); rintro e w4 ⟨rfl, hb4⟩; have T4 := Lib.hid (T3.out.below hb4); clear hb4)
          have c0 := T4.out.cells.1
          have c1 := HH.out w4 T4.out.be
          obtain ⟨y0, y1, y2⟩ := HX.out w4 T4.out.be
          go_wp2_with fail
          go_roundw
          case rel => exact ⟨k + 1, by omega, by go_num, T4.out⟩
          case measure => simp [intOf]; omega
        · obtain rfl : k = m := by omega
          have hd2 : decide ((k : Int) < (k : Int)) = false := by simp
          go_wp2_with fail
          go_roundw
          case rel => exact ⟨l + 1, by omega, by go_num, T3.out⟩
          case measure => simp [intOf]; omega
    · obtain rfl : l = n := by omega
      have hd1 : decide ((l : Int) < (l : Int)) = false := by simp
      have HC := Lib.hid (HB2.out wr T2.out.be)
      go_upto_region 13 with (go_at_call 24; (with_reducible refine HC.out.mono ?_); rintro e w4 ⟨rfl, hb4⟩; have T4 := Lib.hid (T2.out.below hb4); clear hb4)
      have HC2 := Lib.hid (HB3.out w4 T4.out.be)
      go_wp2_with (go_at_call 24; (with_reducible refine HC2.out.mono ?_); rintro e w5 ⟨rfl, hb5⟩; have T5 := Lib.hid (T4.out.below hb5); clear hb5)
      go_ret
      exact ⟨rfl, T5.out.be⟩
end Go.Proofs.Ytedpikpknlaggaa
