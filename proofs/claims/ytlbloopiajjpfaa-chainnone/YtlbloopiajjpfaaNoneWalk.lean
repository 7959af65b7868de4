/- The walk of the law ChainNone: for any line, place and number it returns true and turns nothing that was there. -/
import Derived.Test.YtlbloopiajjpfaaNews
namespace Go.Proofs.Ytlbloopiajjpfaa
open Go.RowKit

/-- There is no such line or place among three and nine, or all is within. -/
theorem none_facts (x y : Int) (h : ¬ (0 ≤ x ∧ x < 3 ∧ 0 ≤ y ∧ y < 9)) : canPush 9 [[], [5], []] x y = false := by
  rcases e : canPush 9 [[], [5], []] x y with _ | _
  · rfl
  · simp [canPush] at e
    obtain ⟨⟨⟨h1, h2⟩, h3⟩, _⟩ := e
    obtain ⟨xs, h1⟩ := Option.isSome_iff_exists.1 h1
    obtain ⟨l, rfl, hl⟩ := rowOf_some h1
    have := (List.getElem?_eq_some_iff.1 hl).1
    simp at this
    omega
theorem none_line (y : Int) : (lineOf [[], [5], []] y).isSome = decide (y = 5) := by
  by_cases h : y = 5
  · subst h; decide
  · have : decide (y = 5) = false := by simpa using h
    rw [this]
    rcases e : lineOf [[], [5], []] y with _ | l
    · rfl
    · obtain ⟨p, xs, rfl, hl, hp⟩ := lineOf_some e
      rcases l with _ | _ | _ | l <;> simp at hl <;> subst hl <;> simp at hp
      subst hp
      exact absurd rfl h

set_option maxRecDepth 100000 in
set_option maxHeartbeats 4000000 in
theorem none_any (x y k : Int) (w : World) :
    Calls Try.prog 6 #[.int .i64 x, .int .i64 y, .int .i64 k] w fun e w' => e = .returned (.bool true) ∧ Below w.heap.size w w' := by
  by_cases hin : 0 ≤ x ∧ x < 3 ∧ 0 ≤ y ∧ y < 9
  · obtain ⟨h1, h2, h3, h4⟩ := hin
    have d1 : decide (0 ≤ x) = true := by simpa using h1
    have d2 : decide (x < 3) = true := by simpa using h2
    have d3 : decide (0 ≤ y) = true := by simpa using h3
    have d4 : decide (y < 9) = true := by simpa using h4
    go_enter Try.func6, Try.ntmps6
    go_wp2_with fail
    refine (awake_any _).mono ?_
    rintro e w1 ⟨rfl, hb1⟩
    have W1 := Lib.hid hb1
    clear hb1
    go_wp2_with fail
    refine (awake_any _).mono ?_
    rintro e w2 ⟨rfl, hb2⟩
    have W2 : Hid (Below w.heap.size w w2) := W1.out.trans (hb2.mono W1.out.size)
    clear hb2
    go_wp2_with fail
    go_ret
    exact ⟨rfl, W2.out⟩
  · have HCP := Lib.hid (none_facts x y hin)
    go_enter Try.func6, Try.ntmps6
    go_upto_region 3 with (go_at_call 7; (with_reducible refine (awake_any _).mono ?_); rintro e w1 ⟨rfl, hb1⟩; have W1 := Lib.hid hb1; clear hb1)
    all_goals
      clear hin
      go_wp2_with fail
      refine (new_ 3 9 3 9 _ rfl rfl (by decide) (by decide) (by decide) (by decide)).mono ?_
      rintro e w2 ⟨g, q, s, rfl, hr, ha, hb2⟩
      have HR : Hid (ChAt w2 g q s 3 9 [[], [], []]) := hr
      have W2 : Hid (Below w.heap.size w w2) := W1.out.trans (hb2.mono W1.out.size)
      have hsz := W1.out.size
      obtain ⟨a1, a2, a3, _⟩ := ha
      have hg : w.heap.size ≤ g := by omega
      have hq : w.heap.size ≤ q := by omega
      have hs : w.heap.size ≤ s := by omega
      clear hr hb2 a1 a2 a3 hsz
      go_wp2_with fail
      refine (push_ g q s 3 9 1 5 [[], [], []] _ HR.out).mono ?_
      rintro e w3 ⟨rfl, hc3, hf3⟩
      have e4 : pushOf 9 [[], [], []] 1 5 = [[], [5], []] := by decide
      rw [e4] at hc3
      have HR3 := Lib.hid hc3
      have W3 : Hid (Below w.heap.size w w3) := below_three W2.out hf3 hg hq hs W2.out.size
      clear hc3 hf3 e4
      generalize canPush 9 [[], [], []] 1 5 = bb
      go_wp2_with fail
      refine (push_ g q s 3 9 x y [[], [5], []] _ HR3.out).mono ?_
      rintro e w4 ⟨rfl, hc4, hf4⟩
      have e5 : pushOf 9 [[], [5], []] x y = [[], [5], []] := by simp [pushOf, HCP.out]
      rw [e5] at hc4
      rw [HCP.out]
      have HR4 := Lib.hid hc4
      have W4 : Hid (Below w.heap.size w w4) := below_three W3.out hf4 hg hq hs W3.out.size
      clear hc4 hf4 e5
      have l0 : lenOf [[], [5], []] 0 = 0 := by decide
      have l1 : lenOf [[], [5], []] 1 = 1 := by decide
      have l2 : lenOf [[], [5], []] 2 = 0 := by decide
      go_wp2_with (go_at_call 9; (with_reducible refine (len_ g q s 3 9 _ [[], [5], []] _ HR4.out).mono ?_); rintro e w' ⟨rfl, rfl⟩)
      refine (line_ g q s 3 9 y [[], [5], []] _ HR4.out).mono ?_
      rintro e w5 ⟨rfl, N, rfl⟩
      rw [none_line y]
      generalize toNum (lineOf [[], [5], []] y) = zz
      go_wp2_with (first | (go_at_call 19; (with_reducible refine (at_nil _ _ _).mono ?_); rintro e w' ⟨rfl, rfl⟩) | (go_at_call 10; (with_reducible refine (push_nil _ _ _).mono ?_); rintro e w' ⟨rfl, rfl⟩) | (go_at_call 9; (with_reducible refine (len_nil _ _).mono ?_); rintro e w' ⟨rfl, rfl⟩))
      go_ret
      exact ⟨rfl, below_drewN W4.out N⟩
end Go.Proofs.Ytlbloopiajjpfaa
