/- Proved: for any setup and any acts the law BluePlays returns true, and all read afterwards as before. No conditions. -/
import Derived.Test.YtedpikpknlaggaaRows
import Derived.WalkKit
import Derived.ProofKit
import Derived.OpenShut
import Derived.ShutString
import Derived.ChangeOld
import Derived.Below
import Derived.Test.YtedpikpknlaggaaIns
import Derived.Test.YtedpikpknlaggaaPlaysWalk
namespace Go.Proofs.Ytedpikpknlaggaa.bluePlays
open Go.ChangeShapes Go.WideShapes Go.ChangeAt Go.RowKit
open Go.ChangeMaps (open_string shut_string)

theorem own : ownKnob Try.prog.godebug = none := by kernel_rfl
theorem laidOut : laidOutB Try.prog = true := by kernel_rfl

theorem walk (x0 x1 x2 x3 x4 x5 : Int) (a1 : Option Addr) (len1 cap1 : Nat) (K1 : Nat → Int) (P1 : Nat → Option Addr) (L1 C1 : Nat → Nat) (X1 : Nat → List Int) (N1 : Nat → Int) (w : World) (w0 : SetOk x0 x1 x2 x3 x4 x5) (m1 : len1 ≤ maxLen) (h1 : ActsIn w a1 len1 K1 P1 L1 C1 X1 N1) :
    Calls Try.prog 3 #[.agg #[.int .i64 x0, .int .i64 x1, .int .i64 x2, .int .i64 x3, .int .i64 x4, .int .i64 x5], .slice a1 len1 cap1] w fun e w' => e = .returned (.bool true) ∧ Below w.heap.size w w' := by
  have _hs := w0
  rcases hf : fewB len1 L1 with _ | _
  · exact plays_far x0 x1 x2 x3 x4 x5 a1 len1 cap1 K1 P1 L1 C1 X1 N1 w (by unfold maxLen at m1; omega) h1 hf
  · by_cases hg : Good x0 x1 x4 x5 x2 x3
    · exact plays_good x0 x1 x2 x3 x4 x5 a1 len1 cap1 K1 P1 L1 C1 X1 N1 w h1 hf hg
    · exact plays_bad x0 x1 x2 x3 x4 x5 a1 len1 cap1 K1 P1 L1 C1 X1 N1 w h1 hf hg

set_option maxRecDepth 100000 in
theorem lifted (os : Os) (started : os.Started) (H : Type) (enc : TypeId × Value → H) :
    ReturnsInHanded {} Try.checked os 3 .any (Rows.bluePlaysSpec.pre6 enc Try.prog Try.f3 Rows.bluePlaysRow.domain false) (Rows.bluePlaysSpec.post enc Try.prog Try.f3 false true false false) := by
  refine returnsInHanded_of_change (C := Try.checked) own started (by kernel_rfl) Try.func3
    (ChangeSpec.witness6 (enc := enc) (C := Try.checked) false ⟨#[], #[.agg #[.int .i64 0, .int .i64 0, .int .i64 0, .int .i64 0, .int .i64 0, .int .i64 0], .slice none 0 0], []⟩ 8 (by kernel_rfl) (by kernel_rfl) (by kernel_rfl) (by kernel_rfl)) ?_
  intro W base args ds gs before hval0 hW hcnd _
  have hval : ∀ (j : Nat) t v, Try.f3.params[j]? = some t → args[j]? = some v → Value.okWide Try.prog W .any base t v := hval0
  have hW' := hW
  obtain ⟨p, q, hA0, hV, rfl, hfz, hnd⟩ := hW
  have hA : DataW.TrodAll enc Try.prog W 0 (fun _ => true) true Try.f3.params.toList args.toList ds p := hA0
  rw [Try.params3] at hA hval
  obtain ⟨v0, vs0, d0, ds0, p0, q0, hargs, rfl, rfl, h0, r0⟩ := trodAll_cons hA
  obtain ⟨v1, vs1, d1, ds1, p1, q1, rfl, rfl, rfl, h1, r1⟩ := trodAll_cons r0
  obtain ⟨rfl, rfl, rfl⟩ := trodAll_nil r1
  obtain rfl : args = #[v0, v1] := by cases args; simp_all
  obtain ⟨rfl, rfl⟩ := trodVars_none hV
  have k0 := h0
  have lt0 : ∀ x ∈ p0, x.block < W.heap.size := by obtain ⟨m, hm⟩ := k0; exact DataW.trod_lt m _ _ _ hm
  obtain ⟨x0, x1, x2, x3, x4, x5, rfl, w0⟩ := setup_in (hval 0 23 v0 rfl rfl) h0
  obtain ⟨a1, len1, cap1, rfl⟩ := okWide_slice Try.underlying24 (hval 1 24 v1 rfl rfl)
  have k1 := h1
  have lt1 : ∀ x ∈ p1, x.block < W.heap.size := by obtain ⟨m, hm⟩ := k1; exact DataW.trod_lt m _ _ _ hm
  obtain ⟨m1, K1, P1, L1, C1, X1, N1, g1⟩ := acts_in h1
  clear hA0 hval0
  refine (walk x0 x1 x2 x3 x4 x5 a1 len1 cap1 K1 P1 L1 C1 X1 N1 W w0 m1 g1).mono fun e W' ⟨he, bel⟩ => ?_
  subst he
  exact ⟨_, rfl, _, _, _, [], _, [], hW', trodAll_mk1 (shut_bool Try.underlying4 _), (trodAll_cons_mk (Below.trod laidOut (by kernel_rfl) (of_decide_eq_true (by kernel_rfl)) k0 bel lt0) (trodAll_cons_mk (Below.trod laidOut (by kernel_rfl) (of_decide_eq_true (by kernel_rfl)) k1 bel lt1) trodAll_mk0)), rfl, bel.frame _, fun h => by cases h⟩

theorem over : Rows.bluePlaysRow.holds Try.pinned (OpenSpec.ofChange Rows.bluePlaysSpec) :=
  OpenClaim.holds_of_wide 3 Try.f3 rfl rfl rfl rfl rfl rfl rfl ⟨rfl, rfl, rfl, rfl, rfl⟩ rfl rfl rfl rfl rfl (by kernel_rfl) Try.func3 (by kernel_rfl)
    (of_decide_eq_true (by kernel_rfl)) (by unfold Func.isWrapper; first | (rw [if_pos (by decide +kernel)]; kernel_rfl) | (rw [if_neg (by decide +kernel)]; exact ⟨rfl, rfl⟩))
    (fun os started H enc _ => lifted os started H enc)

end Go.Proofs.Ytedpikpknlaggaa.bluePlays

namespace Go.Proofs.Ytedpikpknlaggaa
/-- The given statement. -/
theorem bluePlays_holds : Rows.BluePlaysSaid := bluePlays.over
#print axioms bluePlays_holds
end Go.Proofs.Ytedpikpknlaggaa
