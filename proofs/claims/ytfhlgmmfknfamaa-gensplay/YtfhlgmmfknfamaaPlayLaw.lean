/- Proved: for any number of buckets, key, acts, flows and number the law GensPlay returns true, and all read afterwards as before. No conditions. -/
import Derived.Test.YtfhlgmmfknfamaaRows
import Derived.WalkKit
import Derived.ProofKit
import Derived.OpenShut
import Derived.ShutString
import Derived.ChangeOld
import Derived.Below
import Derived.Test.YtfhlgmmfknfamaaKeyIn
import Derived.Test.YtfhlgmmfknfamaaBridge
import Derived.Test.YtfhlgmmfknfamaaHolds
import Derived.Test.YtfhlgmmfknfamaaPlayWalk
namespace Go.Proofs.Ytfhlgmmfknfamaa.gensPlay
open Go.ChangeShapes Go.WideShapes Go.ChangeAt Go.RowKit
open Go.ChangeMaps (open_string shut_string)

theorem own : ownKnob Try.prog.godebug = none := by kernel_rfl
theorem laidOut : laidOutB Try.prog = true := by kernel_rfl

theorem walk (a0 : Int) (a1 : Key) (a2 : Option Addr) (len2 cap2 : Nat) (a3 : Option Addr) (len3 cap3 : Nat) (a4 : Int) (L2 : List Key) (L3 : List Flo) (w : World) (w0 : (Lit.int .i64 a0).wf = true) (w4 : (Lit.int .i64 a4).wf = true) (w1 : a1.Ok) (m2 : len2 ≤ maxLen) (hl2 : L2.length = len2) (h2 : Els kKey w a2 L2) (ho2 : ∀ p ∈ L2, p.Ok) (m3 : len3 ≤ maxLen) (hl3 : L3.length = len3) (h3 : Els kFlo w a3 L3) (ho3 : ∀ p ∈ L3, p.Ok) :
    Calls Try.prog 3 #[.int .i64 a0, .agg a1.cs.toArray, .slice a2 len2 cap2, .slice a3 len3 cap3, .int .i64 a4] w fun e w' => e = .returned (.bool true) ∧ Below w.heap.size w w' := by
  have b0 := bounds_i64 w0
  have b4 := bounds_i64 w4
  by_cases hn : 60 < len2
  · exact plays_long _ _ progG a0 a1 a2 a3 len2 len3 cap2 cap3 a4 w hn m2
  by_cases hm : 10 < len3
  · exact plays_wide _ _ progG a0 a1 a2 a3 len2 len3 cap2 cap3 a4 w (by omega) hm m3
  by_cases h0 : a0 < 1
  · exact plays_less _ _ progG a0 a1 a2 a3 len2 len3 cap2 cap3 a4 w (by omega) (by omega) w1 ⟨b0.1, b0.2⟩ h0
  by_cases h1 : 64 < a0
  · exact plays_more _ _ progG a0 a1 a2 a3 len2 len3 cap2 cap3 a4 w (by omega) (by omega) w1 ⟨b0.1, b0.2⟩ h1
  obtain ⟨k, hk⟩ := Int.eq_ofNat_of_zero_le (show 0 ≤ a0 by omega)
  subst hk
  have := plays_near _ _ progG refK k a1 a2 a3 L2 L3 cap2 cap3 a4 w (by omega) (by omega) w1 (by omega) (by omega) h2 ho2 h3 ho3 ⟨b4.1, b4.2⟩
  rwa [hl2, hl3] at this

set_option maxRecDepth 100000 in
theorem lifted (os : Os) (started : os.Started) (H : Type) (enc : TypeId × Value → H) :
    ReturnsInHanded {} Try.checked os 3 .any (Rows.gensPlaySpec.pre6 enc Try.prog Try.f3 Rows.gensPlayRow.domain false) (Rows.gensPlaySpec.post enc Try.prog Try.f3 false true false false) := by
  refine returnsInHanded_of_change (C := Try.checked) own started (by kernel_rfl) Try.func3
    (ChangeSpec.witness6 (enc := enc) (C := Try.checked) false ⟨#[], #[.int .i64 0, .agg #[.int .u8 0, .int .u8 0, .int .u8 0, .int .u8 0, .int .u8 0, .int .u8 0, .int .u8 0, .int .u8 0, .int .u8 0, .int .u8 0, .int .u8 0, .int .u8 0, .int .u8 0, .int .u8 0, .int .u8 0, .int .u8 0], .slice none 0 0, .slice none 0 0, .int .i64 0], []⟩ 8 (by kernel_rfl) (by kernel_rfl) (by kernel_rfl) (by kernel_rfl)) ?_
  intro W base args ds gs before hval0 hW hcnd _
  have hval : ∀ (j : Nat) t v, Try.f3.params[j]? = some t → args[j]? = some v → Value.okWide Try.prog W .any base t v := hval0
  have hW' := hW
  obtain ⟨p, q, hA0, hV, rfl, hfz, hnd⟩ := hW
  have hA : DataW.TrodAll enc Try.prog W 0 (fun _ => true) true Try.f3.params.toList args.toList ds p := hA0
  rw [Try.params3] at hA hval
  obtain ⟨v0, vs0, d0, ds0, p0, q0, hargs, rfl, rfl, h0, r0⟩ := trodAll_cons hA
  obtain ⟨v1, vs1, d1, ds1, p1, q1, rfl, rfl, rfl, h1, r1⟩ := trodAll_cons r0
  obtain ⟨v2, vs2, d2, ds2, p2, q2, rfl, rfl, rfl, h2, r2⟩ := trodAll_cons r1
  obtain ⟨v3, vs3, d3, ds3, p3, q3, rfl, rfl, rfl, h3, r3⟩ := trodAll_cons r2
  obtain ⟨v4, vs4, d4, ds4, p4, q4, rfl, rfl, rfl, h4, r4⟩ := trodAll_cons r3
  obtain ⟨rfl, rfl, rfl⟩ := trodAll_nil r4
  obtain rfl : args = #[v0, v1, v2, v3, v4] := by cases args; simp_all
  obtain ⟨rfl, rfl⟩ := trodVars_none hV
  obtain ⟨a0, rfl, rfl, rfl, w0⟩ := open_int Try.underlying3 (hval 0 3 v0 rfl rfl) h0
  have k1 := h1
  have lt1 : ∀ x ∈ p1, x.block < W.heap.size := by obtain ⟨m, hm⟩ := k1; exact DataW.trod_lt m _ _ _ hm
  obtain ⟨a1, rfl, w1⟩ := key_in (hval 1 22 v1 rfl rfl) h1
  obtain ⟨a2, len2, cap2, rfl⟩ := okWide_slice Try.underlying23 (hval 2 23 v2 rfl rfl)
  have k2 := h2
  have lt2 : ∀ x ∈ p2, x.block < W.heap.size := by obtain ⟨m, hm⟩ := k2; exact DataW.trod_lt m _ _ _ hm
  obtain ⟨m2, L2, hl2, g2, ho2⟩ := keys_in h2
  obtain ⟨a3, len3, cap3, rfl⟩ := okWide_slice Try.underlying24 (hval 3 24 v3 rfl rfl)
  have k3 := h3
  have lt3 : ∀ x ∈ p3, x.block < W.heap.size := by obtain ⟨m, hm⟩ := k3; exact DataW.trod_lt m _ _ _ hm
  obtain ⟨m3, L3, hl3, g3, ho3⟩ := flows_in h3
  obtain ⟨a4, rfl, rfl, rfl, w4⟩ := open_int Try.underlying3 (hval 4 3 v4 rfl rfl) h4
  clear hA0 hval0
  refine (walk a0 a1 a2 len2 cap2 a3 len3 cap3 a4 L2 L3 W w0 w4 w1 m2 hl2 g2 ho2 m3 hl3 g3 ho3).mono fun e W' ⟨he, bel⟩ => ?_
  subst he
  exact ⟨_, rfl, _, _, _, [], _, [], hW', trodAll_mk1 (shut_bool Try.underlying4 _), (trodAll_cons_mk (shut_int Try.underlying3 w0) (trodAll_cons_mk (Below.trod laidOut (by kernel_rfl) (of_decide_eq_true (by kernel_rfl)) k1 bel lt1) (trodAll_cons_mk (Below.trod laidOut (by kernel_rfl) (of_decide_eq_true (by kernel_rfl)) k2 bel lt2) (trodAll_cons_mk (Below.trod laidOut (by kernel_rfl) (of_decide_eq_true (by kernel_rfl)) k3 bel lt3) (trodAll_cons_mk (shut_int Try.underlying3 w4) trodAll_mk0))))), rfl, bel.frame _, fun h => by cases h⟩

theorem over : Rows.gensPlayRow.holds Try.pinned (OpenSpec.ofChange Rows.gensPlaySpec) :=
  OpenClaim.holds_of_wide 3 Try.f3 rfl rfl rfl rfl rfl rfl rfl ⟨rfl, rfl, rfl, rfl, rfl⟩ rfl rfl rfl rfl rfl (by kernel_rfl) Try.func3 (by kernel_rfl)
    (of_decide_eq_true (by kernel_rfl)) (by unfold Func.isWrapper; first | (rw [if_pos (by decide +kernel)]; kernel_rfl) | (rw [if_neg (by decide +kernel)]; exact ⟨rfl, rfl⟩))
    (fun os started H enc _ => lifted os started H enc)

end Go.Proofs.Ytfhlgmmfknfamaa.gensPlay

namespace Go.Proofs.Ytfhlgmmfknfamaa
/-- The given statement. -/
theorem gensPlay_holds : Rows.GensPlaySaid := gensPlay.over
#print axioms gensPlay_holds
end Go.Proofs.Ytfhlgmmfknfamaa
