/- Proved: for any key and any slice of slices of bytes the law SipParts returns true, and all read afterwards as before. No conditions. -/
import Derived.Test.YthiikecmhaijlaaRows
import Derived.WalkKit
import Derived.ProofKit
import Derived.OpenShut
import Derived.ShutString
import Derived.ChangeOld
import Derived.Below
import Derived.Deep.Slices
import Derived.Test.YthiikecmhaijlaaOpens
import Derived.Test.YthiikecmhaijlaaPartsWalk
namespace Go.Proofs.Ythiikecmhaijlaa.sipParts
open Go.ChangeShapes Go.WideShapes Go.ChangeAt Go.RowKit
open Go.ChangeMaps (open_string shut_string)

theorem own : ownKnob Try.prog.godebug = none := by kernel_rfl
theorem laidOut : laidOutB Try.prog = true := by kernel_rfl
theorem cells23 : Try.prog.cellsOf 23 = 1 := by kernel_rfl
/-- One list for what each index has. -/
theorem listed {P : Nat → List Nat → Prop} : ∀ n, (∀ i, i < n → ∃ l, P i l) → ∃ ps : List (List Nat), ps.length = n ∧ ∀ i, i < n → P i (ps.getD i [])
  | 0, _ => ⟨[], rfl, fun i hi => absurd hi (by omega)⟩
  | n + 1, h => by
    obtain ⟨ps, hl, hp⟩ := listed n (fun i hi => h i (by omega))
    obtain ⟨l, hl2⟩ := h n (by omega)
    refine ⟨ps ++ [l], by simp [hl], fun i hi => ?_⟩
    rcases (by omega : i < n ∨ i = n) with h1 | rfl
    · have := hp i h1
      rw [List.getD_eq_getElem?_getD] at this ⊢
      rw [List.getElem?_append_left (by omega)]
      exact this
    · rw [List.getD_eq_getElem?_getD, List.getElem?_append_right (by omega), hl]
      simpa using hl2
theorem open_parts {H : Type} {enc : TypeId × Value → H} {w : World} {fuel : Nat} {a : Option Addr} {len cap : Nat} {x : DataW H × List MemPlace}
    (h : DataW.trod enc Try.prog w 0 (fun _ => true) true fuel 31 [.slice a len cap] = some x) : ∃ ps : List (List Nat), PartsAt w a len ps ∧ Bytes ps := by
  have key : ∀ i, i < len → ∃ l : List Nat, (∃ ad B c, a = some ad ∧ w.cell? (ad.add i) = some (.slice B l.length c) ∧ Vals w B l.length (cel l)) ∧ Octs l := by
    rcases Go.Deep.open_slice Try.underlying31 h with ⟨h0, _⟩ | ⟨ad, l, c, m, n, D, Pl, hcs, hb, hl, hm, hmm, _, hx⟩
    · simp at h0
      obtain ⟨rfl, rfl, rfl⟩ := h0
      exact fun i hi => absurd hi (by omega)
    · simp at hcs
      obtain ⟨rfl, rfl, rfl⟩ := hcs
      have hlm : len ≤ m := by rw [hmm]; split <;> omega
      intro i hi
      obtain ⟨cs', h1, h2⟩ := hx i (by omega)
      rw [cells23] at h1
      obtain ⟨_, hlen, hcell⟩ := World.cells?_some h1
      have e0 := hcell 0 (by omega)
      rw [Go.Deep.add_add] at e0
      obtain ⟨B, q, c', hv, l, hvl, hol⟩ : ∃ B q c', cs' = [.slice B q c'] ∧ ∃ l : List Nat, Vals w B q (cel l) ∧ Octs l := by
        rcases open_ints Try.underlying23 Try.underlying5 (by kernel_rfl) h2 with ⟨hcs, _⟩ | ⟨x, l, c, zs, hcs, _, hl, hm, hz, _, hc1, hwz⟩
        · exact ⟨_, _, _, hcs, (row_vals (zs := []) (.inl ⟨rfl, rfl, rfl, rfl⟩)).2⟩
        · exact ⟨_, _, _, hcs, (row_vals (zs := zs) (.inr ⟨_, rfl, hl, hm, by simpa using hz, hc1, hwz⟩)).2⟩
      subst hv
      have hn : l.length = q := by have := hvl.1; rw [cel_length] at this; exact this
      subst hn
      exact ⟨l, ⟨ad, B, c', rfl, by simpa using e0, hvl⟩, hol⟩
  obtain ⟨ps, hl, hp⟩ := listed len key
  refine ⟨ps, ⟨hl, fun i hi => (hp i hi).1⟩, fun i => ?_⟩
  by_cases hi : i < len
  · exact (hp i hi).2
  · rw [List.getD_eq_getElem?_getD, List.getElem?_eq_none (by omega)]
    exact Octs.nil

set_option maxRecDepth 100000 in
theorem lifted (os : Os) (started : os.Started) (H : Type) (enc : TypeId × Value → H) :
    ReturnsInHanded {} Try.checked os 5 .any (Rows.sipPartsSpec.pre6 enc Try.prog Try.f5 Rows.sipPartsRow.domain false) (Rows.sipPartsSpec.post enc Try.prog Try.f5 false true false false) := by
  refine returnsInHanded_of_change (C := Try.checked) own started (by kernel_rfl) Try.func5
    (ChangeSpec.witness6 (enc := enc) (C := Try.checked) false ⟨#[], #[.agg (Array.replicate 16 (.int .u8 0)), .slice none 0 0], []⟩ 8 (by kernel_rfl) (by kernel_rfl) (by kernel_rfl) (by kernel_rfl)) ?_
  intro W base args ds gs before hval0 hW hcnd _
  have hval : ∀ (j : Nat) t v, Try.f5.params[j]? = some t → args[j]? = some v → Value.okWide Try.prog W .any base t v := hval0
  have hW' := hW
  obtain ⟨p, q, hA0, hV, rfl, hfz, hnd⟩ := hW
  have hA : DataW.TrodAll enc Try.prog W 0 (fun _ => true) true Try.f5.params.toList args.toList ds p := hA0
  rw [Try.params5] at hA hval
  obtain ⟨v0, vs0, d0, ds0, p0, q0, hargs, rfl, rfl, h0, r0⟩ := trodAll_cons hA
  obtain ⟨v1, vs1, d1, ds1, p1, q1, rfl, rfl, rfl, h1, r1⟩ := trodAll_cons r0
  obtain ⟨rfl, rfl, rfl⟩ := trodAll_nil r1
  obtain rfl : args = #[v0, v1] := by cases args; simp_all
  obtain ⟨rfl, rfl⟩ := trodVars_none hV
  obtain ⟨k, rfl, h16, hk⟩ := open_key (hval 0 22 v0 rfl rfl) h0
  have lt0 : ∀ x ∈ p0, x.block < W.heap.size := by obtain ⟨m, hm⟩ := h0; exact DataW.trod_lt m _ _ _ hm
  obtain ⟨a1, len1, cap1, rfl⟩ := okWide_slice Try.underlying31 (hval 1 31 v1 rfl rfl)
  have k1 := h1
  have lt1 : ∀ x ∈ p1, x.block < W.heap.size := by obtain ⟨m, hm⟩ := k1; exact DataW.trod_lt m _ _ _ hm
  obtain ⟨ps, hps, hoc⟩ : ∃ ps : List (List Nat), PartsAt W a1 len1 ps ∧ Bytes ps := by
    obtain ⟨fuel, hf⟩ := h1
    exact open_parts (by simpa [Value.cells] using hf)
  clear hA0 hval0
  refine (parts_any k a1 len1 cap1 ps W hk h16 hps hoc).mono fun e W' ⟨he, bel⟩ => ?_
  subst he
  exact ⟨_, rfl, _, _, _, [], _, [], hW', trodAll_mk1 (shut_bool Try.underlying4 _), (trodAll_cons_mk (Below.trod laidOut (by kernel_rfl) (of_decide_eq_true (by kernel_rfl)) h0 bel lt0) (trodAll_cons_mk (Below.trod laidOut (by kernel_rfl) (of_decide_eq_true (by kernel_rfl)) k1 bel lt1) trodAll_mk0)), rfl, bel.frame _, fun h => by cases h⟩

theorem over : Rows.sipPartsRow.holds Try.pinned (OpenSpec.ofChange Rows.sipPartsSpec) :=
  OpenClaim.holds_of_wide 5 Try.f5 rfl rfl rfl rfl rfl rfl rfl ⟨rfl, rfl, rfl, rfl, rfl⟩ rfl rfl rfl rfl rfl (by kernel_rfl) Try.func5 (by kernel_rfl)
    (of_decide_eq_true (by kernel_rfl)) (by unfold Func.isWrapper; first | (rw [if_pos (by decide +kernel)]; kernel_rfl) | (rw [if_neg (by decide +kernel)]; exact ⟨rfl, rfl⟩))
    (fun os started H enc _ => lifted os started H enc)

end Go.Proofs.Ythiikecmhaijlaa.sipParts

namespace Go.Proofs.Ythiikecmhaijlaa
/-- The given statement. -/
theorem sipParts_holds : Rows.SipPartsSaid := sipParts.over
#print axioms sipParts_holds
end Go.Proofs.Ythiikecmhaijlaa
