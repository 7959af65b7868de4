/- The program's box is what the laws want of one. Conditions: those of each theorem. -/
import Derived.Test.YtpjeeccgpnpokaaBPut
namespace Go.Proofs.Ytpjeeccgpnpokaa
open Go.RowKit

/-- The box at g, in its blocks. -/
def BoxT : Tbl := fun b w g C L => ∃ f h q n, BoxAt f h q n w g C L ∧ ∀ k, b k ↔ boxB f h q g L k
theorem BOut.acted {f : Pre → Nat} {h q n g : Nat} {C : Cfg} {L L' : List Ent} {v : Value} {w w' : World} {e : Ending} {b : Nat → Prop} (hb : ∀ k, b k ↔ boxB f h q g L k) (hs : ∀ e ∈ L', ∃ e1 ∈ L, e1.p = e.p) (o : BOut f h q n g C L L' v w e w') : Acted BoxT b g C L' v w e w' :=
  ⟨o.1, boxB f h q g L', ⟨f, h, q, n, o.2.1, fun _ => Iff.rfl⟩, o.2.2.mono fun k hk => (hb k).2 hk, fun k hk => .inl ((hb k).2 (by
    rcases hk with hk | hk | hk | ⟨e1, he, hk⟩
    · exact .inl hk
    · exact .inr (.inl hk)
    · exact .inr (.inr (.inl hk))
    · obtain ⟨e2, h2, h3⟩ := hs e1 he
      exact .inr (.inr (.inr ⟨e2, h2, by rw [h3]; exact hk⟩))))⟩
theorem PutOut.acted {f : Pre → Nat} {h q n g : Nat} {C : Cfg} {L L' : List Ent} {v : Value} {w w' : World} {e : Ending} {b : Nat → Prop} (hb : ∀ k, b k ↔ boxB f h q g L k) (o : PutOut f h q n g C L L' v w e w') : Acted BoxT b g C L' v w e w' := by
  obtain ⟨he, ⟨f', hx, hs⟩, hf⟩ := o
  refine ⟨he, boxB f' h q g L', ⟨f', h, q, n, hx, fun _ => Iff.rfl⟩, hf.mono fun k hk => (hb k).2 hk, fun k hk => ?_⟩
  rcases hk with hk | hk | hk | ⟨e1, h1, hk⟩
  · exact .inl ((hb k).2 (.inl hk))
  · exact .inl ((hb k).2 (.inr (.inl hk)))
  · exact .inl ((hb k).2 (.inr (.inr (.inl hk))))
  · rcases hs e1 h1 with ⟨e2, h2, h3⟩ | h2
    · exact .inl ((hb k).2 (.inr (.inr (.inr ⟨e2, h2, by rw [hk, h3]⟩))))
    · exact .inr (by rw [hk]; exact h2)
theorem self_mem {L L' : List Ent} (h : ∀ e ∈ L', e ∈ L) : ∀ e ∈ L', ∃ e1 ∈ L, e1.p = e.p := fun e he => ⟨e, h e he, rfl⟩
theorem take_mem {C : Cfg} {S : List Ent} {p : Pre} {x n : Int} : ∀ e ∈ takeS C S p x n, ∃ e1 ∈ S, e1.p = e.p := fun e he => by
  unfold takeS at he
  split at he
  · rename_i hh
    rcases List.mem_or_eq_of_mem_set he with he | rfl
    · exact ⟨e, he, rfl⟩
    · exact ⟨_, at_mem (has_iff.1 hh), rfl⟩
  · exact ⟨e, he, rfl⟩
theorem progB : ProgB BoxT where
  keep := fun b w w' g C L S ⟨f, h, q, n, hx, hb⟩ hf hS => ⟨f, h, q, n, hx.far hf (fun k hk => hS k ((hb k).2 hk)), hb⟩
  lt := fun b w g C L ⟨f, h, q, n, hx, hb⟩ k hk => hx.lt k ((hb k).1 hk)
  bad := fun C w _ _ _ _ hC => bnew_bad C w hC
  new := fun C w hC => (bnew_ C w hC).mono fun e w' ⟨f, h, q, n, g, he, hx, hg, hh, hq, hb⟩ => ⟨g, boxB f h q g [], he, ⟨f, h, q, n, hx, fun _ => Iff.rfl⟩, (fun k hk => by
    rcases hk with rfl | rfl | rfl | ⟨e1, h1, _⟩
    · exact hg
    · exact hh
    · exact hq
    · cases h1), hb⟩
  put := fun b w g C L p x ⟨f, h, q, n, hx, hb⟩ hC ho hp hx0 => by
    rcases hh : has (swp L x) p with _ | _
    · have := bput_new f h q n g C L p x w hx hC ho.pre hp hx0.2 hh
      refine this.mono fun e w' hP => ?_
      have h2 := hP.acted hb
      have e1 : putS C (swp L x) p x = (if C.room ≤ ((swp L x).length : Int) then swp L x else ins (swp L x) (plc (swp L x) p) (newE C p x)) := by unfold putS; rw [hh]; rfl
      have e2 : putE C (swp L x) p = (if C.room ≤ ((swp L x).length : Int) then 6 else 0) := by unfold putE; rw [hh]; rfl
      rw [e1, e2]
      exact h2
    · have := bput_has f h q n g C L p x w hx ho.pre hp hh
      refine this.mono fun e w' hP => ?_
      have h2 := hP.acted hb
      have e1 : putS C (swp L x) p x = swp L x := by unfold putS; rw [if_pos hh]
      have e2 : putE C (swp L x) p = 7 := by unfold putE; rw [if_pos hh]
      rw [e1, e2]
      exact h2
  inn := fun b w g C L p x ⟨f, h, q, n, hx, hb⟩ _ ho hp _ => (bin_ f h q n g C L p x w hx ho.pre hp).mono fun _ _ hP => hP.acted hb (self_mem swp_mem)
  take := fun b w g C L p x k ⟨f, h, q, n, hx, hb⟩ _ ho hp hx0 _ => (btake_ f h q n g C L p x k w hx ho.pre hp hx0.2).mono fun _ _ hP => hP.acted hb fun e he => by
    obtain ⟨e1, h1, h2⟩ := take_mem e he
    exact ⟨e1, swp_mem e1 h1, h2⟩
  drop := fun b w g C L p x ⟨f, h, q, n, hx, hb⟩ _ ho hp _ => (bdrop_ f h q n g C L p x w hx ho.pre hp).mono fun _ _ hP => hP.acted hb (self_mem fun e he => swp_mem e (del_mem e he))
  all := fun b w g C L x ⟨f, h, q, n, hx, hb⟩ _ ho _ => (ball_ f h q n g C L x w hx ho.pre).mono fun _ _ ⟨A, c, hE, hc, hP⟩ => ⟨A, c, hE, hc, hP.acted hb (self_mem swp_mem)⟩
  putNil := fun p x w _ _ => bput_nil p x w
  inNil := fun p x w _ _ => bin_nil p x w
  allNil := fun x w _ => ball_nil x w
end Go.Proofs.Ytpjeeccgpnpokaa
