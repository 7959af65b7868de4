/- append of any slice of numbers (nil let in) onto an own row, as one step of a region that draws its order; parts of a slice of numbers. Conditions: those of each theorem. -/
import Derived.Test.YtlmdioiaclfijaaOwns
import Derived.Deep.RegionLaw
namespace Go.Proofs.Ytlmdioiaclfijaa
open Go.RowKit

theorem ints_oneCell_map (zs : List Int) : ∀ u ∈ zs.map (Value.int .i64), u.oneCell' = true := by
  intro u hu
  obtain ⟨z, _, rfl⟩ := List.mem_map.1 hu
  rfl

theorem Ints.news {w : World} {ad : Addr} {m : Nat} {zs : List Int} (h : Ints w (some ad) m zs) : ∀ j u, (zs.map (Value.int .i64))[j]? = some u → w.cell? (ad.add j) = some u := by
  intro j u hu
  have hj : j < zs.length := by
    have := (List.getElem?_eq_some_iff.1 hu).1
    simpa using this
  obtain ⟨ad', e, hc⟩ := h.at_ (k := j) (by have := h.1; omega)
  cases e
  rw [hc]
  simp [hj] at hu
  simp [List.getD_eq_getElem?_getD, hj, hu]

theorem step_append_ints {ops : Array Oper} {o : Oper} {a : Act} {w : World} {K : Act → World → Prop} {Q : Exit → Act → World → Prop} {E : Prop} (hgd : o.guard = none) (s x : Operand)
    (ho : o.op = .call { callee := .builtin .append, args := #[s, x], argTypes := #[27, 27] })
    (base : Nat) (v : Value) (n : Nat) (xs : List Int) (hs : a.eval s = v) (hown : w.ownsRow base 2 1 v n (xs.map (Value.int .i64)))
    (A : Option Addr) (m c : Nat) (zs : List Int) (hx : a.eval x = .slice A m c) (hr : Ints w A m zs) (hA : A = none → c = 0)
    (hn : n + m ≤ 1000) (hbase : base ≤ w.heap.size)
    (h : ∀ v' w', w'.ownsRow base 2 1 v' (n + m) ((xs ++ zs).map (Value.int .i64)) → w.grownBy w' v.ownBlock → K (a.put o.dst v') w') :
    if Region.wanted o (yielded ops a.tmps) = true then Oper.wp Try.prog o a w K Q else E := by
  have hw : Region.wanted o (yielded ops a.tmps) = true := by simp [Region.wanted, hgd]
  rw [if_pos hw]
  obtain ⟨i0, hi, hz0, hz1, hz2⟩ := info_parts info2
  rcases A with _ | ad
  · have hm : m = 0 := by
      rcases Nat.eq_zero_or_pos m with h0 | h0
      · exact h0
      · obtain ⟨_, e, _⟩ := hr.2 h0; cases e
    have hc := hA rfl
    subst hm hc
    have hzs : zs = [] := List.length_eq_zero_iff.1 hr.1
    subst hzs
    have hrun := run_append_owned_none (P := Try.prog) w base 27 o.type 2 i0 1 Try.underlying27 hi v n _ hown
    unfold Oper.wp
    simp [execOp, ho, resolve, invoke, builtin, hs, hx, hrun, Result.andThen]
    exact h v w (by simpa using hown) ⟨rfl, rfl, rfl, Nat.le_refl _, fun _ _ _ => rfl⟩
  · refine wp_append_own w s x 27 ho base 2 i0 (.int .i64 0) 1 8 Try.underlying27 hi hz0 hz1 hz2 rfl (by decide) v n _ hs hown ad m c (zs.map (Value.int .i64)) hx (by have := hr.1; simpa using this) hr.news (ints_oneCell_map zs) (by unfold maxLen; omega) (by omega) hbase ?_
    intro v' w' h1 h2 _
    exact h v' w' (by rw [List.map_append]; exact h1) h2

theorem Ints.keep {w w' : World} {A : Option Addr} {n : Nat} {zs : List Int} (h : Ints w A n zs) (hk : ∀ p v, w.cell? p = some v → w'.cell? p = some v) : Ints w' A n zs :=
  ⟨h.1, fun h0 => by
    obtain ⟨ad, rfl, hc⟩ := h.2 h0
    exact ⟨ad, rfl, fun k hk' => hk _ _ (hc k hk')⟩⟩
/-- What turns nothing old keeps what was read. -/
theorem Ints.below {w w' : World} {A : Option Addr} {n : Nat} {zs : List Int} (h : Ints w A n zs) (hb : Below w.heap.size w w') : Ints w' A n zs :=
  h.keep fun p _ hp => (hb.cell (p := p) (World.block_lt_of_cell? w p hp)).trans hp

/-- The first k of them. -/
theorem Ints.upto {w : World} {A : Option Addr} {n : Nat} {zs : List Int} (h : Ints w A n zs) {k : Nat} (hk : k ≤ n) : Ints w A k (zs.take k) := by
  refine ⟨by have := h.1; simp; omega, fun h0 => ?_⟩
  obtain ⟨ad, rfl, hc⟩ := h.2 (by omega)
  refine ⟨ad, rfl, fun j hj => ?_⟩
  rw [hc j (by omega)]
  simp [List.getD_eq_getElem?_getD, hj]

/-- Those from k on. -/
theorem Ints.from_ {w : World} {A : Option Addr} {n : Nat} {zs : List Int} (h : Ints w A n zs) {k cap : Nat} (hk : k ≤ n) (hc : n ≤ cap) :
    Ints w (if cap = k then A else A.map (·.add k)) (n - k) (zs.drop k) := by
  refine ⟨by have := h.1; simp; omega, fun h0 => ?_⟩
  obtain ⟨ad, rfl, hcell⟩ := h.2 (by omega)
  rw [if_neg (by omega)]
  refine ⟨ad.add k, rfl, fun j hj => ?_⟩
  have e : (ad.add k).add j = ad.add (k + j) := by
    unfold Addr.add
    by_cases hi : k = 0 <;> by_cases hj : j = 0 <;> simp [hi, hj, Nat.add_assoc]
  rw [e, hcell _ (by omega)]
  simp [List.getD_eq_getElem?_getD, List.getElem?_drop]

theorem cut_none {A : Option Addr} {c q : Nat} (h : A = none → c = 0) : (if c = q then A else A.map (·.add q)) = none → c - q = 0 := by
  intro e
  by_cases hc : c = q
  · omega
  · rw [if_neg hc] at e
    rcases A with _ | ad
    · have := h rfl; omega
    · cases e
end Go.Proofs.Ytlmdioiaclfijaa
