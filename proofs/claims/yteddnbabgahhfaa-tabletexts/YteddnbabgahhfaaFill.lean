/- A table that is filled, and what stands in it then. Conditions: those of each theorem. -/
import Derived.Test.YteddnbabgahhfaaMaps
namespace Go.Proofs.Yteddnbabgahhfaa
open Go.RowKit

/-- The law's prefixes. -/
def nth (k : Int) : Pre := ⟨false, k, 1, 0, 0, 0, 0, 0⟩
theorem nth_ok {k : Int} (h : 0 ≤ k ∧ k ≤ 255) : (nth k).Ok := ⟨by
  intro z hz
  simp only [nth, Pre.bs, List.mem_cons, List.not_mem_nil, or_false] at hz
  rcases hz with rfl | rfl | rfl | rfl | rfl | rfl | rfl <;> first | exact h | decide⟩
theorem pre6_ok : pre6.Ok := ⟨by decide⟩
theorem nth_inj {j k : Int} (h : nth j = nth k) : j = k := by injection h
theorem nth_ne {k : Int} : nth k ≠ pre6 := fun h => by injection h with h1; cases h1
/-- The first k of them are there, each with its number. -/
structure Fill (k : Nat) (L : List Ent) : Prop where
  uni : Uni L
  ok : Oks L
  len : L.length = k
  mem : ∀ q u, (⟨q, u⟩ : Ent) ∈ L ↔ ∃ j : Nat, j < k ∧ q = nth j ∧ u = j
theorem Fill.zero : Fill 0 [] := ⟨Uni.nil, Oks.nil, rfl, fun q u => ⟨fun h => (by cases h), fun ⟨j, h, _⟩ => (by omega)⟩⟩
theorem has_ex {L : List Ent} {q : Pre} : has L q = true ↔ ∃ u, (⟨q, u⟩ : Ent) ∈ L := ⟨fun h => ⟨_, mem_val h⟩, fun ⟨_, h⟩ => has_mem.2 ⟨_, h, rfl⟩⟩
theorem Fill.not_ {k : Nat} {L : List Ent} (h : Fill k L) {q : Pre} (hq : ∀ j : Nat, j < k → q ≠ nth j) : has L q = false := by
  rw [← Bool.not_eq_true, has_ex]
  rintro ⟨u, hu⟩
  obtain ⟨j, hj, e, _⟩ := (h.mem q u).1 hu
  exact hq j hj e
theorem Fill.there {k : Nat} {L : List Ent} (h : Fill k L) {j : Nat} (hj : j < k) : has L (nth j) = true := has_ex.2 ⟨_, (h.mem _ _).2 ⟨j, hj, rfl, rfl⟩⟩
theorem Fill.more {k n : Nat} {L : List Ent} (h : Fill k L) (hk : k < n) (hn : n ≤ 64) : may L n (nth k) = true ∧ Fill (k + 1) (put L n (nth k) k) := by
  have hno : has L (nth k) = false := h.not_ (fun j hj e => by have := nth_inj e; omega)
  have hm : may L n (nth k) = true := by have := h.len; simp [may]; right; omega
  refine ⟨hm, h.uni.put_, h.ok.put_ (nth_ok (by omega)) (by omega), ?_, fun q u => ?_⟩
  · rw [put_len_new hno (by have := h.len; omega), h.len]
  · rw [mem_put h.uni hm, h.mem]
    constructor
    · rintro (⟨rfl, rfl⟩ | ⟨_, j, hj, rfl, rfl⟩)
      · exact ⟨k, by omega, rfl, rfl⟩
      · exact ⟨j, by omega, rfl, rfl⟩
    · rintro ⟨j, hj, rfl, rfl⟩
      by_cases e : j = k
      · subst e; exact .inl ⟨rfl, rfl⟩
      · exact .inr ⟨fun e' => e (by have := nth_inj e'; omega), j, by omega, rfl, rfl⟩
/-- What there is no room for. -/
theorem Fill.full {n : Nat} {L : List Ent} (h : Fill n L) (v : Int) : may L n pre6 = false ∧ put L n pre6 v = L := by
  have hno : has L pre6 = false := h.not_ (fun j _ e => nth_ne e.symm)
  have hl := h.len
  refine ⟨?_, put_full hno (by omega)⟩
  simp [may, hno]; omega
/-- The g-th changed. -/
structure Chg (n g : Nat) (L : List Ent) : Prop where
  uni : Uni L
  ok : Oks L
  len : L.length = n
  mem : ∀ q u, (⟨q, u⟩ : Ent) ∈ L ↔ (q = nth g ∧ u = 500) ∨ ∃ j : Nat, j < n ∧ j ≠ g ∧ q = nth j ∧ u = j
theorem Fill.change {n g : Nat} {L : List Ent} (h : Fill n L) (hg : g < n) (hn : n ≤ 64) : may L n (nth g) = true ∧ Chg n g (put L n (nth g) 500) := by
  have hh := h.there hg
  have hm : may L n (nth g) = true := by simp [may, hh]
  refine ⟨hm, h.uni.put_, h.ok.put_ (nth_ok (by omega)) (by omega), by rw [put_len_has hh, h.len], fun q u => ?_⟩
  rw [mem_put h.uni hm, h.mem]
  constructor
  · rintro (h1 | ⟨hne, j, hj, rfl, rfl⟩)
    · exact .inl h1
    · exact .inr ⟨j, hj, fun e => hne (by rw [e]), rfl, rfl⟩
  · rintro (h1 | ⟨j, hj, hne, rfl, rfl⟩)
    · exact .inl h1
    · exact .inr ⟨fun e => hne (by have := nth_inj e; omega), j, hj, rfl, rfl⟩
/-- The g-th gone. -/
structure Gone (n g : Nat) (L : List Ent) : Prop where
  uni : Uni L
  ok : Oks L
  len : L.length + 1 = n
  mem : ∀ q u, (⟨q, u⟩ : Ent) ∈ L ↔ ∃ j : Nat, j < n ∧ j ≠ g ∧ q = nth j ∧ u = j
theorem Chg.gone {n g : Nat} {L : List Ent} (h : Chg n g L) : has L (nth g) = true ∧ Gone n g (del L (nth g)) := by
  have hh : has L (nth g) = true := has_ex.2 ⟨500, (h.mem _ _).2 (.inl ⟨rfl, rfl⟩)⟩
  refine ⟨hh, h.uni.del_, h.ok.del_, by rw [del_len hh, h.len], fun q u => ?_⟩
  rw [mem_del h.uni, h.mem]
  constructor
  · rintro ⟨hne, h1 | h1⟩
    · exact absurd h1.1 hne
    · exact h1
  · rintro ⟨j, hj, hne, rfl, rfl⟩
    exact ⟨fun e => hne (by have := nth_inj e; omega), .inr ⟨j, hj, hne, rfl, rfl⟩⟩
/-- Another one in its place. -/
structure Oth (n g : Nat) (L : List Ent) : Prop where
  uni : Uni L
  ok : Oks L
  len : L.length = n
  mem : ∀ q u, (⟨q, u⟩ : Ent) ∈ L ↔ (q = pre6 ∧ u = 2) ∨ ∃ j : Nat, j < n ∧ j ≠ g ∧ q = nth j ∧ u = j
theorem Gone.other {n g : Nat} {L : List Ent} (h : Gone n g L) : may L n pre6 = true ∧ Oth n g (put L n pre6 2) := by
  have hno : has L pre6 = false := by
    rw [← Bool.not_eq_true, has_ex]
    rintro ⟨u, hu⟩
    obtain ⟨j, _, _, e, _⟩ := (h.mem _ u).1 hu
    exact nth_ne e.symm
  have hl := h.len
  have hm : may L n pre6 = true := by simp [may]; right; omega
  refine ⟨hm, h.uni.put_, h.ok.put_ pre6_ok (by omega), by rw [put_len_new hno (by omega)]; exact hl, fun q u => ?_⟩
  rw [mem_put h.uni hm, h.mem]
  constructor
  · rintro (h1 | ⟨_, h1⟩)
    · exact .inl h1
    · exact .inr h1
  · rintro (h1 | ⟨j, hj, hne, rfl, rfl⟩)
    · exact .inl h1
    · exact .inr ⟨nth_ne, j, hj, hne, rfl, rfl⟩
theorem Oth.is {n g : Nat} {L : List Ent} (h : Oth n g L) {j : Nat} (hj : j < n) (hne : j ≠ g) : has L (nth j) = true ∧ val L (nth j) = j := h.uni.val_mem ((h.mem _ _).2 (.inr ⟨j, hj, hne, rfl, rfl⟩))
theorem Oth.not_ {n g : Nat} {L : List Ent} (h : Oth n g L) : has L (nth g) = false ∧ val L (nth g) = 0 := by
  have hno : has L (nth g) = false := by
    rw [← Bool.not_eq_true, has_ex]
    rintro ⟨u, hu⟩
    rcases (h.mem _ u).1 hu with h1 | ⟨j, _, hne, e, _⟩
    · exact nth_ne h1.1
    · have := nth_inj e; omega
  exact ⟨hno, val_not hno⟩
theorem Oth.other {n g : Nat} {L : List Ent} (h : Oth n g L) : has L pre6 = true ∧ val L pre6 = 2 := h.uni.val_mem ((h.mem _ _).2 (.inl ⟨rfl, rfl⟩))
/-- The builds. -/
theorem run_b29 (k : Int) (w : World) : (Instr.build 29 #[(0, .int .u8 k), (1, .int .u8 1)]).run Try.prog w = .ok (.agg (cel [k, 1, 0, 0, 0, 0, 0]).toArray) w := run_build w 29 _ _ (by kernel_rfl)
theorem run_nth (k : Int) (w : World) : (Instr.build 31 #[(1, .agg (cel [k, 1, 0, 0, 0, 0, 0]).toArray)]).run Try.prog w = .ok (.agg (nth k).cs.toArray) w := run_build w 31 _ _ (by kernel_rfl)
theorem wpList_buildG {ops : Array Oper} {rest : List Oper} {o : Oper} {a : Act} {w : World} {Q : Exit → Act → World → Prop} (hw : Region.wanted o (yielded ops a.tmps) = true) (ty : TypeId) (parts : List (Nat × Operand)) (ho : o.op = .build ty parts.toArray)
    (vals : List (Nat × Value)) (hp : (parts.map fun px => (px.1, a.eval px.2)) = vals) (cells : List Value) (hb : (Instr.build ty vals.toArray).run Try.prog w = .ok (.agg cells.toArray) w)
    (h : wpList Try.prog ops Q rest (a.put o.dst (.agg cells.toArray)) w) : wpList Try.prog ops Q (o :: rest) a w := by
  subst hp
  unfold wpList
  rw [if_pos hw]
  refine .inl ?_
  unfold Oper.wp
  simp only [execOp, ho, List.map_toArray]
  simp [hb, Oper.upon]
  exact h
end Go.Proofs.Yteddnbabgahhfaa
