/- Plain mathematics of TurnsSleep: who is left, with what. Conditions: those of each theorem. -/
import Derived.Test.YtknalphhnicffaaNums
namespace Go.Proofs.Ytknalphhnicffaa

theorem sleep_take {L : List Cls} {j : Nat} {x : Cls} (c : Int) (h : L[j]? = some x) : sleepOf (L.take (j + 1)) c = if (x.n : Int) = c then sleepOf (L.take j) c else sleepOf (L.take j) c ++ [x] := by
  have hl := (List.getElem?_eq_some_iff.1 h).1
  have hx := (List.getElem?_eq_some_iff.1 h).2
  rw [List.take_succ_eq_append_getElem hl, hx]
  unfold sleepOf
  rw [List.filter_append]
  by_cases e : (x.n : Int) = c
  · simp [e]
  · simp [e]
theorem sleep_mem {L : List Cls} {c : Int} {x : Cls} : x ∈ sleepOf L c ↔ x ∈ L ∧ (x.n : Int) ≠ c := by simp [sleepOf]
theorem sleep_len (L : List Cls) (c : Int) : decide ((sleepOf L c).length < L.length) = isIn L c := by
  induction L with
  | nil => simp [sleepOf, isIn]
  | cons x xs ih =>
    have hle : (sleepOf xs c).length ≤ xs.length := List.length_filter_le _ _
    by_cases e : (x.n : Int) = c
    · have h1 : sleepOf (x :: xs) c = sleepOf xs c := by simp [sleepOf, e]
      have h2 : isIn (x :: xs) c = true := by simp [isIn, e]
      rw [h1, h2]
      simp
      omega
    · have h1 : sleepOf (x :: xs) c = x :: sleepOf xs c := by simp [sleepOf, e]
      have h2 : isIn (x :: xs) c = isIn xs c := by simp [isIn, e]
      rw [h1, h2, ← ih]
      simp
/-- The deficit of one that is awake. -/
theorem def_at {n Q : Nat} {L : List Cls} {x : Cls} (h : Ok n Q L) (hx : x ∈ L) : defOf L (x.n : Nat) = x.d := by
  induction L with
  | nil => simp at hx
  | cons y ys ih =>
    have hn := h.nodup
    simp [names] at hn
    unfold defOf
    rcases List.mem_cons.1 hx with rfl | hx
    · simp
    · have : y.n ≠ x.n := fun e => hn.1 x hx e.symm
      rw [if_neg (by omega)]
      exact ih h.tail hx
theorem def_not {L : List Cls} {c : Int} (h : isIn L c = false) : defOf L c = 0 := by
  rw [isIn_not] at h
  induction L with
  | nil => rfl
  | cons y ys ih =>
    unfold defOf
    rw [if_neg (h y (by simp))]
    exact ih (fun z hz => h z (by simp [hz]))
theorem sleep_not (L : List Cls) (c : Int) : isIn (sleepOf L c) c = false := by
  rw [isIn_not]
  intro x hx
  exact (sleep_mem.1 hx).2
theorem def_app {L : List Cls} {c : Int} (h : isIn L c = false) (x : Cls) : defOf (L ++ [x]) c = if (x.n : Int) = c then x.d else 0 := by
  rw [isIn_not] at h
  induction L with
  | nil => simp [defOf]
  | cons y ys ih =>
    show (if (y.n : Int) = c then y.d else defOf (ys ++ [x]) c) = _
    rw [if_neg (h y (by simp))]
    exact ih (fun z hz => h z (by simp [hz]))
theorem sleep_wake {n Q : Nat} {L : List Cls} {c : Int} (h : Ok n Q L) (hi : isIn L c = true) : canWake n (sleepOf L c) c = true ∧ wakeOf n (sleepOf L c) c = sleepOf L c ++ [⟨c.toNat, true, 0⟩] ∧ defOf (wakeOf n (sleepOf L c) c) c = 0 ∧ ∃ k : Nat, c = k := by
  obtain ⟨x, hx, rfl⟩ := isIn_iff.1 hi
  have hlt := h.lt x hx
  have h1 : canWake n (sleepOf L (x.n : Nat)) (x.n : Nat) = true := by
    simp [canWake, sleep_not]
    exact hlt
  have h2 : wakeOf n (sleepOf L (x.n : Nat)) (x.n : Nat) = sleepOf L (x.n : Nat) ++ [⟨(x.n : Int).toNat, true, 0⟩] := by
    unfold wakeOf
    rw [if_pos h1]
  refine ⟨h1, h2, ?_, x.n, rfl⟩
  rw [h2, def_app (sleep_not L _)]
  split <;> rfl
end Go.Proofs.Ytknalphhnicffaa
