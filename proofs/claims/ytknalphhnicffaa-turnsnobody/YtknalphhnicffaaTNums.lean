/- The turns' cells, as plain lists: what stands where (Good), what each store makes of it. Conditions: those of each theorem. -/
import Derived.Test.YtknalphhnicffaaDocs
namespace Go.Proofs.Ytknalphhnicffaa
open Go.RowKit

/-- Is a class that is awake fresh? -/
def freOf : List Cls → Int → Bool
  | [], _ => false
  | x :: xs, c => if (x.n : Int) = c then x.fresh else freOf xs c
/-- What stands in the turns' 390 cells. -/
structure Good (n Q : Nat) (L : List Cls) (cs : List Value) : Prop where
  size : cs.length = 390
  one : ∀ v ∈ cs, v.oneCell' = true
  q : cs[0]? = some (.int .i64 (Q : Nat))
  n : cs[1]? = some (.int .i64 (n : Nat))
  k : cs[260]? = some (.int .i64 (L.length : Nat))
  line : ∀ (j k : Nat), (names L)[j]? = some k → cs[261 + j]? = some (.int .i64 (k : Nat))
  d : ∀ c : Nat, c < 129 → cs[2 + c * 2]? = some (.int .i64 (defOf L c : Nat))
  f : ∀ c : Nat, c < 129 → cs[2 + c * 2 + 1]? = some (.bool (freOf L c))

theorem set_one {cs : List Value} (h : ∀ v ∈ cs, v.oneCell' = true) (i : Nat) {u : Value} (hu : u.oneCell' = true) : ∀ v ∈ cs.set i u, v.oneCell' = true := by
  intro v hv
  rcases List.mem_or_eq_of_mem_set hv with h1 | rfl
  · exact h v h1
  · exact hu
theorem set_other {cs : List Value} {i j : Nat} {u : Value} (h : i ≠ j) : (cs.set i u)[j]? = cs[j]? := by rw [List.getElem?_set_ne h]
theorem set_same {cs : List Value} {i : Nat} {u : Value} (h : i < cs.length) : (cs.set i u)[i]? = some u := by simp [h]
/-- Of a list of numbers below n, no two alike, there are at most n. -/
theorem nodup_le : ∀ (n : Nat) (l : List Nat), l.Nodup → (∀ x ∈ l, x < n) → l.length ≤ n := by
  intro n
  induction n with
  | zero =>
    intro l _ h
    rcases l with _ | ⟨x, xs⟩
    · exact Nat.le_refl _
    · exact absurd (h x (by simp)) (by omega)
  | succ n ih =>
    intro l hn h
    have h1 := ih (l.erase n) (hn.sublist List.erase_sublist) (fun x hx => by
      have := h x (List.mem_of_mem_erase hx)
      have : x ≠ n := fun e => by subst e; exact (List.Nodup.not_mem_erase hn) hx
      omega)
    by_cases hm : n ∈ l
    · rw [List.length_erase_of_mem hm] at h1
      omega
    · rw [List.erase_of_not_mem hm] at h1
      omega
section
variable {n Q : Nat} {L : List Cls} {cs : List Value}
theorem Ok.length_le (h : Ok n Q L) : L.length ≤ n := by
  rw [← names_length]
  exact nodup_le n _ h.nodup (fun x hx => by
    obtain ⟨y, hy, rfl⟩ := List.mem_map.1 hx
    exact h.lt y hy)
theorem Ok.length_lt {c : Int} (h : Ok n Q L) (hc : canWake n L c = true) : L.length < n := by
  have := (h.wake c).length_le
  simp [wakeOf, hc] at this
  omega
theorem def_apps (a b : List Cls) (c : Int) : defOf (a ++ b) c = if isIn a c then defOf a c else defOf b c := by
  induction a with
  | nil => rfl
  | cons x xs ih =>
    by_cases e : (x.n : Int) = c
    · simp [defOf, isIn, e]
    · simp only [List.cons_append, defOf, if_neg e, ih]
      simp [isIn, e]
theorem fre_app (a b : List Cls) (c : Int) : freOf (a ++ b) c = if isIn a c then freOf a c else freOf b c := by
  induction a with
  | nil => rfl
  | cons x xs ih =>
    by_cases e : (x.n : Int) = c
    · simp [freOf, isIn, e]
    · simp only [List.cons_append, freOf, if_neg e, ih]
      simp [isIn, e]
theorem fre_not {c : Int} (h : isIn L c = false) : freOf L c = false := by
  rw [isIn_not] at h
  induction L with
  | nil => rfl
  | cons x xs ih =>
    unfold freOf
    rw [if_neg (h x (by simp))]
    exact ih (fun y hy => h y (by simp [hy]))
theorem isIn_app (a b : List Cls) (c : Int) : isIn (a ++ b) c = (isIn a c || isIn b c) := by simp [isIn]
/-- The first one's deficit. -/
theorem Good.due {x : Cls} {xs : List Cls} (h : Good n Q (x :: xs) cs) (hx : x.n < 129) (v : Nat) : Good n Q (⟨x.n, x.fresh, v⟩ :: xs) (cs.set (2 + x.n * 2) (.int .i64 (v : Nat))) := by
  have hs := h.size
  refine ⟨by simpa using hs, set_one h.one _ rfl, by rw [set_other (by omega)]; exact h.q, by rw [set_other (by omega)]; exact h.n, by rw [set_other (by omega)]; exact h.k, fun j k hk => ?_, fun c hc => ?_, fun c hc => ?_⟩
  · rw [set_other (by omega)]
    exact h.line j k hk
  · by_cases e : x.n = c
    · subst e
      rw [set_same (by omega)]
      simp [defOf]
    · rw [set_other (by omega), h.d c hc]
      have e' : ¬ ((x.n : Int) = (c : Int)) := by omega
      simp [defOf, e']
  · rw [set_other (by omega), h.f c hc]
    rfl
/-- Whether the first one is fresh. -/
theorem Good.fre {x : Cls} {xs : List Cls} (h : Good n Q (x :: xs) cs) (hx : x.n < 129) (v : Bool) : Good n Q (⟨x.n, v, x.d⟩ :: xs) (cs.set (2 + x.n * 2 + 1) (.bool v)) := by
  have hs := h.size
  refine ⟨by simpa using hs, set_one h.one _ rfl, by rw [set_other (by omega)]; exact h.q, by rw [set_other (by omega)]; exact h.n, by rw [set_other (by omega)]; exact h.k, fun j k hk => ?_, fun c hc => ?_, fun c hc => ?_⟩
  · rw [set_other (by omega)]
    exact h.line j k hk
  · rw [set_other (by omega), h.d c hc]
    rfl
  · by_cases e : x.n = c
    · subst e
      rw [set_same (by omega)]
      simp [freOf]
    · rw [set_other (by omega), h.f c hc]
      have e' : ¬ ((x.n : Int) = (c : Int)) := by omega
      simp [freOf, e']
/-- A class wakes. -/
theorem Good.wake {c : Nat} (h : Good n Q L cs) (hc : c < 129) (hl : L.length < 129) (hi : isIn L (c : Int) = false) :
    Good n Q (L ++ [⟨c, true, 0⟩]) ((((cs.set (2 + c * 2) (.int .i64 0)).set (2 + c * 2 + 1) (.bool true)).set (261 + L.length) (.int .i64 (c : Nat))).set 260 (.int .i64 (L.length + 1 : Nat))) := by
  have hs := h.size
  refine ⟨by simpa using hs, set_one (set_one (set_one (set_one h.one _ rfl) _ rfl) _ rfl) _ rfl, ?_, ?_, ?_, fun j k hk => ?_, fun e he => ?_, fun e he => ?_⟩
  · rw [set_other (by omega), set_other (by omega), set_other (by omega), set_other (by omega)]; exact h.q
  · rw [set_other (by omega), set_other (by omega), set_other (by omega), set_other (by omega)]; exact h.n
  · rw [set_same (by simp; omega)]; simp
  · rw [set_other (by omega)]
    rw [names_app] at hk
    by_cases e : j = L.length
    · subst e
      rw [set_same (by simp; omega)]
      rw [List.getElem?_append_right (by rw [names_length]; exact Nat.le_refl _)] at hk
      simp [names] at hk
      subst hk
      rfl
    · have hj : j < (names L).length := by
        have := (List.getElem?_eq_some_iff.1 hk).1
        simp [names] at this
        simp [names]
        omega
      rw [List.getElem?_append_left hj] at hk
      rw [set_other (by omega), set_other (by rw [names_length] at hj; omega), set_other (by rw [names_length] at hj; omega)]
      exact h.line j k hk
  · rw [set_other (by omega), set_other (by omega), set_other (by omega), def_apps]
    by_cases e' : c = e
    · subst e'
      rw [set_same (by omega), hi]
      simp [defOf]
    · rw [set_other (by omega), h.d e he]
      have e2 : ¬ ((c : Int) = (e : Int)) := by omega
      rcases hb : isIn L (e : Int) with _ | _
      · simp [defOf, e2, def_not hb]
      · simp
  · rw [set_other (by omega), set_other (by omega), fre_app]
    by_cases e' : c = e
    · subst e'
      rw [set_same (by simp; omega), hi]
      simp [freOf]
    · rw [set_other (by omega), set_other (by omega), h.f e he]
      have e2 : ¬ ((c : Int) = (e : Int)) := by omega
      rcases hb : isIn L (e : Int) with _ | _
      · simp [freOf, e2, fre_not hb]
      · simp
/-- The last one sleeps. -/
theorem Good.pop {x : Cls} (h : Good n Q (L ++ [x]) cs) (hx : x.n < 129) (hi : isIn L (x.n : Int) = false) :
    Good n Q L (((cs.set 260 (.int .i64 (L.length : Nat))).set (2 + x.n * 2) (.int .i64 0)).set (2 + x.n * 2 + 1) (.bool false)) := by
  have hs := h.size
  refine ⟨by simpa using hs, set_one (set_one (set_one h.one _ rfl) _ rfl) _ rfl, ?_, ?_, ?_, fun j k hk => ?_, fun e he => ?_, fun e he => ?_⟩
  · rw [set_other (by omega), set_other (by omega), set_other (by omega)]; exact h.q
  · rw [set_other (by omega), set_other (by omega), set_other (by omega)]; exact h.n
  · rw [set_other (by omega), set_other (by omega), set_same (by omega)]
  · rw [set_other (by omega), set_other (by omega), set_other (by omega)]
    refine h.line j k ?_
    rw [names_app, List.getElem?_append_left (List.getElem?_eq_some_iff.1 hk).1]
    exact hk
  · rw [set_other (by omega)]
    by_cases e' : x.n = e
    · subst e'
      rw [set_same (by simp; omega), def_not hi]
      rfl
    · rw [set_other (by omega), set_other (by omega), h.d e he, def_apps]
      have e2 : ¬ ((x.n : Int) = (e : Int)) := by omega
      rcases hb : isIn L (e : Int) with _ | _
      · simp [defOf, e2, def_not hb]
      · simp
  · by_cases e' : x.n = e
    · subst e'
      rw [set_same (by simp; omega), fre_not hi]
    · rw [set_other (by omega), set_other (by omega), set_other (by omega), h.f e he, fre_app]
      have e2 : ¬ ((x.n : Int) = (e : Int)) := by omega
      rcases hb : isIn L (e : Int) with _ | _
      · simp [freOf, e2, fre_not hb]
      · simp
theorem splice_get {α : Type} (l : List α) (o : Nat) (ys : List α) (h : o + ys.length ≤ l.length) (i : Nat) : (splice l o ys)[i]? = if i < o then l[i]? else if i < o + ys.length then ys[i - o]? else l[i]? := by
  unfold splice
  by_cases h1 : i < o
  · rw [if_pos h1, List.getElem?_append_left (by simp; omega), List.getElem?_take, if_pos h1]
  · rw [if_neg h1, List.getElem?_append_right (by simp; omega)]
    have e : (l.take o).length = o := by simp; omega
    rw [e]
    by_cases h2 : i < o + ys.length
    · rw [if_pos h2, List.getElem?_append_left (by omega)]
    · rw [if_neg h2, List.getElem?_append_right (by omega), List.getElem?_drop]
      congr 1
      omega
/-- Two that are awake alike, but for the order. -/
theorem def_perm {L' : List Cls} (hp : L.Perm L') (hn : (names L).Nodup) (c : Int) : defOf L c = defOf L' c ∧ freOf L c = freOf L' c := by
  have key : ∀ (M : List Cls), (names M).Nodup → ∀ y ∈ M, (y.n : Int) = c → defOf M c = y.d ∧ freOf M c = y.fresh := by
    intro M
    induction M with
    | nil => intro _ y hy; simp at hy
    | cons z zs ih =>
      intro hm y hy e
      simp [names] at hm
      rcases List.mem_cons.1 hy with rfl | hy
      · simp [defOf, freOf, e]
      · have hz : ¬ ((z.n : Int) = c) := fun e2 => hm.1 y hy (by omega)
        unfold defOf freOf
        rw [if_neg hz, if_neg hz]
        exact ih (by simpa [names] using hm.2) y hy e
  have hn' : (names L').Nodup := (List.Perm.nodup_iff (hp.map _)).1 hn
  rcases hb : isIn L c with _ | _
  · have hb' : isIn L' c = false := by
      rw [isIn_not] at hb ⊢
      exact fun y hy => hb y (hp.mem_iff.2 hy)
    rw [def_not hb, def_not hb', fre_not hb, fre_not hb']
    exact ⟨rfl, rfl⟩
  · obtain ⟨y, hy, e⟩ := isIn_iff.1 hb
    obtain ⟨h1, h2⟩ := key L hn y hy e
    obtain ⟨h3, h4⟩ := key L' hn' y (hp.mem_iff.1 hy) e
    rw [h1, h2, h3, h4]
    exact ⟨rfl, rfl⟩
/-- The k-th one is made the last one. -/
def lastOf (L : List Cls) (k : Nat) (x : Cls) : List Cls := L.take k ++ L.drop (k + 1) ++ [x]
theorem last_perm {k : Nat} {x : Cls} (hk : L[k]? = some x) : L.Perm (lastOf L k x) := by
  have hl := (List.getElem?_eq_some_iff.1 hk).1
  have e2 := (List.getElem?_eq_some_iff.1 hk).2
  have hd : L = L.take k ++ x :: L.drop (k + 1) := by rw [← e2, ← List.drop_eq_getElem_cons hl, List.take_append_drop]
  unfold lastOf
  rw [List.append_assoc]
  refine (List.Perm.of_eq hd).trans (List.Perm.append_left _ ?_)
  exact List.perm_append_comm (l₁ := [x]) (l₂ := L.drop (k + 1))
theorem last_length {k : Nat} {x : Cls} (hk : L[k]? = some x) : (lastOf L k x).length = L.length := (last_perm hk).length_eq.symm
/-- The cells that go over. -/
def tailOf (L : List Cls) (k : Nat) : List Value := (names (L.drop (k + 1))).map fun (z : Nat) => Value.int .i64 (z : Nat)
theorem tail_length (L : List Cls) (k : Nat) : (tailOf L k).length = L.length - (k + 1) := by simp [tailOf, names]
theorem tail_one (L : List Cls) (k : Nat) : ∀ v ∈ tailOf L k, v.oneCell' = true := by
  intro v hv
  obtain ⟨z, _, rfl⟩ := List.mem_map.1 hv
  rfl
theorem Good.tail {k j : Nat} {v : Value} (h : Good n Q L cs) (hv : (tailOf L k)[j]? = some v) : cs[261 + (k + 1 + j)]? = some v := by
  unfold tailOf at hv
  rw [List.getElem?_map] at hv
  rcases hz : (names (L.drop (k + 1)))[j]? with _ | z
  · rw [hz] at hv; cases hv
  · rw [hz] at hv
    injection hv with hv
    subst hv
    refine h.line _ z ?_
    rw [← hz]
    simp [names, List.getElem?_drop]
theorem Good.last {k : Nat} {x : Cls} (h : Good n Q L cs) (ho : Ok n Q L) (hk : L[k]? = some x) (hl : L.length ≤ 129) :
    Good n Q (lastOf L k x) ((splice cs (261 + k) (tailOf L k)).set (261 + (L.length - 1)) (.int .i64 (x.n : Nat))) := by
  have hs := h.size
  have hkl := (List.getElem?_eq_some_iff.1 hk).1
  have ht := tail_length L k
  have hfit : 261 + k + (tailOf L k).length ≤ cs.length := by omega
  have hsp := length_splice cs (261 + k) (tailOf L k) hfit
  have hlow : ∀ i, i < 261 → ((splice cs (261 + k) (tailOf L k)).set (261 + (L.length - 1)) (.int .i64 (x.n : Nat)))[i]? = cs[i]? := fun i hi => by
    rw [set_other (by omega), splice_get _ _ _ hfit, if_pos (by omega)]
  have hp := def_perm (last_perm hk) ho.nodup
  refine ⟨by simp; omega, set_one ?_ _ rfl, ?_, ?_, ?_, fun j z hz => ?_, fun e he => ?_, fun e he => ?_⟩
  · intro v hv
    unfold splice at hv
    rcases List.mem_append.1 hv with hv | hv
    · exact h.one v (List.mem_of_mem_take hv)
    · rcases List.mem_append.1 hv with hv | hv
      · exact tail_one L k v hv
      · exact h.one v (List.mem_of_mem_drop hv)
  · rw [hlow 0 (by omega)]; exact h.q
  · rw [hlow 1 (by omega)]; exact h.n
  · rw [hlow 260 (by omega), last_length hk]; exact h.k
  · have hj := (List.getElem?_eq_some_iff.1 hz).1
    rw [names_length, last_length hk] at hj
    have hnm : names (lastOf L k x) = (names L).take k ++ (names L).drop (k + 1) ++ [x.n] := by simp [lastOf, names]
    rw [hnm] at hz
    have hnl : (names L).length = L.length := names_length L
    by_cases e1 : j = L.length - 1
    · subst e1
      rw [set_same (by omega)]
      rw [List.getElem?_append_right (by simp; omega)] at hz
      have e3 : L.length - 1 - ((names L).take k ++ (names L).drop (k + 1)).length = 0 := by simp; omega
      rw [e3] at hz
      simp at hz
      subst hz
      rfl
    · rw [List.getElem?_append_left (by simp; omega)] at hz
      rw [set_other (by omega), splice_get _ _ _ hfit]
      by_cases e2 : j < k
      · rw [if_pos (by omega)]
        rw [List.getElem?_append_left (by simp; omega), List.getElem?_take, if_pos e2] at hz
        exact h.line j z hz
      · rw [if_neg (by omega), if_pos (by omega)]
        rw [List.getElem?_append_right (by simp; omega)] at hz
        have e3 : ((names L).take k).length = k := by simp; omega
        rw [e3] at hz
        have e4 : 261 + j - (261 + k) = j - k := by omega
        rw [e4]
        unfold tailOf
        rw [List.getElem?_map]
        have e5 : names (L.drop (k + 1)) = (names L).drop (k + 1) := by simp [names]
        rw [e5, hz]
        rfl
  · rw [hlow _ (by omega), h.d e he, (hp _).1]
  · rw [hlow _ (by omega), h.f e he, (hp _).2]
theorem Ok.last {k : Nat} {x : Cls} (ho : Ok n Q L) (hk : L[k]? = some x) : Ok n Q (lastOf L k x) := by
  have hp := last_perm hk
  exact ⟨(List.Perm.nodup_iff (hp.map _)).1 ho.nodup, fun y hy => ho.lt y (hp.mem_iff.2 hy), fun y hy => ho.low y (hp.mem_iff.2 hy), fun y hy => ho.high y (hp.mem_iff.2 hy)⟩
/-- The cells of new turns. -/
theorem Good.new (n Q : Nat) : Good n Q [] (Value.int .i64 (Q : Nat) :: .int .i64 (n : Nat) :: ((List.range 129).flatMap (fun _ => [Value.int .i64 0, .bool false])) ++ (Value.int .i64 0 :: List.replicate 129 (.int .i64 0))) := by
  have hf : ∀ m, ((List.range m).flatMap (fun _ => [Value.int .i64 0, .bool false])).length = m * 2 := by
    intro m
    induction m with
    | zero => rfl
    | succ m ih => simp [List.range_succ, ih]; omega
  have hg : ∀ m c, c < m → ((List.range m).flatMap (fun _ => [Value.int .i64 0, .bool false]))[c * 2]? = some (.int .i64 0) ∧ ((List.range m).flatMap (fun _ => [Value.int .i64 0, .bool false]))[c * 2 + 1]? = some (.bool false) := by
    intro m
    induction m with
    | zero => intro c hc; omega
    | succ m ih =>
      intro c hc
      rw [List.range_succ, List.flatMap_append]
      by_cases e : c = m
      · subst e
        rw [List.getElem?_append_right (by rw [hf]; omega), List.getElem?_append_right (by rw [hf]; omega), hf]
        simp
      · rw [List.getElem?_append_left (by rw [hf]; omega), List.getElem?_append_left (by rw [hf]; omega)]
        exact ih c (by omega)
  have ho : ∀ v ∈ (List.range 129).flatMap (fun _ => [Value.int .i64 0, .bool false]), v.oneCell' = true := by
    intro v hv
    obtain ⟨_, _, hv⟩ := List.mem_flatMap.1 hv
    rcases List.mem_cons.1 hv with rfl | hv
    · rfl
    · obtain rfl := List.mem_singleton.1 hv
      rfl
  have hl := hf 129
  have hg := hg 129
  generalize (List.range 129).flatMap (fun _ => [Value.int .i64 0, .bool false]) = F at *
  refine ⟨by simp [hl], ?_, rfl, rfl, ?_, fun j k hk => by simp [names] at hk, fun c hc => ?_, fun c hc => ?_⟩
  · intro v hv
    rcases List.mem_append.1 hv with hv | hv
    · rcases List.mem_cons.1 hv with rfl | hv
      · rfl
      · rcases List.mem_cons.1 hv with rfl | hv
        · rfl
        · exact ho v hv
    · rcases List.mem_cons.1 hv with rfl | hv
      · rfl
      · obtain ⟨_, rfl⟩ := List.mem_replicate.1 hv
        rfl
  · rw [show (260 : Nat) = 258 + 1 + 1 by rfl]
    simp [hl]
  · have := (hg c hc).1
    rw [show 2 + c * 2 = c * 2 + 1 + 1 by omega]
    simp only [List.cons_append, List.getElem?_cons_succ]
    rw [List.getElem?_append_left (by omega), this]
    rfl
  · have := (hg c hc).2
    rw [show 2 + c * 2 + 1 = c * 2 + 1 + 1 + 1 by omega]
    simp only [List.cons_append, List.getElem?_cons_succ]
    rw [List.getElem?_append_left (by omega), this]
    rfl
end
end Go.Proofs.Ytknalphhnicffaa
