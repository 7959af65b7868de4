/- Plain mathematics of turns: those that are awake as a list, whose turn it is as a relation that always has one answer, what Wake and Sleep make of the list; the bound of Deficit Round Robin. Conditions: those of each theorem. -/
namespace Go.Proofs.Ytknalphhnicffaa

/-- One that is awake. -/
structure Cls where
  n : Nat
  fresh : Bool
  d : Nat

/-- What it may be given. -/
def due (Q : Nat) (x : Cls) : Nat := if x.fresh then x.d + Q else x.d
/-- How long what heads it is. -/
def len (h : Int) : Nat := (min h 9216).toNat
theorem len_le (h : Int) : len h ≤ 9216 := by unfold len; omega
/-- Whose turn it is, and who is awake then. -/
inductive Picks (Q : Nat) (hd : Nat → Int) : List Cls → List Cls → Option Nat → Prop
  | none_ : Picks Q hd [] [] none
  | sleeps {x : Cls} {xs L' : List Cls} {o : Option Nat} (h : hd x.n < 1) (hp : Picks Q hd xs L' o) : Picks Q hd (x :: xs) L' o
  | takes {x : Cls} {xs : List Cls} (h : 1 ≤ hd x.n) (hm : len (hd x.n) ≤ due Q x) : Picks Q hd (x :: xs) (⟨x.n, false, due Q x - len (hd x.n)⟩ :: xs) (some x.n)
  | waits {x : Cls} {xs L' : List Cls} {o : Option Nat} (h : 1 ≤ hd x.n) (hm : due Q x < len (hd x.n)) (hp : Picks Q hd (xs ++ [⟨x.n, true, due Q x⟩]) L' o) : Picks Q hd (x :: xs) L' o
/-- How far it may still go. -/
def mu1 (x : Cls) : Nat := 2 * (9217 - x.d) + (if x.fresh then 0 else 1) + 1
def mu : List Cls → Nat
  | [] => 0
  | x :: xs => mu1 x + mu xs
theorem mu_app (a b : List Cls) : mu (a ++ b) = mu a + mu b := by
  induction a with
  | nil => simp [mu]
  | cons x xs ih => simp [mu, ih]; omega
theorem mu_sleeps (x : Cls) (xs : List Cls) : mu xs < mu (x :: xs) := by simp [mu, mu1]
theorem mu_waits {Q : Nat} {x : Cls} {xs : List Cls} {h : Int} (hQ : 1 ≤ Q) (hm : due Q x < len h) : mu (xs ++ [⟨x.n, true, due Q x⟩]) < mu (x :: xs) := by
  have := len_le h
  rw [mu_app]
  unfold due at hm ⊢
  rcases hf : x.fresh with _ | _
  · simp [mu, mu1, hf] at hm ⊢
    omega
  · simp [mu, mu1, hf] at hm ⊢
    omega
theorem picks_ex {Q : Nat} (hQ : 1 ≤ Q) (hd : Nat → Int) : ∀ (k : Nat) (L : List Cls), mu L ≤ k → ∃ L' o, Picks Q hd L L' o := by
  intro k
  induction k with
  | zero =>
    intro L h
    rcases L with _ | ⟨x, xs⟩
    · exact ⟨_, _, .none_⟩
    · have := mu_sleeps x xs
      omega
  | succ k ih =>
    intro L h
    rcases L with _ | ⟨x, xs⟩
    · exact ⟨_, _, .none_⟩
    · by_cases h1 : hd x.n < 1
      · obtain ⟨L', o, hp⟩ := ih xs (by have := mu_sleeps x xs; omega)
        exact ⟨L', o, .sleeps h1 hp⟩
      · by_cases h2 : len (hd x.n) ≤ due Q x
        · exact ⟨_, _, .takes (by omega) h2⟩
        · obtain ⟨L', o, hp⟩ := ih (xs ++ [⟨x.n, true, due Q x⟩]) (by have := mu_waits (x := x) (xs := xs) (h := hd x.n) hQ (by omega); omega)
          exact ⟨L', o, .waits (by omega) (by omega) hp⟩
theorem picks_any {Q : Nat} (hQ : 1 ≤ Q) (hd : Nat → Int) (L : List Cls) : ∃ L' o, Picks Q hd L L' o := picks_ex hQ hd _ L (Nat.le_refl _)
/-- The next of it, seen from the list. -/
theorem Picks.inv {Q : Nat} {hd : Nat → Int} {x : Cls} {xs L' : List Cls} {o : Option Nat} (h : Picks Q hd (x :: xs) L' o) :
    (hd x.n < 1 ∧ Picks Q hd xs L' o) ∨ (1 ≤ hd x.n ∧ len (hd x.n) ≤ due Q x ∧ L' = ⟨x.n, false, due Q x - len (hd x.n)⟩ :: xs ∧ o = some x.n) ∨
    (1 ≤ hd x.n ∧ due Q x < len (hd x.n) ∧ Picks Q hd (xs ++ [⟨x.n, true, due Q x⟩]) L' o) := by
  cases h with
  | sleeps h hp => exact .inl ⟨h, hp⟩
  | takes h hm => exact .inr (.inl ⟨h, hm, rfl, rfl⟩)
  | waits h hm hp => exact .inr (.inr ⟨h, hm, hp⟩)
theorem Picks.nil {Q : Nat} {hd : Nat → Int} {L' : List Cls} {o : Option Nat} (h : Picks Q hd [] L' o) : L' = [] ∧ o = none := by cases h; exact ⟨rfl, rfl⟩
theorem Picks.det {Q : Nat} {hd : Nat → Int} {L L1 : List Cls} {o1 : Option Nat} (h : Picks Q hd L L1 o1) : ∀ {L2 : List Cls} {o2 : Option Nat}, Picks Q hd L L2 o2 → L1 = L2 ∧ o1 = o2 := by
  induction h with
  | none_ => intro L2 o2 h2; obtain ⟨rfl, rfl⟩ := h2.nil; exact ⟨rfl, rfl⟩
  | sleeps h hp ih =>
    intro L2 o2 h2
    rcases h2.inv with ⟨_, h2⟩ | ⟨h3, _⟩ | ⟨h3, _⟩
    · exact ih h2
    · omega
    · omega
  | takes h hm =>
    intro L2 o2 h2
    rcases h2.inv with ⟨h3, _⟩ | ⟨_, _, rfl, rfl⟩ | ⟨_, h3, _⟩
    · omega
    · exact ⟨rfl, rfl⟩
    · omega
  | waits h hm hp ih =>
    intro L2 o2 h2
    rcases h2.inv with ⟨h3, _⟩ | ⟨_, h3, _⟩ | ⟨_, _, h2⟩
    · omega
    · omega
    · exact ih h2
/-- What heads a class is asked of those that are awake alone. -/
theorem Picks.alike {Q : Nat} {hd hd' : Nat → Int} {L L' : List Cls} {o : Option Nat} (h : Picks Q hd L L' o) : (∀ x ∈ L, hd x.n = hd' x.n) → Picks Q hd' L L' o := by
  induction h with
  | none_ => intro _; exact .none_
  | @sleeps x xs L' o h hp ih =>
    intro ha
    exact .sleeps (by rw [← ha x (by simp)]; exact h) (ih (fun y hy => ha y (by simp [hy])))
  | @takes x xs h hm =>
    intro ha
    have e := ha x (by simp)
    rw [e] at h hm
    have := Picks.takes (xs := xs) h hm
    rw [← e] at this
    exact this
  | @waits x xs L' o h hm hp ih =>
    intro ha
    have e := ha x (by simp)
    rw [e] at h hm
    refine .waits h hm (ih (fun y hy => ?_))
    rcases List.mem_append.1 hy with hy | hy
    · exact ha y (by simp [hy])
    · obtain rfl := List.mem_singleton.1 hy
      exact e

/-- Who is awake. -/
def names (L : List Cls) : List Nat := L.map (·.n)
/-- What may be: no class twice, none that there isn't; no deficit too great. -/
structure Ok (n Q : Nat) (L : List Cls) : Prop where
  nodup : (names L).Nodup
  lt : ∀ x ∈ L, x.n < n
  low : ∀ x ∈ L, x.fresh = true → x.d ≤ 9216
  high : ∀ x ∈ L, x.d ≤ Q + 9216
def isIn (L : List Cls) (c : Int) : Bool := L.any fun x => decide ((x.n : Int) = c)
def canWake (n : Nat) (L : List Cls) (c : Int) : Bool := decide (0 ≤ c) && decide (c < (n : Int)) && !isIn L c
def wakeOf (n : Nat) (L : List Cls) (c : Int) : List Cls := if canWake n L c then L ++ [⟨c.toNat, true, 0⟩] else L
def sleepOf (L : List Cls) (c : Int) : List Cls := L.filter fun x => !decide ((x.n : Int) = c)
def defOf : List Cls → Int → Nat
  | [], _ => 0
  | x :: xs, c => if (x.n : Int) = c then x.d else defOf xs c
/-- Where a class stands; -1: it sleeps. -/
def placeOf : List Cls → Int → Int
  | [], _ => -1
  | x :: xs, c => if (x.n : Int) = c then 0 else (if placeOf xs c < 0 then -1 else placeOf xs c + 1)
section
variable {n Q : Nat} {L : List Cls}
theorem names_length (L : List Cls) : (names L).length = L.length := by simp [names]
theorem names_app (a b : List Cls) : names (a ++ b) = names a ++ names b := by simp [names]
theorem isIn_iff {c : Int} : isIn L c = true ↔ ∃ x ∈ L, (x.n : Int) = c := by simp [isIn]
theorem isIn_not {c : Int} : isIn L c = false ↔ ∀ x ∈ L, (x.n : Int) ≠ c := by simp [isIn]
theorem isIn_names {k : Nat} : isIn L (k : Int) = true ↔ k ∈ names L := by
  rw [isIn_iff]
  simp only [names, List.mem_map]
  constructor
  · rintro ⟨x, h1, h2⟩; exact ⟨x, h1, by omega⟩
  · rintro ⟨x, h1, h2⟩; exact ⟨x, h1, by omega⟩
theorem Ok.nil : Ok n Q [] := ⟨by simp [names], by simp, by simp, by simp⟩
theorem Ok.wake (h : Ok n Q L) (c : Int) : Ok n Q (wakeOf n L c) := by
  unfold wakeOf
  split
  · rename_i hc
    simp [canWake] at hc
    obtain ⟨⟨h0, h1⟩, h2⟩ := hc
    obtain ⟨k, rfl⟩ : ∃ k : Nat, c = k := ⟨c.toNat, by omega⟩
    have hk : k ∉ names L := fun hk => by rw [isIn_names.2 hk] at h2; cases h2
    simp only [Int.toNat_natCast]
    refine ⟨?_, ?_, ?_, ?_⟩
    · rw [names_app, List.nodup_append]
      refine ⟨h.nodup, by simp [names], ?_⟩
      intro a ha b hb
      simp [names] at hb
      subst hb
      exact fun e => hk (e ▸ ha)
    · intro x hx
      rcases List.mem_append.1 hx with hx | hx
      · exact h.lt x hx
      · obtain rfl := List.mem_singleton.1 hx
        show k < n
        omega
    · intro x hx hf
      rcases List.mem_append.1 hx with hx | hx
      · exact h.low x hx hf
      · obtain rfl := List.mem_singleton.1 hx
        exact Nat.zero_le _
    · intro x hx
      rcases List.mem_append.1 hx with hx | hx
      · exact h.high x hx
      · obtain rfl := List.mem_singleton.1 hx
        exact Nat.zero_le _
  · exact h
theorem Ok.sleep (h : Ok n Q L) (c : Int) : Ok n Q (sleepOf L c) := by
  have hm : ∀ x, x ∈ sleepOf L c → x ∈ L := fun x hx => (List.mem_filter.1 hx).1
  refine ⟨?_, fun x hx => h.lt x (hm x hx), fun x hx => h.low x (hm x hx), fun x hx => h.high x (hm x hx)⟩
  exact List.Nodup.sublist (List.Sublist.map _ List.filter_sublist) h.nodup
theorem Ok.tail {x : Cls} {xs : List Cls} (h : Ok n Q (x :: xs)) : Ok n Q xs := by
  refine ⟨?_, fun y hy => h.lt y (by simp [hy]), fun y hy => h.low y (by simp [hy]), fun y hy => h.high y (by simp [hy])⟩
  have := h.nodup
  simp [names] at this ⊢
  exact this.2
theorem Ok.due_le {x : Cls} {xs : List Cls} (h : Ok n Q (x :: xs)) : due Q x ≤ Q + 9216 := by
  have h1 := h.low x (by simp)
  have h2 := h.high x (by simp)
  unfold due
  split
  · rename_i hf
    have := h1 hf
    omega
  · exact h2
theorem Ok.waits {x : Cls} {xs : List Cls} {l : Int} (h : Ok n Q (x :: xs)) (hm : due Q x < len l) : Ok n Q (xs ++ [⟨x.n, true, due Q x⟩]) := by
  have hl := len_le l
  have hn := h.nodup
  simp [names] at hn
  refine ⟨?_, fun y hy => ?_, fun y hy hf => ?_, fun y hy => ?_⟩
  · rw [names_app, List.nodup_append]
    refine ⟨h.tail.nodup, by simp [names], ?_⟩
    intro a ha b hb
    simp [names] at ha hb
    subst hb
    intro e
    subst e
    obtain ⟨z, hz, he⟩ := ha
    exact hn.1 z hz he
  · rcases List.mem_append.1 hy with hy | hy
    · exact h.lt y (by simp [hy])
    · obtain rfl := List.mem_singleton.1 hy
      exact h.lt x (by simp)
  · rcases List.mem_append.1 hy with hy | hy
    · exact h.low y (by simp [hy]) hf
    · obtain rfl := List.mem_singleton.1 hy
      show due Q x ≤ 9216
      omega
  · rcases List.mem_append.1 hy with hy | hy
    · exact h.high y (by simp [hy])
    · obtain rfl := List.mem_singleton.1 hy
      exact h.due_le
theorem Ok.takes {x : Cls} {xs : List Cls} (h : Ok n Q (x :: xs)) (m : Nat) : Ok n Q (⟨x.n, false, due Q x - m⟩ :: xs) := by
  have hd := h.due_le
  refine ⟨by simpa [names] using h.nodup, fun y hy => ?_, fun y hy hf => ?_, fun y hy => ?_⟩
  · rcases List.mem_cons.1 hy with rfl | hy
    · exact h.lt x (by simp)
    · exact h.lt y (by simp [hy])
  · rcases List.mem_cons.1 hy with rfl | hy
    · cases hf
    · exact h.low y (by simp [hy]) hf
  · rcases List.mem_cons.1 hy with rfl | hy
    · show due Q x - m ≤ Q + 9216
      omega
    · exact h.high y (by simp [hy])
theorem Picks.ok {hd : Nat → Int} {L' : List Cls} {o : Option Nat} (h : Picks Q hd L L' o) : Ok n Q L → Ok n Q L' := by
  induction h with
  | none_ => exact id
  | sleeps h hp ih => exact fun ho => ih ho.tail
  | takes h hm => exact fun ho => ho.takes _
  | waits h hm hp ih => exact fun ho => ih (ho.waits hm)
theorem Picks.lt {hd : Nat → Int} {L' : List Cls} {k : Nat} (h : Picks Q hd L L' (some k)) (ho : Ok n Q L) : k < n := by
  have : ∀ {L L' : List Cls} {o : Option Nat}, Picks Q hd L L' o → ∀ k, o = some k → Ok n Q L → k < n := by
    intro L L' o h
    induction h with
    | none_ => intro k e; cases e
    | sleeps h hp ih => exact fun k e ho => ih k e ho.tail
    | takes h hm => intro k e ho; injection e with e; subst e; exact ho.lt _ (by simp)
    | waits h hm hp ih => exact fun k e ho => ih k e (ho.waits hm)
  exact this h k rfl ho
end
end Go.Proofs.Ytknalphhnicffaa
