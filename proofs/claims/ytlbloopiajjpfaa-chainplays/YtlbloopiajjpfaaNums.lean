/- Lines over places as plain lists: what the cells of chains have to do with them, and what Push and Cut make of both. Conditions: those of each theorem. -/
import Derived.Test.YtlbloopiajjpfaaMem
namespace Go.Proofs.Ytlbloopiajjpfaa
open Go.RowKit

/-- The last spot of a line whose head is h. -/
def endOf : Nat → List Nat → Nat
  | h, [] => h
  | _, x :: xs => endOf x xs
theorem endOf_app (h : Nat) (ys zs : List Nat) : endOf h (ys ++ zs) = endOf (endOf h ys) zs := by
  induction ys generalizing h with
  | nil => rfl
  | cons y ys ih => exact ih y
theorem endOf_mem (h : Nat) (ys : List Nat) : endOf h ys ∈ h :: ys := by
  induction ys generalizing h with
  | nil => simp [endOf]
  | cons y ys ih => exact List.mem_cons_of_mem _ (ih y)

/-- Each spot of a line has the one behind it. -/
def Links (ss : List Value) : Nat → List Nat → Prop
  | _, [] => True
  | h, x :: xs => ss[h * 3]? = some (Value.int .i64 (x : Nat)) ∧ Links ss x xs
theorem links_app {ss : List Value} (h : Nat) (ys zs : List Nat) : Links ss h (ys ++ zs) ↔ Links ss h ys ∧ Links ss (endOf h ys) zs := by
  induction ys generalizing h with
  | nil => simp [Links, endOf]
  | cons y ys ih => simp [Links, endOf, ih, and_assoc]
theorem links_keep {ss ss' : List Value} {h : Nat} {xs : List Nat} (hl : Links ss h xs) (hd : (h :: xs).Nodup) (hk : ∀ j, j ∈ h :: xs → j ≠ endOf h xs → ss'[j * 3]? = ss[j * 3]?) : Links ss' h xs := by
  induction xs generalizing h with
  | nil => trivial
  | cons x xs ih =>
    obtain ⟨h1, h2⟩ := hl
    rw [List.nodup_cons] at hd
    have he : endOf h (x :: xs) = endOf x xs := rfl
    exact ⟨(hk h (by simp) (fun e => hd.1 (by rw [e, he]; exact endOf_mem x xs))).trans h1, ih h2 hd.2 (fun j hj hn => hk j (List.mem_cons_of_mem _ hj) (by rw [he]; exact hn))⟩

/-- What the cells tell: n lines L over m places. -/
structure Lined (n m : Nat) (L : List (List Nat)) (qs ss : List Value) : Prop where
  low : 1 ≤ n
  high : n ≤ 129
  lowm : 1 ≤ m
  highm : m ≤ 4096
  len : L.length = n
  lq : qs.length = n * 2
  ls : ss.length = (m + n) * 3
  q : ∀ (l : Nat) (xs : List Nat), L[l]? = some xs → qs[l * 2]? = some (Value.int .i64 (endOf (m + l) xs : Nat)) ∧ qs[l * 2 + 1]? = some (Value.int .i64 (xs.length : Nat))
  link : ∀ (l : Nat) (xs : List Nat), L[l]? = some xs → Links ss (m + l) xs ∧ xs.Nodup
  num : ∀ j : Nat, j < m + n → ∃ z : Int, ss[j * 3]? = some (Value.int .i64 z)
  inn : ∀ (l : Nat) (xs : List Nat) (p : Nat), L[l]? = some xs → p ∈ xs → p < m ∧ ss[p * 3 + 1]? = some (Value.int .i64 (l : Nat)) ∧ ss[p * 3 + 2]? = some (Value.bool true)
  out : ∀ p : Nat, p < m → (∀ (l : Nat) (xs : List Nat), L[l]? = some xs → p ∉ xs) → ss[p * 3 + 1]? = some (Value.int .i64 0) ∧ ss[p * 3 + 2]? = some (Value.bool false)

section
variable {n m : Nat} {L : List (List Nat)} {qs ss : List Value}
theorem Lined.lt (H : Lined n m L qs ss) {l : Nat} {xs : List Nat} (hl : L[l]? = some xs) : l < n := by
  have := (List.getElem?_eq_some_iff.1 hl).1
  have := H.len
  omega
theorem Lined.headed (H : Lined n m L qs ss) {l : Nat} {xs : List Nat} (hl : L[l]? = some xs) : ((m + l) :: xs).Nodup :=
  List.nodup_cons.2 ⟨fun hm => by have := (H.inn l xs _ hl hm).1; omega, (H.link l xs hl).2⟩
theorem Lined.spot (H : Lined n m L qs ss) {l : Nat} {xs : List Nat} (hl : L[l]? = some xs) {j : Nat} (hj : j ∈ (m + l) :: xs) : j < m + n := by
  have := H.lt hl
  rcases List.mem_cons.1 hj with rfl | hj
  · omega
  · have := (H.inn l xs j hl hj).1
    omega
theorem Lined.ends (H : Lined n m L qs ss) {l : Nat} {xs : List Nat} (hl : L[l]? = some xs) : endOf (m + l) xs < m + n := H.spot hl (endOf_mem _ _)
theorem Lined.one (H : Lined n m L qs ss) {l l' : Nat} {xs xs' : List Nat} {p : Nat} (hl : L[l]? = some xs) (hl' : L[l']? = some xs') (hp : p ∈ xs) (hp' : p ∈ xs') : l = l' := by
  have h1 := (H.inn l xs p hl hp).2.1
  have h2 := (H.inn l' xs' p hl' hp').2.1
  rw [h1] at h2
  injection h2 with h2
  injection h2 with _ h2
  omega
/-- Two lines' spots are unlike. -/
theorem Lined.apart (H : Lined n m L qs ss) {l l' : Nat} {xs xs' : List Nat} {j : Nat} (hl : L[l]? = some xs) (hl' : L[l']? = some xs') (hp : j ∈ (m + l) :: xs) (hp' : j ∈ (m + l') :: xs') : l = l' := by
  rcases List.mem_cons.1 hp with rfl | hp
  · rcases List.mem_cons.1 hp' with e | hp'
    · omega
    · have := (H.inn l' xs' _ hl' hp').1
      omega
  · rcases List.mem_cons.1 hp' with rfl | hp'
    · have := (H.inn l xs _ hl hp).1
      omega
    · exact H.one hl hl' hp hp'
theorem len_le : ∀ (m : Nat) (xs : List Nat), xs.Nodup → (∀ x ∈ xs, x < m) → xs.length ≤ m := by
  intro m
  induction m with
  | zero =>
    intro xs _ h
    rcases xs with _ | ⟨x, xs⟩
    · simp
    · exact absurd (h x (by simp)) (by omega)
  | succ m ih =>
    intro xs hd h
    by_cases hm : m ∈ xs
    · have := ih (xs.erase m) (hd.erase m) (fun x hx => by
        have := (List.Nodup.mem_erase_iff hd).1 hx
        have := h x this.2
        omega)
      rw [List.length_erase_of_mem hm] at this
      omega
    · have := ih xs hd (fun x hx => by
        have := h x hx
        have : x ≠ m := fun e => hm (e ▸ hx)
        omega)
      omega
theorem Lined.short (H : Lined n m L qs ss) {l : Nat} {xs : List Nat} (hl : L[l]? = some xs) : xs.length ≤ m :=
  len_le m xs (H.link l xs hl).2 (fun x hx => (H.inn l xs x hl hx).1)

theorem Lined.push (H : Lined n m L qs ss) {l p : Nat} {xs : List Nat} (hl : L[l]? = some xs) (hp : p < m) (hf : ∀ (l : Nat) (xs : List Nat), L[l]? = some xs → p ∉ xs) :
    Lined n m (L.set l (xs ++ [p])) ((qs.set (l * 2) (.int .i64 (p : Nat))).set (l * 2 + 1) (.int .i64 ((xs.length : Int) + 1)))
      ((((ss.set (p * 3) (.int .i64 0)).set (p * 3 + 1) (.int .i64 (l : Nat))).set (p * 3 + 2) (.bool true)).set (endOf (m + l) xs * 3) (.int .i64 (p : Nat))) := by
  have hln := H.lt hl
  have hlL : l < L.length := (List.getElem?_eq_some_iff.1 hl).1
  have he := H.ends hl
  have hem := endOf_mem (m + l) xs
  have hpe : p ≠ endOf (m + l) xs := by
    intro e
    rw [← e] at hem
    rcases List.mem_cons.1 hem with e | e
    · omega
    · exact hf l xs hl e
  have hss := H.ls
  generalize ha : endOf (m + l) xs = a at *
  have g0 : ∀ j, j ≠ p → j ≠ a → ((((ss.set (p * 3) (.int .i64 0)).set (p * 3 + 1) (.int .i64 (l : Nat))).set (p * 3 + 2) (.bool true)).set (a * 3) (.int .i64 (p : Nat)))[j * 3]? = ss[j * 3]? := fun j h1 h2 => by
    rw [List.getElem?_set_ne (by omega), List.getElem?_set_ne (by omega), List.getElem?_set_ne (by omega), List.getElem?_set_ne (by omega)]
  have g1 : ∀ j, j ≠ p → ((((ss.set (p * 3) (.int .i64 0)).set (p * 3 + 1) (.int .i64 (l : Nat))).set (p * 3 + 2) (.bool true)).set (a * 3) (.int .i64 (p : Nat)))[j * 3 + 1]? = ss[j * 3 + 1]? := fun j h1 => by
    rw [List.getElem?_set_ne (by omega), List.getElem?_set_ne (by omega), List.getElem?_set_ne (by omega), List.getElem?_set_ne (by omega)]
  have g2 : ∀ j, j ≠ p → ((((ss.set (p * 3) (.int .i64 0)).set (p * 3 + 1) (.int .i64 (l : Nat))).set (p * 3 + 2) (.bool true)).set (a * 3) (.int .i64 (p : Nat)))[j * 3 + 2]? = ss[j * 3 + 2]? := fun j h1 => by
    rw [List.getElem?_set_ne (by omega), List.getElem?_set_ne (by omega), List.getElem?_set_ne (by omega), List.getElem?_set_ne (by omega)]
  have p1 : ((((ss.set (p * 3) (.int .i64 0)).set (p * 3 + 1) (.int .i64 (l : Nat))).set (p * 3 + 2) (.bool true)).set (a * 3) (.int .i64 (p : Nat)))[p * 3 + 1]? = some (.int .i64 (l : Nat)) := by
    rw [List.getElem?_set_ne (by omega), List.getElem?_set_ne (by omega), List.getElem?_set_self (by simp; omega)]
  have p2 : ((((ss.set (p * 3) (.int .i64 0)).set (p * 3 + 1) (.int .i64 (l : Nat))).set (p * 3 + 2) (.bool true)).set (a * 3) (.int .i64 (p : Nat)))[p * 3 + 2]? = some (.bool true) := by
    rw [List.getElem?_set_ne (by omega), List.getElem?_set_self (by simp; omega)]
  have p0 : ((((ss.set (p * 3) (.int .i64 0)).set (p * 3 + 1) (.int .i64 (l : Nat))).set (p * 3 + 2) (.bool true)).set (a * 3) (.int .i64 (p : Nat)))[p * 3]? = some (.int .i64 0) := by
    rw [List.getElem?_set_ne (by omega), List.getElem?_set_ne (by omega), List.getElem?_set_ne (by omega), List.getElem?_set_self (by omega)]
  have a0 : ((((ss.set (p * 3) (.int .i64 0)).set (p * 3 + 1) (.int .i64 (l : Nat))).set (p * 3 + 2) (.bool true)).set (a * 3) (.int .i64 (p : Nat)))[a * 3]? = some (.int .i64 (p : Nat)) := by
    rw [List.getElem?_set_self (by simp; omega)]
  have hsl : ((((ss.set (p * 3) (.int .i64 0)).set (p * 3 + 1) (.int .i64 (l : Nat))).set (p * 3 + 2) (.bool true)).set (a * 3) (.int .i64 (p : Nat))).length = (m + n) * 3 := by simpa using hss
  generalize ((((ss.set (p * 3) (.int .i64 0)).set (p * 3 + 1) (.int .i64 (l : Nat))).set (p * 3 + 2) (.bool true)).set (a * 3) (.int .i64 (p : Nat))) = ss' at *
  refine ⟨H.low, H.high, H.lowm, H.highm, by simpa using H.len, by simpa using H.lq, hsl, ?_, ?_, ?_, ?_, ?_⟩
  · intro l' xs' hl'
    by_cases e : l = l'
    · subst e
      rw [List.getElem?_set_self hlL] at hl'
      injection hl' with hl'
      subst hl'
      rw [List.getElem?_set_ne (by omega), List.getElem?_set_self (by have := H.lq; omega), List.getElem?_set_self (by have := H.lq; simp; omega), endOf_app]
      simp [endOf]
    · rw [List.getElem?_set_ne e] at hl'
      rw [List.getElem?_set_ne (by omega), List.getElem?_set_ne (by omega), List.getElem?_set_ne (by omega), List.getElem?_set_ne (by omega)]
      exact H.q l' xs' hl'
  · intro l' xs' hl'
    by_cases e : l = l'
    · subst e
      rw [List.getElem?_set_self hlL] at hl'
      injection hl' with hl'
      subst hl'
      refine ⟨(links_app _ _ _).2 ⟨links_keep (H.link l xs hl).1 (H.headed hl) (fun j hj hn => g0 j (fun e => ?_) (by rw [← ha]; exact hn)), by rw [ha]; exact ⟨a0, trivial⟩⟩, ?_⟩
      · subst e
        rcases List.mem_cons.1 hj with e | hj
        · omega
        · exact hf l xs hl hj
      · refine List.nodup_append.2 ⟨(H.link l xs hl).2, by simp, fun x hx y hy e => ?_⟩
        simp at hy
        subst hy e
        exact hf l xs hl hx
    · rw [List.getElem?_set_ne e] at hl'
      refine ⟨links_keep (H.link l' xs' hl').1 (H.headed hl') (fun j hj _ => g0 j (fun e => ?_) (fun e' => ?_)), (H.link l' xs' hl').2⟩
      · subst e
        rcases List.mem_cons.1 hj with e | hj
        · omega
        · exact hf l' xs' hl' hj
      · subst e'
        exact e (H.apart hl hl' hem hj)
  · intro j hj
    by_cases e1 : j = p
    · subst e1; exact ⟨_, p0⟩
    · by_cases e2 : j = a
      · subst e2; exact ⟨_, a0⟩
      · rw [g0 j e1 e2]; exact H.num j hj
  · intro l' xs' p' hl' hp'
    have hold : ∀ xs'', L[l']? = some xs'' → p' ∈ xs'' → p' < m ∧ ss'[p' * 3 + 1]? = some (Value.int .i64 (l' : Nat)) ∧ ss'[p' * 3 + 2]? = some (Value.bool true) := fun xs'' h1 h2 => by
      have hne : p' ≠ p := fun e => hf l' xs'' h1 (e ▸ h2)
      rw [g1 p' hne, g2 p' hne]
      exact H.inn l' xs'' p' h1 h2
    by_cases e : l = l'
    · subst e
      rw [List.getElem?_set_self hlL] at hl'
      injection hl' with hl'
      subst hl'
      rcases List.mem_append.1 hp' with h | h
      · exact hold xs hl h
      · simp at h
        subst h
        exact ⟨hp, p1, p2⟩
    · rw [List.getElem?_set_ne e] at hl'
      exact hold xs' hl' hp'
  · intro p' hp' hno
    have hne : p' ≠ p := by
      rintro rfl
      exact hno l (xs ++ [p']) (List.getElem?_set_self hlL) (by simp)
    rw [g1 p' hne, g2 p' hne]
    refine H.out p' hp' (fun l' xs' hl' hm => ?_)
    by_cases e : l = l'
    · subst e
      rw [hl] at hl'
      injection hl' with hl'
      subst hl'
      exact hno l (xs ++ [p]) (List.getElem?_set_self hlL) (by simp [hm])
    · exact hno l' xs' (by rw [List.getElem?_set_ne e]; exact hl') hm

theorem Lined.cut_ (H : Lined n m L qs ss) {l p a : Nat} {ys zs : List Nat} {z : Int} (hl : L[l]? = some (ys ++ p :: zs)) (ha : endOf (m + l) ys = a) (hz : ss[p * 3]? = some (.int .i64 z)) :
    Lined n m (L.set l (ys ++ zs)) ((if endOf (m + l) (ys ++ p :: zs) = p then qs.set (l * 2) (.int .i64 (a : Nat)) else qs).set (l * 2 + 1) (.int .i64 (((ys ++ p :: zs).length : Int) - 1)))
      ((((ss.set (a * 3) (.int .i64 z)).set (p * 3) (.int .i64 0)).set (p * 3 + 1) (.int .i64 0)).set (p * 3 + 2) (.bool false)) := by
  have hln := H.lt hl
  have hlL : l < L.length := (List.getElem?_eq_some_iff.1 hl).1
  have hpm := (H.inn l _ p hl (by simp)).1
  have hnd := H.headed hl
  have hnd1 : ((m + l) :: ys).Nodup ∧ (p :: zs).Nodup ∧ ∀ x ∈ (m + l) :: ys, ∀ y ∈ p :: zs, x ≠ y := List.nodup_append.1 (show (((m + l) :: ys) ++ p :: zs).Nodup from hnd)
  have hem : a ∈ (m + l) :: ys := by rw [← ha]; exact endOf_mem _ _
  have hpa : a ≠ p := hnd1.2.2 a hem p (by simp)
  have han : a < m + n := H.spot hl (show a ∈ ((m + l) :: ys) ++ p :: zs from List.mem_append_left _ hem)
  have hss := H.ls
  have hlk := (H.link l _ hl).1
  rw [links_app] at hlk
  obtain ⟨k1, k2, k3⟩ := hlk
  have g0 : ∀ j, j ≠ p → j ≠ a → ((((ss.set (a * 3) (.int .i64 z)).set (p * 3) (.int .i64 0)).set (p * 3 + 1) (.int .i64 0)).set (p * 3 + 2) (.bool false))[j * 3]? = ss[j * 3]? := fun j h1 h2 => by
    rw [List.getElem?_set_ne (by omega), List.getElem?_set_ne (by omega), List.getElem?_set_ne (by omega), List.getElem?_set_ne (by omega)]
  have g1 : ∀ j, j ≠ p → ((((ss.set (a * 3) (.int .i64 z)).set (p * 3) (.int .i64 0)).set (p * 3 + 1) (.int .i64 0)).set (p * 3 + 2) (.bool false))[j * 3 + 1]? = ss[j * 3 + 1]? := fun j h1 => by
    rw [List.getElem?_set_ne (by omega), List.getElem?_set_ne (by omega), List.getElem?_set_ne (by omega), List.getElem?_set_ne (by omega)]
  have g2 : ∀ j, j ≠ p → ((((ss.set (a * 3) (.int .i64 z)).set (p * 3) (.int .i64 0)).set (p * 3 + 1) (.int .i64 0)).set (p * 3 + 2) (.bool false))[j * 3 + 2]? = ss[j * 3 + 2]? := fun j h1 => by
    rw [List.getElem?_set_ne (by omega), List.getElem?_set_ne (by omega), List.getElem?_set_ne (by omega), List.getElem?_set_ne (by omega)]
  have p1 : ((((ss.set (a * 3) (.int .i64 z)).set (p * 3) (.int .i64 0)).set (p * 3 + 1) (.int .i64 0)).set (p * 3 + 2) (.bool false))[p * 3 + 1]? = some (.int .i64 0) := by
    rw [List.getElem?_set_ne (by omega), List.getElem?_set_self (by simp; omega)]
  have p2 : ((((ss.set (a * 3) (.int .i64 z)).set (p * 3) (.int .i64 0)).set (p * 3 + 1) (.int .i64 0)).set (p * 3 + 2) (.bool false))[p * 3 + 2]? = some (.bool false) := by
    rw [List.getElem?_set_self (by simp; omega)]
  have p0 : ((((ss.set (a * 3) (.int .i64 z)).set (p * 3) (.int .i64 0)).set (p * 3 + 1) (.int .i64 0)).set (p * 3 + 2) (.bool false))[p * 3]? = some (.int .i64 0) := by
    rw [List.getElem?_set_ne (by omega), List.getElem?_set_ne (by omega), List.getElem?_set_self (by simp; omega)]
  have a0 : ((((ss.set (a * 3) (.int .i64 z)).set (p * 3) (.int .i64 0)).set (p * 3 + 1) (.int .i64 0)).set (p * 3 + 2) (.bool false))[a * 3]? = some (.int .i64 z) := by
    rw [List.getElem?_set_ne (by omega), List.getElem?_set_ne (by omega), List.getElem?_set_ne (by omega), List.getElem?_set_self (by omega)]
  have hsl : ((((ss.set (a * 3) (.int .i64 z)).set (p * 3) (.int .i64 0)).set (p * 3 + 1) (.int .i64 0)).set (p * 3 + 2) (.bool false)).length = (m + n) * 3 := by simpa using hss
  generalize ((((ss.set (a * 3) (.int .i64 z)).set (p * 3) (.int .i64 0)).set (p * 3 + 1) (.int .i64 0)).set (p * 3 + 2) (.bool false)) = ss' at *
  have hend : endOf (m + l) (ys ++ p :: zs) = endOf p zs := by rw [endOf_app]; rfl
  refine ⟨H.low, H.high, H.lowm, H.highm, by simpa using H.len, by have := H.lq; split <;> simpa using this, hsl, ?_, ?_, ?_, ?_, ?_⟩
  · intro l' xs' hl'
    by_cases e : l = l'
    · subst e
      rw [List.getElem?_set_self hlL] at hl'
      injection hl' with hl'
      subst hl'
      refine ⟨?_, ?_⟩
      · rw [List.getElem?_set_ne (by omega), hend, endOf_app, ha]
        rcases zs with _ | ⟨y, zs⟩
        · rw [if_pos (show endOf p [] = p from rfl), List.getElem?_set_self (by have := H.lq; omega)]
          rfl
        · have hn : endOf p (y :: zs) ≠ p := fun e => by
            have h1 := (List.nodup_cons.1 hnd1.2.1).1
            have h2 := endOf_mem y zs
            exact h1 (by rw [← e]; exact h2)
          rw [if_neg hn]
          have := (H.q l _ hl).1
          rw [hend] at this
          exact this
      · rw [List.getElem?_set_self (by have := H.lq; split <;> simp <;> omega)]
        have : (((ys ++ p :: zs).length : Int) - 1) = ((ys ++ zs).length : Nat) := by simp; omega
        rw [this]
    · rw [List.getElem?_set_ne e] at hl'
      rw [List.getElem?_set_ne (by omega), List.getElem?_set_ne (by omega)]
      have := H.q l' xs' hl'
      split
      · rw [List.getElem?_set_ne (by omega), List.getElem?_set_ne (by omega)]
        exact this
      · exact this
  · intro l' xs' hl'
    by_cases e : l = l'
    · subst e
      rw [List.getElem?_set_self hlL] at hl'
      injection hl' with hl'
      subst hl'
      have hkeep : ∀ j, j ∈ zs → ss'[j * 3]? = ss[j * 3]? := fun j hj => g0 j (fun e => by
        subst e
        exact (List.nodup_cons.1 hnd1.2.1).1 hj) (fun e => hnd1.2.2 a hem j (List.mem_cons_of_mem _ hj) e.symm)
      refine ⟨(links_app _ _ _).2 ⟨links_keep k1 hnd1.1 (fun j hj hn => g0 j (hnd1.2.2 j hj p (by simp)) (by rw [← ha]; exact hn)), ?_⟩, ?_⟩
      · rw [ha]
        rcases zs with _ | ⟨y, zs⟩
        · trivial
        · obtain ⟨c1, c2⟩ := k3
          rw [hz] at c1
          injection c1 with c1
          refine ⟨by rw [a0, c1], links_keep c2 (List.nodup_cons.1 hnd1.2.1).2 (fun j hj _ => hkeep j hj)⟩
      · have h := List.nodup_append.1 (H.link l _ hl).2
        exact List.nodup_append.2 ⟨h.1, (List.nodup_cons.1 h.2.1).2, fun x hx y hy => h.2.2 x hx y (List.mem_cons_of_mem _ hy)⟩
    · rw [List.getElem?_set_ne e] at hl'
      refine ⟨links_keep (H.link l' xs' hl').1 (H.headed hl') (fun j hj _ => g0 j (fun e' => ?_) (fun e' => ?_)), (H.link l' xs' hl').2⟩
      · subst e'
        exact e (H.apart hl hl' (show j ∈ ((m + l) :: ys) ++ j :: zs by simp) hj)
      · subst e'
        exact e (H.apart hl hl' (show j ∈ ((m + l) :: ys) ++ p :: zs from List.mem_append_left _ hem) hj)
  · intro j hj
    by_cases e1 : j = p
    · subst e1; exact ⟨_, p0⟩
    · by_cases e2 : j = a
      · subst e2; exact ⟨_, a0⟩
      · rw [g0 j e1 e2]; exact H.num j hj
  · intro l' xs' p' hl' hp'
    have hold : ∀ xs'', L[l']? = some xs'' → p' ∈ xs'' → p' ≠ p → p' < m ∧ ss'[p' * 3 + 1]? = some (Value.int .i64 (l' : Nat)) ∧ ss'[p' * 3 + 2]? = some (Value.bool true) := fun xs'' h1 h2 hne => by
      rw [g1 p' hne, g2 p' hne]
      exact H.inn l' xs'' p' h1 h2
    by_cases e : l = l'
    · subst e
      rw [List.getElem?_set_self hlL] at hl'
      injection hl' with hl'
      subst hl'
      refine hold _ hl ?_ (fun e => ?_)
      · rcases List.mem_append.1 hp' with h | h <;> simp [h]
      · subst e
        rcases List.mem_append.1 hp' with h | h
        · exact hnd1.2.2 p' (List.mem_cons_of_mem _ h) p' (by simp) rfl
        · exact (List.nodup_cons.1 hnd1.2.1).1 h
    · rw [List.getElem?_set_ne e] at hl'
      refine hold xs' hl' hp' (fun e' => ?_)
      subst e'
      exact e (H.one hl hl' (by simp) hp')
  · intro p' hp' hno
    by_cases e : p' = p
    · subst e
      exact ⟨p1, p2⟩
    · rw [g1 p' e, g2 p' e]
      refine H.out p' hp' (fun l' xs' hl' hm => ?_)
      by_cases e' : l = l'
      · subst e'
        rw [hl] at hl'
        injection hl' with hl'
        subst hl'
        refine hno l (ys ++ zs) (List.getElem?_set_self hlL) ?_
        simpa [e] using hm
      · exact hno l' xs' (by rw [List.getElem?_set_ne e']; exact hl') hm
theorem parts_at {xs : List Nat} {k p : Nat} (h : xs[k]? = some p) : xs = xs.take k ++ p :: xs.drop (k + 1) := by
  obtain ⟨hk, e⟩ := List.getElem?_eq_some_iff.1 h
  rw [← e, ← List.drop_eq_getElem_cons hk, List.take_append_drop]
theorem Lined.cut (H : Lined n m L qs ss) {l p k : Nat} {xs : List Nat} {z : Int} (hl : L[l]? = some xs) (hk : xs[k]? = some p) (hz : ss[p * 3]? = some (.int .i64 z)) :
    Lined n m (L.set l (xs.eraseIdx k)) ((if endOf (m + l) xs = p then qs.set (l * 2) (.int .i64 (endOf (m + l) (xs.take k) : Nat)) else qs).set (l * 2 + 1) (.int .i64 ((xs.length : Int) - 1)))
      ((((ss.set (endOf (m + l) (xs.take k) * 3) (.int .i64 z)).set (p * 3) (.int .i64 0)).set (p * 3 + 1) (.int .i64 0)).set (p * 3 + 2) (.bool false)) := by
  have e := parts_at hk
  have h := H.cut_ (ys := xs.take k) (zs := xs.drop (k + 1)) (by rw [← e]; exact hl) rfl hz
  rw [← e, ← List.eraseIdx_eq_take_drop_succ] at h
  exact h
/-- The spot ahead of the k-th place has it. -/
theorem Lined.next (H : Lined n m L qs ss) {l p k : Nat} {xs : List Nat} (hl : L[l]? = some xs) (hk : xs[k]? = some p) :
    ss[endOf (m + l) (xs.take k) * 3]? = some (.int .i64 (p : Nat)) ∧ endOf (m + l) (xs.take k) < m + n ∧ endOf (m + l) (xs.take k) ≠ p ∧ p < m := by
  have e := parts_at hk
  have h := (H.link l xs hl).1
  have hd := H.headed hl
  rw [e] at h hd
  rw [links_app] at h
  have hd' := List.nodup_append.1 (show (((m + l) :: xs.take k) ++ p :: xs.drop (k + 1)).Nodup from hd)
  have hem := endOf_mem (m + l) (xs.take k)
  refine ⟨h.2.1, H.spot hl ?_, hd'.2.2 _ hem p (by simp), (H.inn l xs p hl (List.mem_of_getElem? hk)).1⟩
  rcases List.mem_cons.1 hem with h | h
  · rw [h]; simp
  · exact List.mem_cons_of_mem _ (List.mem_of_mem_take h)
end

/-- A line; none: there is no such one. -/
def rowOf (L : List (List Nat)) (x : Int) : Option (List Nat) := if 0 ≤ x then L[x.toNat]? else none
/-- How many places a line has. -/
def lenOf (L : List (List Nat)) (x : Int) : Nat := ((rowOf L x).getD []).length
/-- A line's k-th place. -/
def atOf (L : List (List Nat)) (x k : Int) : Option Nat := if 0 ≤ k then ((rowOf L x).getD [])[k.toNat]? else none
/-- Without a line's k-th place. -/
def cutOf (L : List (List Nat)) (x k : Int) : List (List Nat) := if (atOf L x k).isSome then L.set x.toNat (((rowOf L x).getD []).eraseIdx k.toNat) else L
/-- In which line a place is. -/
def lineOf (L : List (List Nat)) (y : Int) : Option Nat := if 0 ≤ y then L.findIdx? (fun xs => xs.contains y.toNat) else none
/-- May a place be pushed? -/
def canPush (m : Nat) (L : List (List Nat)) (x y : Int) : Bool := (rowOf L x).isSome && decide (0 ≤ y) && decide (y < m) && (lineOf L y).isNone
/-- With a place at a line's end, where that may be. -/
def pushOf (m : Nat) (L : List (List Nat)) (x y : Int) : List (List Nat) := if canPush m L x y then L.set x.toNat (((rowOf L x).getD []) ++ [y.toNat]) else L
/-- As a number; -1: none. -/
def toInt (o : Option Nat) : Int := match o with | some k => k | none => -1
def toNum (o : Option Nat) : Int := match o with | some k => k | none => 0
theorem rowOf_none {L : List (List Nat)} {x : Int} (h : rowOf L x = none) : x < 0 ∨ (L.length : Int) ≤ x := by
  unfold rowOf at h
  split at h
  · have := List.getElem?_eq_none_iff.1 h
    omega
  · omega
theorem rowOf_some {L : List (List Nat)} {x : Int} {xs : List Nat} (h : rowOf L x = some xs) : ∃ l : Nat, x = l ∧ L[l]? = some xs := by
  unfold rowOf at h
  split at h
  · exact ⟨x.toNat, by omega, h⟩
  · cases h
theorem rowOf_nat {L : List (List Nat)} {l : Nat} {xs : List Nat} (h : L[l]? = some xs) : rowOf L (l : Int) = some xs := by
  unfold rowOf
  rw [if_pos (by omega)]
  exact h
theorem rowOf_out {L : List (List Nat)} {x : Int} (h : x < 0 ∨ (L.length : Int) ≤ x) : rowOf L x = none := by
  unfold rowOf
  split
  · rw [List.getElem?_eq_none_iff]
    omega
  · rfl
theorem lineOf_some {L : List (List Nat)} {y : Int} {l : Nat} (h : lineOf L y = some l) : ∃ (p : Nat) (xs : List Nat), y = p ∧ L[l]? = some xs ∧ p ∈ xs := by
  unfold lineOf at h
  split at h
  · obtain ⟨hl, hc, _⟩ := List.findIdx?_eq_some_iff_getElem.1 h
    exact ⟨y.toNat, L[l], by omega, List.getElem?_eq_getElem hl, by simpa using hc⟩
  · cases h
theorem lineOf_none {L : List (List Nat)} {y : Int} (h : lineOf L y = none) : y < 0 ∨ ∃ p : Nat, y = p ∧ ∀ (l : Nat) (xs : List Nat), L[l]? = some xs → p ∉ xs := by
  unfold lineOf at h
  split at h
  · rw [List.findIdx?_eq_none_iff] at h
    refine .inr ⟨y.toNat, by omega, fun l xs hl hm => ?_⟩
    have := h xs (List.mem_of_getElem? hl)
    simp [hm] at this
  · exact .inl (by omega)
end Go.Proofs.Ytlbloopiajjpfaa
