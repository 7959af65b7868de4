/- Plain mathematics of levels of bins: what Put, Take and Touch make of a bin, of a flow's bins, what marks a flow, and how a level lies in cells. Conditions: those of each theorem. -/
import Derived.Test.YtedpikpknlaggaaNums
import Derived.Test.YtedpikpknlaggaaMem
namespace Go.Proofs.Ytedpikpknlaggaa

/-- A bin: its bytes, its probability, when that was changed. -/
structure Bin where
  b : Nat
  p : Nat
  c : Nat
structure Bin.Ok (x : Bin) : Prop where
  b : x.b ≤ 4611686018427387904
  p : x.p ≤ 65536
  c : x.c ≤ 4611686018427387903
def bin0 : Bin := ⟨0, 0, 0⟩
def putB (n : Nat) (x : Bin) : Bin := ⟨min (x.b + n) 4611686018427387904, x.p, x.c⟩
def takeB (n : Nat) (x : Bin) : Bin := ⟨x.b - n, x.p, x.c⟩
def touchB (t h u d now : Nat) (x : Bin) : Bin :=
  if now < x.c + h then x else if t < x.b then ⟨x.b, min (x.p + u) 65536, now⟩ else if x.b = 0 then ⟨x.b, x.p - d, now⟩ else x
theorem bin0_ok : bin0.Ok := ⟨Nat.zero_le _, Nat.zero_le _, Nat.zero_le _⟩
theorem Bin.Ok.put {x : Bin} (h : x.Ok) (n : Nat) : (putB n x).Ok := ⟨Nat.min_le_right _ _, h.p, h.c⟩
theorem Bin.Ok.take {x : Bin} (h : x.Ok) (n : Nat) : (takeB n x).Ok := ⟨Nat.le_trans (Nat.sub_le _ _) h.b, h.p, h.c⟩
theorem Bin.Ok.touch {x : Bin} (h : x.Ok) (t k u d : Nat) {now : Nat} (hn : now ≤ 4611686018427387903) : (touchB t k u d now x).Ok := by
  unfold touchB
  split
  · exact h
  · split
    · exact ⟨h.b, Nat.min_le_right _ _, hn⟩
    · split
      · exact ⟨h.b, Nat.le_trans (Nat.sub_le _ _) h.p, hn⟩
      · exact h

/-- All bins: level, then number. -/
abbrev Bins := Nat → Nat → Bin
def setB (B : Bins) (l k : Nat) (x : Bin) : Bins := fun i j => if i = l ∧ j = k then x else B i j
def binOf (xs : List Int) (l : Nat) : Nat := (xs.getD l 0).toNat
/-- A flow's bins, up to level j, turned by f. -/
def upd (f : Bin → Bin) (xs : List Int) (j : Nat) (B : Bins) : Bins := fun l k => if l < j ∧ binOf xs l = k then f (B l k) else B l k
theorem upd_zero (f : Bin → Bin) (xs : List Int) (B : Bins) : upd f xs 0 B = B := by
  funext l k
  simp [upd]
theorem upd_at (f : Bin → Bin) (xs : List Int) (j : Nat) (B : Bins) (k : Nat) : upd f xs j B j k = B j k := by simp [upd]
theorem upd_succ (f : Bin → Bin) (xs : List Int) (j : Nat) (B : Bins) : setB (upd f xs j B) j (binOf xs j) (f (upd f xs j B j (binOf xs j))) = upd f xs (j + 1) B := by
  funext l k
  simp only [setB, upd_at]
  simp only [upd]
  by_cases h : l = j
  · subst h
    by_cases hk : k = binOf xs l
    · subst hk
      simp
    · have : ¬ binOf xs l = k := fun e => hk e.symm
      simp [hk, this]
  · have e : l < j ↔ l < j + 1 := by omega
    simp [h, e]
/-- All bins are bins. -/
def BOk (B : Bins) : Prop := ∀ l k, (B l k).Ok
theorem BOk.set_ {B : Bins} (h : BOk B) (l k : Nat) {x : Bin} (hx : x.Ok) : BOk (setB B l k x) := fun i j => by
  unfold setB
  split
  · exact hx
  · exact h i j
theorem BOk.upd_ {B : Bins} (h : BOk B) {f : Bin → Bin} (hf : ∀ x, x.Ok → (f x).Ok) (xs : List Int) (j : Nat) : BOk (upd f xs j B) := fun l k => by
  unfold upd
  split
  · exact hf _ (h l k)
  · exact h l k

/-- Is it a bin's number on each level? -/
def flow (n m : Nat) (xs : List Int) : Bool := decide (xs.length = n) && xs.all fun x => decide (0 ≤ x) && decide (x < (m : Int))
theorem flow_at {n m : Nat} {xs : List Int} (h : flow n m xs = true) {l : Nat} (hl : l < n) : xs.getD l 0 = (binOf xs l : Nat) ∧ binOf xs l < m := by
  simp [flow] at h
  obtain ⟨h1, h2⟩ := h
  have hx := h2 (xs[l]'(by omega)) (List.getElem_mem _)
  unfold binOf
  rw [List.getD_eq_getElem?_getD, List.getElem?_eq_getElem (by omega)]
  simp only [Option.getD_some]
  omega
theorem flow_len {n m : Nat} {xs : List Int} (h : flow n m xs = true) : xs.length = n := by
  simp [flow] at h
  exact h.1

/-- Levels of bins, and by what they are touched. -/
structure Blu where
  n : Nat
  m : Nat
  t : Nat
  h : Nat
  u : Nat
  d : Nat
  B : Bins
structure Blu.Ok (V : Blu) : Prop where
  n1 : 1 ≤ V.n
  n2 : V.n ≤ 4
  m1 : 1 ≤ V.m
  m2 : V.m ≤ 64
  t : V.t ≤ 1073741824
  h : V.h ≤ 4611686018427387903
  u : V.u ≤ 65536
  d : V.d ≤ 65536
  B : BOk V.B
def Blu.put (V : Blu) (B : Bins) : Blu := { V with B := B }
theorem Blu.Ok.put {V : Blu} (h : V.Ok) {B : Bins} (hB : BOk B) : (V.put B).Ok := ⟨h.n1, h.n2, h.m1, h.m2, h.t, h.h, h.u, h.d, hB⟩
def isz (n : Int) : Bool := decide (0 ≤ n) && decide (n ≤ 1073741824)
def ist (n : Int) : Bool := decide (0 ≤ n) && decide (n ≤ 65536)
def may (t u d : Int) : Bool := isz t && ist u && ist d
def asT (x : Int) : Nat := (min (max x 0) 4611686018427387903).toNat
theorem asT_le (x : Int) : asT x ≤ 4611686018427387903 := by unfold asT; omega
theorem asT_eq (x : Int) : min (max x 0) 4611686018427387903 = (asT x : Int) := by unfold asT; omega
def putV (V : Blu) (xs : List Int) (x : Int) : Blu := if isz x && flow V.n V.m xs then V.put (upd (putB x.toNat) xs V.n V.B) else V
def takeV (V : Blu) (xs : List Int) (x : Int) : Blu := if isz x && flow V.n V.m xs then V.put (upd (takeB x.toNat) xs V.n V.B) else V
def touchV (V : Blu) (xs : List Int) (x : Int) : Blu := if flow V.n V.m xs then V.put (upd (touchB V.t V.h V.u V.d (asT x)) xs V.n V.B) else V
def clearV (V : Blu) : Blu := V.put fun _ _ => bin0
def tuneV (V : Blu) (t u d : Int) : Blu := if may t u d then { V with t := t.toNat, u := u.toNat, d := d.toNat } else V
/-- The least of a flow's first probabilities, Certain at most. -/
def mk (B : Bins) (xs : List Int) : Nat → Nat
  | 0 => 65536
  | j + 1 => min (mk B xs j) (B j (binOf xs j)).p
def markV (V : Blu) (xs : List Int) : Nat := if flow V.n V.m xs then mk V.B xs V.n else 0
theorem mk_le (B : Bins) (xs : List Int) (j : Nat) : mk B xs j ≤ 65536 := by
  induction j with
  | zero => exact Nat.le_refl _
  | succ j ih => exact Nat.le_trans (Nat.min_le_left _ _) ih
theorem Blu.Ok.put_ {V : Blu} (h : V.Ok) (xs : List Int) (x : Int) : (putV V xs x).Ok := by
  unfold putV
  split
  · exact h.put (h.B.upd_ (fun x hx => hx.put _) _ _)
  · exact h
theorem Blu.Ok.take_ {V : Blu} (h : V.Ok) (xs : List Int) (x : Int) : (takeV V xs x).Ok := by
  unfold takeV
  split
  · exact h.put (h.B.upd_ (fun x hx => hx.take _) _ _)
  · exact h
theorem Blu.Ok.touch_ {V : Blu} (h : V.Ok) (xs : List Int) (x : Int) : (touchV V xs x).Ok := by
  unfold touchV
  split
  · exact h.put (h.B.upd_ (fun y hy => hy.touch _ _ _ _ (asT_le x)) _ _)
  · exact h
theorem Blu.Ok.clear_ {V : Blu} (h : V.Ok) : (clearV V).Ok := h.put fun _ _ => bin0_ok
theorem may_bd {t u d : Int} (h : may t u d = true) : 0 ≤ t ∧ t ≤ 1073741824 ∧ 0 ≤ u ∧ u ≤ 65536 ∧ 0 ≤ d ∧ d ≤ 65536 := by
  simp [may, isz, ist] at h
  omega
theorem Blu.Ok.tune_ {V : Blu} (h : V.Ok) (t u d : Int) : (tuneV V t u d).Ok := by
  unfold tuneV
  split
  · rename_i hm
    have := may_bd hm
    exact ⟨h.n1, h.n2, h.m1, h.m2, by show t.toNat ≤ _; omega, h.h, by show u.toNat ≤ _; omega, by show d.toNat ≤ _; omega, h.B⟩
  · exact h

/-- A bin's parts in their order (r: the document's order). -/
def part (r : Bool) (x : Bin) (i : Nat) : Value := .int .i64 ((if i = 0 then x.b else if (i = 1) = (r = false) then x.p else x.c : Nat) : Int)
/-- The cells of m bins. -/
def cel (r : Bool) (f : Nat → Bin) (m : Nat) : List Value := (List.range (m * 3)).map fun i => part r (f (i / 3)) (i % 3)
section
variable {r : Bool} {f : Nat → Bin} {m k : Nat}
theorem cel_length (r : Bool) (f : Nat → Bin) (m : Nat) : (cel r f m).length = m * 3 := by simp [cel]
theorem cel_at (h : k < m) {i : Nat} (hi : i < 3) : (cel r f m)[k * 3 + i]? = some (part r (f k) i) := by
  have h1 : k * 3 + i < m * 3 := by omega
  have h2 : (k * 3 + i) / 3 = k := by omega
  have h3 : (k * 3 + i) % 3 = i := by omega
  simp [cel, h1, h2, h3]
theorem cel_b (h : k < m) : (cel r f m)[k * 3]? = some (.int .i64 ((f k).b : Nat)) := cel_at h (i := 0) (by omega)
theorem cel_1 (h : k < m) : (cel false f m)[k * 3 + 1]? = some (.int .i64 ((f k).p : Nat)) := cel_at h (i := 1) (by omega)
theorem cel_2 (h : k < m) : (cel false f m)[k * 3 + 2]? = some (.int .i64 ((f k).c : Nat)) := cel_at h (i := 2) (by omega)
theorem rel_1 (h : k < m) : (cel true f m)[k * 3 + 1]? = some (.int .i64 ((f k).c : Nat)) := cel_at h (i := 1) (by omega)
theorem rel_2 (h : k < m) : (cel true f m)[k * 3 + 2]? = some (.int .i64 ((f k).p : Nat)) := cel_at h (i := 2) (by omega)
theorem cel_set {i : Nat} (h : k < m) (hi : i < 3) (x : Bin) (hx : ∀ j, j < 3 → j ≠ i → part r x j = part r (f k) j) : (cel r f m).set (k * 3 + i) (part r x i) = cel r (fun j => if j = k then x else f j) m := by
  apply List.ext_getElem?
  intro a
  by_cases ha : a < m * 3
  · rw [show a = a / 3 * 3 + a % 3 by omega, cel_at (by omega) (by omega), List.getElem?_set, cel_at (k := a / 3) (i := a % 3) (by omega) (by omega), cel_length]
    by_cases hk : a / 3 = k
    · subst hk
      by_cases hi' : i = a % 3
      · subst hi'
        simp; omega
      · simp only [if_true]
        rw [if_neg (by omega), hx (a % 3) (by omega) (fun e => hi' e.symm)]
    · rw [if_neg (by omega), if_neg hk]
  · rw [List.getElem?_eq_none (by simp [cel]; omega), List.getElem?_eq_none (by simp [cel]; omega)]
theorem cel_set_b (h : k < m) (v : Nat) : (cel r f m).set (k * 3) (.int .i64 (v : Nat)) = cel r (fun j => if j = k then ⟨v, (f k).p, (f k).c⟩ else f j) m :=
  cel_set (i := 0) h (by omega) ⟨v, (f k).p, (f k).c⟩ fun j hj hn => by unfold part; rw [if_neg hn, if_neg hn]
theorem cel_set_1 (h : k < m) (v : Nat) : (cel false f m).set (k * 3 + 1) (.int .i64 (v : Nat)) = cel false (fun j => if j = k then ⟨(f k).b, v, (f k).c⟩ else f j) m :=
  cel_set (r := false) (i := 1) h (by omega) ⟨(f k).b, v, (f k).c⟩ fun j hj hn => by unfold part; simp [hn]
theorem cel_set_2 (h : k < m) (v : Nat) : (cel false f m).set (k * 3 + 2) (.int .i64 (v : Nat)) = cel false (fun j => if j = k then ⟨(f k).b, (f k).p, v⟩ else f j) m :=
  cel_set (r := false) (i := 2) h (by omega) ⟨(f k).b, (f k).p, v⟩ fun j hj hn => by unfold part; rcases (by omega : j = 0 ∨ j = 1) with rfl | rfl <;> simp
theorem rel_set_1 (h : k < m) (v : Nat) : (cel true f m).set (k * 3 + 1) (.int .i64 (v : Nat)) = cel true (fun j => if j = k then ⟨(f k).b, (f k).p, v⟩ else f j) m :=
  cel_set (r := true) (i := 1) h (by omega) ⟨(f k).b, (f k).p, v⟩ fun j hj hn => by unfold part; rcases (by omega : j = 0 ∨ j = 2) with rfl | rfl <;> simp
theorem rel_set_2 (h : k < m) (v : Nat) : (cel true f m).set (k * 3 + 2) (.int .i64 (v : Nat)) = cel true (fun j => if j = k then ⟨(f k).b, v, (f k).c⟩ else f j) m :=
  cel_set (r := true) (i := 2) h (by omega) ⟨(f k).b, v, (f k).c⟩ fun j hj hn => by unfold part; rcases (by omega : j = 0 ∨ j = 1) with rfl | rfl <;> simp
/-- A whole bin. -/
theorem cel_whole (h : k < m) (x : Bin) : (((cel r f m).set (k * 3) (part r x 0)).set (k * 3 + 1) (part r x 1)).set (k * 3 + 2) (part r x 2) = cel r (fun j => if j = k then x else f j) m := by
  apply List.ext_getElem?
  intro a
  by_cases ha : a < m * 3
  · rw [show a = a / 3 * 3 + a % 3 by omega, cel_at (f := fun j => if j = k then x else f j) (by omega) (by omega), List.getElem?_set, List.getElem?_set, List.getElem?_set, cel_at (k := a / 3) (i := a % 3) (by omega) (by omega)]
    simp only [List.length_set, cel_length]
    by_cases hk : a / 3 = k
    · subst hk
      rcases (by omega : a % 3 = 0 ∨ a % 3 = 1 ∨ a % 3 = 2) with e | e | e
      · rw [e, if_neg (by omega), if_neg (by omega), if_pos (by omega), if_pos (by omega), if_pos rfl]
      · rw [e, if_neg (by omega), if_pos (by omega), if_pos (by omega), if_pos rfl]
      · rw [e, if_pos (by omega), if_pos (by omega), if_pos rfl]
    · rw [if_neg (by omega), if_neg (by omega), if_neg (by omega), if_neg hk]
  · rw [List.getElem?_eq_none (by simp [cel]; omega), List.getElem?_eq_none (by simp [cel]; omega)]
theorem cel_set3 (h : k < m) (x y z : Nat) : (((cel false f m).set (k * 3) (.int .i64 (x : Nat))).set (k * 3 + 1) (.int .i64 (y : Nat))).set (k * 3 + 2) (.int .i64 (z : Nat)) = cel false (fun j => if j = k then ⟨x, y, z⟩ else f j) m := cel_whole h ⟨x, y, z⟩
theorem rel_set3 (h : k < m) (x : Bin) : (((cel true f m).set (k * 3) (.int .i64 (x.b : Nat))).set (k * 3 + 1) (.int .i64 (x.c : Nat))).set (k * 3 + 2) (.int .i64 (x.p : Nat)) = cel true (fun j => if j = k then x else f j) m := cel_whole h x
theorem cel_one : ∀ u ∈ cel r f m, u.oneCell' = true := by
  intro u hu
  obtain ⟨i, _, rfl⟩ := List.mem_map.1 hu
  rfl
theorem cel_congr {g : Nat → Bin} (h : ∀ k, k < m → f k = g k) : cel r f m = cel r g m := by
  unfold cel
  apply List.map_congr_left
  intro i hi
  rw [h _ (by have := List.mem_range.1 hi; omega)]
theorem cel_snoc : cel r f (m + 1) = cel r f m ++ [part r (f m) 0, part r (f m) 1, part r (f m) 2] := by
  apply List.ext_getElem?
  intro a
  by_cases ha : a < (m + 1) * 3
  · rw [show a = a / 3 * 3 + a % 3 by omega, cel_at (by omega) (by omega)]
    by_cases h : a / 3 < m
    · rw [List.getElem?_append_left (by rw [cel_length]; omega), cel_at h (by omega)]
    · have e : a / 3 = m := by omega
      rw [List.getElem?_append_right (by rw [cel_length]; omega), cel_length, e, show m * 3 + a % 3 - m * 3 = a % 3 by omega]
      rcases (by omega : a % 3 = 0 ∨ a % 3 = 1 ∨ a % 3 = 2) with e | e | e <;> rw [e] <;> rfl
  · rw [List.getElem?_eq_none (by simp [cel]; omega), List.getElem?_eq_none (by simp [cel_length]; omega)]
theorem cel_zero (r : Bool) (m : Nat) : (madeCells #[Value.int .i64 0, .int .i64 0, .int .i64 0] (m * 3)).toList = cel r (fun _ => bin0) m := by
  have hp : ∀ i, i < 3 → part r bin0 i = .int .i64 0 := by
    intro i hi
    unfold part bin0
    (repeat' split) <;> rfl
  apply List.ext_getElem?
  intro a
  by_cases ha : a < m * 3
  · have e : a = a / 3 * 3 + a % 3 := by omega
    have h3 : a % 3 < 3 := by omega
    rw [show (cel r (fun _ => bin0) m)[a]? = some (.int .i64 0) by rw [e, cel_at (by omega) (by omega), hp _ (by omega)]]
    simp [madeCells, ha]
    rcases (by omega : a % 3 = 0 ∨ a % 3 = 1 ∨ a % 3 = 2) with e | e | e <;> rw [e] <;> rfl
  · rw [List.getElem?_eq_none (by simp [madeCells]; omega), List.getElem?_eq_none (by simp [cel]; omega)]
end
end Go.Proofs.Ytedpikpknlaggaa
