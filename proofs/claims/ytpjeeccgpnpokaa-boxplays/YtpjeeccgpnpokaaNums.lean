/- Plain facts on counts (numbers from 0 to 2^62): no Go in sight. Counts, their capped sums and products, and parts rounded up. No conditions but those that each theorem states. -/
namespace Go.Proofs.Ytpjeeccgpnpokaa

/-- A number as a count. -/
def cnt (x : Int) : Int := if x < 0 then 0 else if 4611686018427387904 < x then 4611686018427387904 else x
/-- The capped sum of two counts. -/
def addC (a b : Int) : Int := if 4611686018427387904 < a + b then 4611686018427387904 else a + b
/-- The capped sum of a list, from s on. -/
def sumF (s : Int) : List Int → Int
  | [] => s
  | x :: r => sumF (addC s (cnt x)) r
/-- The capped product. -/
def mulC (a b : Int) : Int := if 4611686018427387904 < cnt a * cnt b then 4611686018427387904 else cnt a * cnt b
/-- By, rounded up. -/
def upC (a b : Int) : Int := if cnt b = 0 then 0 else if 0 < cnt a % cnt b then cnt a / cnt b + 1 else cnt a / cnt b

theorem cnt_bd (x : Int) : 0 ≤ cnt x ∧ cnt x ≤ 4611686018427387904 := by
  unfold cnt; split <;> (try split) <;> omega
theorem cnt_id {x : Int} (h0 : 0 ≤ x) (h1 : x ≤ 4611686018427387904) : cnt x = x := by
  unfold cnt; rw [if_neg (by omega), if_neg (by omega)]
theorem cnt_cnt (x : Int) : cnt (cnt x) = cnt x := cnt_id (cnt_bd x).1 (cnt_bd x).2
theorem addC_bd {a b : Int} (ha : 0 ≤ a) (hb : 0 ≤ b) : 0 ≤ addC a b ∧ addC a b ≤ 4611686018427387904 := by
  unfold addC; split <;> omega
theorem addC_comm (a b : Int) : addC a b = addC b a := by
  unfold addC; rw [Int.add_comm]
theorem addC_assoc {a b c : Int} (ha : 0 ≤ a) (_hb : 0 ≤ b) (hc : 0 ≤ c) : addC (addC a b) c = addC a (addC b c) := by
  unfold addC; (repeat' split) <;> omega
theorem addC_zero {a : Int} (h1 : a ≤ 4611686018427387904) : addC 0 a = a := by
  unfold addC; rw [if_neg (by omega)]; omega
theorem sumF_bd (l : List Int) : ∀ (s : Int), 0 ≤ s → s ≤ 4611686018427387904 → 0 ≤ sumF s l ∧ sumF s l ≤ 4611686018427387904 := by
  induction l with
  | nil => intro s h0 h1; exact ⟨h0, h1⟩
  | cons x r ih =>
    intro s h0 _
    have := addC_bd h0 (cnt_bd x).1
    exact ih _ this.1 this.2
theorem sumF_append (l : List Int) : ∀ (r : List Int) (s : Int), sumF s (l ++ r) = sumF (sumF s l) r := by
  induction l with
  | nil => intro r s; rfl
  | cons x t ih => intro r s; exact ih r _
theorem sumF_addC (l : List Int) : ∀ (s : Int), 0 ≤ s → s ≤ 4611686018427387904 → sumF s l = addC s (sumF 0 l) := by
  induction l with
  | nil => intro s h0 h1; show s = addC s 0; unfold addC; rw [if_neg (by omega)]; omega
  | cons x r ih =>
    intro s h0 h1
    have hx := cnt_bd x
    have h2 := addC_bd h0 hx.1
    have h3 := addC_bd (Int.le_refl 0) hx.1
    have hb := sumF_bd r 0 (by omega) (by omega)
    show sumF (addC s (cnt x)) r = addC s (sumF (addC 0 (cnt x)) r)
    rw [ih _ h2.1 h2.2, ih _ h3.1 h3.2, addC_zero hx.2, addC_assoc h0 hx.1 hb.1]
/-- Wherever a list is parted, and whichever part comes first. -/
theorem sumF_rot (l : List Int) (n : Nat) : sumF 0 (l.drop n ++ l.take n) = sumF 0 l := by
  have e : sumF 0 l = sumF 0 (l.take n ++ l.drop n) := by rw [List.take_append_drop]
  have ha := sumF_bd (l.take n) 0 (by omega) (by omega)
  have hb := sumF_bd (l.drop n) 0 (by omega) (by omega)
  rw [e, sumF_append, sumF_append, sumF_addC _ _ ha.1 ha.2, sumF_addC _ _ hb.1 hb.2, addC_comm]
theorem sumF_two (a b : Int) : sumF 0 [a, b] = addC (cnt a) (cnt b) := by
  show addC (addC 0 (cnt a)) (cnt b) = _
  rw [addC_zero (cnt_bd a).2]
theorem sumF_parts (l : List Int) (n : Nat) : sumF 0 [sumF 0 (l.take n), sumF 0 (l.drop n)] = sumF 0 l := by
  have e : sumF 0 l = sumF 0 (l.take n ++ l.drop n) := by rw [List.take_append_drop]
  have ha := sumF_bd (l.take n) 0 (by omega) (by omega)
  have hb := sumF_bd (l.drop n) 0 (by omega) (by omega)
  rw [sumF_two, cnt_id ha.1 ha.2, cnt_id hb.1 hb.2, e, sumF_append, sumF_addC _ _ ha.1 ha.2]
theorem sumF_snoc (l : List Int) (x : Int) (s : Int) : sumF s (l ++ [x]) = addC (sumF s l) (cnt x) := by
  rw [sumF_append]; rfl
theorem take_snoc (l : List Int) (k : Nat) (h : k < l.length) : l.take (k + 1) = l.take k ++ [l.getD k 0] := by
  rw [List.take_succ_eq_append_getElem h]
  simp [List.getD_eq_getElem?_getD, h]
theorem sumF_take_succ (l : List Int) (k : Nat) (h : k < l.length) : sumF 0 (l.take (k + 1)) = addC (sumF 0 (l.take k)) (cnt (l.getD k 0)) := by
  rw [take_snoc l k h, sumF_snoc]
/-- As many times the one number. -/
theorem sumF_times (a : Int) : ∀ (n : Nat), sumF 0 (List.replicate n a) = if 4611686018427387904 < cnt a * (n : Int) then 4611686018427387904 else cnt a * (n : Int) := by
  intro n
  have ha := cnt_bd a
  induction n with
  | zero => simp [sumF]
  | succ n ih =>
    have e : cnt a * ((n + 1 : Nat) : Int) = cnt a * (n : Int) + cnt a := by
      rw [Int.natCast_add, Int.mul_add]; simp
    have h0 : 0 ≤ cnt a * (n : Int) := Int.mul_nonneg ha.1 (Int.natCast_nonneg n)
    rw [List.replicate_succ', sumF_snoc, ih, e]
    generalize cnt a * (n : Int) = p at *
    generalize cnt a = q at *
    unfold addC
    (repeat' split) <;> omega
theorem mulC_nat (a : Int) (n : Nat) (h : n ≤ 255) : mulC a (n : Int) = sumF 0 (List.replicate n a) := by
  rw [sumF_times]
  unfold mulC
  rw [cnt_id (x := (n : Int)) (by omega) (by omega)]
theorem mulC_comm (a b : Int) : mulC a b = mulC b a := by
  unfold mulC; rw [Int.mul_comm]
theorem mulC_one (a : Int) : mulC a 1 = cnt a := by
  have := cnt_bd a
  unfold mulC; rw [cnt_id (x := 1) (by omega) (by omega), Int.mul_one, if_neg (by omega)]
theorem mulC_zero (a : Int) : mulC a 0 = 0 := by
  unfold mulC; rw [cnt_id (x := 0) (by omega) (by omega), Int.mul_zero, if_neg (by omega)]
/-- The test that Mul makes: whether there is room for the product. -/
theorem mul_room {x y : Int} (hx : 0 < x) (hy : 0 ≤ y) (h : y ≤ 4611686018427387904 / x) : 0 ≤ x * y ∧ x * y ≤ 4611686018427387904 := by
  refine ⟨Int.mul_nonneg (by omega) hy, ?_⟩
  have h1 : x * y ≤ x * (4611686018427387904 / x) := Int.mul_le_mul_of_nonneg_left h (by omega)
  have h2 : x * (4611686018427387904 / x) ≤ 4611686018427387904 := Int.mul_ediv_self_le (by omega)
  omega
theorem mul_noroom {x y : Int} (hx : 0 < x) (h : 4611686018427387904 / x < y) : 4611686018427387904 < x * y := by
  rw [Int.mul_comm]
  exact Int.lt_mul_of_ediv_lt hx h
theorem mulC_full {a b : Int} (hx : 0 < cnt a) (h : 4611686018427387904 / cnt a < cnt b) : mulC a b = 4611686018427387904 := by
  unfold mulC; rw [if_pos (mul_noroom hx h)]
theorem mulC_part {a b : Int} (hx : 0 < cnt a) (h : cnt b ≤ 4611686018427387904 / cnt a) : mulC a b = cnt a * cnt b := by
  have := mul_room hx (cnt_bd b).1 h
  unfold mulC; rw [if_neg (by omega)]
theorem mulC_none {a b : Int} (hx : cnt a = 0) : mulC a b = 0 := by
  unfold mulC; rw [hx]; simp
theorem mulC_bd (a b : Int) : 0 ≤ mulC a b ∧ mulC a b ≤ 4611686018427387904 := by
  have := Int.mul_nonneg (cnt_bd a).1 (cnt_bd b).1
  unfold mulC; split <;> omega
theorem ediv_bd {x y : Int} (hx : 0 ≤ x) (hy : 0 < y) : 0 ≤ x / y ∧ x / y ≤ x :=
  ⟨Int.ediv_nonneg hx (by omega), Int.ediv_le_self _ hx⟩
theorem upC_none {a b : Int} (h : cnt b = 0) : upC a b = 0 := by unfold upC; rw [if_pos h]
theorem upC_more {a b : Int} (h : 0 < cnt b) (h' : 0 < cnt a % cnt b) : upC a b = cnt a / cnt b + 1 := by
  unfold upC; rw [if_neg (by omega), if_pos h']
theorem upC_even {a b : Int} (h : 0 < cnt b) (h' : ¬ 0 < cnt a % cnt b) : upC a b = cnt a / cnt b := by
  unfold upC; rw [if_neg (by omega), if_neg h']
theorem upC_bd (a b : Int) : 0 ≤ upC a b ∧ upC a b ≤ 4611686018427387904 := by
  have ha := cnt_bd a
  have hb := cnt_bd b
  by_cases h : cnt b = 0
  · rw [upC_none h]; omega
  · have h0 : 0 < cnt b := by omega
    have hd := ediv_bd ha.1 h0
    by_cases h' : 0 < cnt a % cnt b
    · rw [upC_more h0 h']
      have h2 := Int.mul_ediv_add_emod (cnt a) (cnt b)
      have h3 := Int.emod_lt_of_pos (cnt a) h0
      have h4 : cnt a / cnt b ≤ cnt b * (cnt a / cnt b) := by
        have := Int.mul_le_mul_of_nonneg_right (show (1 : Int) ≤ cnt b by omega) hd.1
        omega
      omega
    · rw [upC_even h0 h']; omega
/-- What is rounded up is enough. -/
theorem up_enough {a b : Int} (h0 : 0 < cnt b) : cnt a ≤ upC a b * cnt b := by
  have h2 := Int.mul_ediv_add_emod (cnt a) (cnt b)
  have h3 := Int.emod_lt_of_pos (cnt a) h0
  have e := Int.mul_comm (cnt b) (cnt a / cnt b)
  by_cases h' : 0 < cnt a % cnt b
  · rw [upC_more h0 h', Int.add_mul]; omega
  · rw [upC_even h0 h']; omega
/-- And one less isn't. -/
theorem up_least {a b : Int} (h0 : 0 < cnt b) : (upC a b - 1) * cnt b < cnt a := by
  have h2 := Int.mul_ediv_add_emod (cnt a) (cnt b)
  have h3 := Int.emod_nonneg (cnt a) (show cnt b ≠ 0 by omega)
  have e := Int.mul_comm (cnt b) (cnt a / cnt b)
  by_cases h' : 0 < cnt a % cnt b
  · rw [upC_more h0 h', Int.sub_mul, Int.add_mul]; omega
  · rw [upC_even h0 h', Int.sub_mul]; omega
theorem ups_enough {a b : Int} (h0 : 0 < cnt b) : cnt a ≤ mulC (upC a b) (cnt b) := by
  have hu := upC_bd a b
  have ha := cnt_bd a
  have := up_enough (a := a) h0
  unfold mulC
  rw [cnt_id hu.1 hu.2, cnt_cnt]
  split <;> omega
theorem ups_least {a b : Int} (h0 : 0 < cnt b) (hn : 0 < upC a b) : mulC (upC a b - 1) (cnt b) < cnt a := by
  have hu := upC_bd a b
  have ha := cnt_bd a
  have := up_least (a := a) h0
  unfold mulC
  rw [cnt_id (x := upC a b - 1) (by omega) (by omega), cnt_cnt]
  split <;> omega
/-- A number, capped. -/
def cap (x : Int) : Int := if 4611686018427387904 < x then 4611686018427387904 else x
theorem mulC_cap (a b : Int) : mulC a b = cap (cnt a * cnt b) := rfl
theorem addC_cap (a b : Int) : addC a b = cap (a + b) := rfl
theorem cap_step {p q r : Int} (hp : 0 ≤ p) (hq : 0 ≤ q) (hr : 0 ≤ r) : cap (cap p + cap q * r) = cap (p + q * r) := by
  have hqr := Int.mul_nonneg hq hr
  by_cases h : 4611686018427387904 < q
  · have e : cap q = 4611686018427387904 := by unfold cap; rw [if_pos h]
    rw [e]
    by_cases h0 : r = 0
    · subst h0
      simp only [Int.mul_zero, Int.add_zero]
      unfold cap; (repeat' split) <;> omega
    · have h1 : q * 1 ≤ q * r := Int.mul_le_mul_of_nonneg_left (by omega) hq
      rw [Int.mul_one] at h1
      unfold cap; (repeat' split) <;> omega
  · have e : cap q = q := by unfold cap; rw [if_neg h]
    rw [e]
    unfold cap; (repeat' split) <;> omega
theorem cap_odd {o x y : Int} (ho : 0 ≤ o) (hx : 0 ≤ x) (hy : 0 ≤ y) (h : y % 2 = 1) : cap (cap (o + x) + cap (x + x) * (y / 2)) = cap (o + x * y) := by
  rw [cap_step (by omega) (by omega) (by omega)]
  have e : x * y = x * (2 * (y / 2) + 1) := by congr 1; omega
  have e2 : x * (2 * (y / 2) + 1) = (x + x) * (y / 2) + x := by
    rw [Int.mul_add, Int.mul_one, Int.add_mul, Int.mul_left_comm]; omega
  rw [e, e2]; congr 1; omega
theorem cap_even {o x y : Int} (ho : 0 ≤ o) (ho' : o ≤ 4611686018427387904) (hx : 0 ≤ x) (hy : 0 ≤ y) (h : y % 2 = 0) : cap (o + cap (x + x) * (y / 2)) = cap (o + x * y) := by
  have eo : cap o = o := by unfold cap; rw [if_neg (by omega)]
  have h1 := cap_step (p := o) (q := x + x) (r := y / 2) ho (by omega) (by omega)
  rw [eo] at h1
  rw [h1]
  have e : x * y = x * (2 * (y / 2)) := by congr 1; omega
  have e2 : x * (2 * (y / 2)) = (x + x) * (y / 2) := by
    rw [Int.add_mul, Int.mul_left_comm]; omega
  rw [e, e2]
theorem cap_bd {x : Int} (h : 0 ≤ x) : 0 ≤ cap x ∧ cap x ≤ 4611686018427387904 := by
  unfold cap; split <;> omega
theorem cap_id {x : Int} (h : x ≤ 4611686018427387904) : cap x = x := by unfold cap; rw [if_neg (by omega)]
/-- The document's own test for rounding up is that of a rest. -/
theorem up_test (x y : Int) : x / y * y < x ↔ 0 < x % y := by
  have h2 := Int.mul_ediv_add_emod x y
  have e := Int.mul_comm y (x / y)
  omega
theorem up_room {x y : Int} (hx : 0 ≤ x) (hy : 0 < y) : 0 ≤ x / y * y ∧ x / y * y ≤ x := by
  have h2 := Int.mul_ediv_add_emod x y
  have h3 := Int.emod_nonneg x (show y ≠ 0 by omega)
  have e := Int.mul_comm y (x / y)
  exact ⟨Int.mul_nonneg (Int.ediv_nonneg hx (by omega)) (by omega), by omega⟩
end Go.Proofs.Ytpjeeccgpnpokaa
