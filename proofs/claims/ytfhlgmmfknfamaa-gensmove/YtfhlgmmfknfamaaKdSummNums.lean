/- Plain numbers: SipHash-2-4 over lists of bytes, and how its state goes on by one byte. Conditions: those of each theorem. -/
import Derived.Laws.BitsAllLaws
namespace Go.Proofs.Ytfhlgmmfknfamaa.kd.summ

/-- A turn to the left. -/
def rotN (x n : Nat) : Nat := (x * 2 ^ n % 18446744073709551616) ||| (x / 2 ^ (64 - n))
/-- Below 2^64. -/
def U (x : Nat) : Prop := x < 18446744073709551616
theorem U.lt {x : Nat} (h : U x) : x < 18446744073709551616 := h
/-- A sum modulo 2^64. -/
def addN (x y : Nat) : Nat := (x + y) % 18446744073709551616
theorem addN_u (x y : Nat) : U (addN x y) := by unfold addN U; omega
theorem xor_u {x y : Nat} (hx : U x) (hy : U y) : U (x ^^^ y) := by
  have := Nat.xor_lt_two_pow (n := 64) (x := x) (y := y) (by have := hx.lt; omega) (by have := hy.lt; omega)
  unfold U; omega
theorem or_u {x y : Nat} (hx : U x) (hy : U y) : U (x ||| y) := by
  have := Nat.or_lt_two_pow (n := 64) (x := x) (y := y) (by have := hx.lt; omega) (by have := hy.lt; omega)
  unfold U; omega
theorem rotN_u {x : Nat} (n : Nat) (hx : U x) : U (rotN x n) := by
  refine or_u ?_ ?_
  · unfold U; omega
  · have := Nat.div_le_self x (2 ^ (64 - n)); have := hx.lt; unfold U; omega

/-- The four numbers. -/
structure V4 where
  a : Nat
  b : Nat
  c : Nat
  d : Nat
structure V4.Ok (v : V4) : Prop where
  a : U v.a
  b : U v.b
  c : U v.c
  d : U v.d
def rnd (v : V4) : V4 :=
  let a1 := addN v.a v.b
  let b1 := rotN v.b 13 ^^^ a1
  let a2 := rotN a1 32
  let c1 := addN v.c v.d
  let d1 := rotN v.d 16 ^^^ c1
  let a3 := addN a2 d1
  let d2 := rotN d1 21 ^^^ a3
  let c2 := addN c1 b1
  let b2 := rotN b1 17 ^^^ c2
  ⟨a3, b2, rotN c2 32, d2⟩
theorem rnd_ok {v : V4} (h : v.Ok) : (rnd v).Ok := by
  have h1 := addN_u v.a v.b
  have h2 := xor_u (rotN_u 13 h.b) h1
  have h3 := rotN_u 32 h1
  have h4 := addN_u v.c v.d
  have h5 := xor_u (rotN_u 16 h.d) h4
  have h6 := addN_u (rotN (addN v.a v.b) 32) (rotN v.d 16 ^^^ addN v.c v.d)
  have h7 := xor_u (rotN_u 21 h5) h6
  have h8 := addN_u (addN v.c v.d) (rotN v.b 13 ^^^ addN v.a v.b)
  exact ⟨h6, xor_u (rotN_u 17 h2) h8, rotN_u 32 h8, h7⟩
def mixV (v : V4) (m : Nat) : V4 :=
  let r := rnd (rnd ⟨v.a, v.b, v.c, v.d ^^^ m⟩)
  ⟨r.a ^^^ m, r.b, r.c, r.d⟩
theorem mixV_ok {v : V4} {m : Nat} (h : v.Ok) (hm : U m) : (mixV v m).Ok := by
  have h1 := rnd_ok (rnd_ok (v := ⟨v.a, v.b, v.c, v.d ^^^ m⟩) ⟨h.a, h.b, h.c, xor_u h.d hm⟩)
  exact ⟨xor_u h1.a hm, h1.b, h1.c, h1.d⟩
/-- Four rounds. -/
def rnds : Nat → V4 → V4
  | 0, v => v
  | n + 1, v => rnd (rnds n v)
theorem rnds_ok {v : V4} (h : v.Ok) : ∀ n, (rnds n v).Ok
  | 0 => h
  | n + 1 => rnd_ok (rnds_ok h n)
def outV (v : V4) : Nat := v.a ^^^ v.b ^^^ v.c ^^^ v.d
def finV (v : V4) : Nat := outV (rnds 4 ⟨v.a, v.b, v.c ^^^ 255, v.d⟩)
theorem fin_ok {v : V4} (h : v.Ok) : (⟨v.a, v.b, v.c ^^^ 255, v.d⟩ : V4).Ok := ⟨h.a, h.b, xor_u h.c (by unfold U; omega), h.d⟩

/-- Bytes. -/
def Octs (l : List Nat) : Prop := ∀ b ∈ l, b < 256
theorem Octs.nil : Octs [] := fun _ h => by cases h
theorem Octs.app {l m : List Nat} (h : Octs l) (k : Octs m) : Octs (l ++ m) := fun b hb => (List.mem_append.1 hb).elim (h b) (k b)
theorem Octs.take {l : List Nat} (h : Octs l) (n : Nat) : Octs (l.take n) := fun b hb => h b (List.mem_of_mem_take hb)
theorem Octs.drop {l : List Nat} (h : Octs l) (n : Nat) : Octs (l.drop n) := fun b hb => h b (List.mem_of_mem_drop hb)
theorem Octs.at_ {l : List Nat} (h : Octs l) (k : Nat) : l.getD k 0 < 256 := by
  rw [List.getD_eq_getElem?_getD]
  by_cases hk : k < l.length
  · rw [List.getElem?_eq_getElem hk]; exact h _ (List.getElem_mem hk)
  · rw [List.getElem?_eq_none (by omega)]; decide
theorem Octs.one {b : Nat} (h : b < 256) : Octs [b] := fun x hx => by simp at hx; omega

/-- Bytes as a number, the lowest first. -/
def le : List Nat → Nat
  | [] => 0
  | b :: bs => b + 256 * le bs
theorem le_app (l m : List Nat) : le (l ++ m) = le l + 256 ^ l.length * le m := by
  induction l with
  | nil => simp [le]
  | cons b l ih => simp only [List.cons_append, le, ih, List.length_cons, Nat.pow_succ]; rw [Nat.mul_add, Nat.add_assoc, Nat.mul_comm (256 ^ l.length) 256, Nat.mul_assoc]
theorem le_lt {l : List Nat} (h : Octs l) : le l < 256 ^ l.length := by
  induction l with
  | nil => simp [le]
  | cons b l ih =>
    have h1 := h b (by simp)
    have h2 := ih (fun x hx => h x (by simp [hx]))
    simp only [le, List.length_cons, Nat.pow_succ]
    omega
theorem pow_mono {a b : Nat} (h : a ≤ b) : 256 ^ a ≤ 256 ^ b := Nat.pow_le_pow_right (by decide) h
theorem le_u {l : List Nat} (h : Octs l) (hn : l.length ≤ 8) : U (le l) := by
  have := le_lt h
  have := pow_mono hn
  unfold U
  omega
theorem le_zeros (n : Nat) : le (List.replicate n 0) = 0 := by
  induction n with
  | zero => rfl
  | succ n ih => simp [List.replicate_succ, le, ih]
theorem pow_two (k : Nat) : 2 ^ (8 * k) = 256 ^ k := by rw [Nat.pow_mul]
/-- One byte more: by an or. -/
theorem le_or {l : List Nat} {b k : Nat} (h : Octs l) (hk : l.length = k) : le l ||| b * 2 ^ (8 * k) = le (l ++ [b]) := by
  subst hk
  have h1 := le_lt h
  rw [Nat.or_comm, nat_join (8 * l.length) (b * 2 ^ (8 * l.length)) (le l) (Nat.mul_mod_left _ _) (by rw [pow_two]; exact h1), le_app, pow_two]
  simp [le, Nat.add_comm, Nat.mul_comm]

/-- The numbers behind j whole words of l. -/
def absorb : Nat → V4 → List Nat → V4
  | 0, v, _ => v
  | j + 1, v, l => mixV (absorb j v l) (le ((l.drop (8 * j)).take 8))
theorem absorb_ok {v : V4} {l : List Nat} (h : v.Ok) (hl : Octs l) : ∀ j, (absorb j v l).Ok
  | 0 => h
  | j + 1 => mixV_ok (absorb_ok h hl j) (le_u ((hl.drop _).take _) (by simp; omega))
theorem absorb_app (v : V4) (l m : List Nat) : ∀ j, 8 * j ≤ l.length → absorb j v (l ++ m) = absorb j v l
  | 0, _ => rfl
  | j + 1, h => by
    simp only [absorb]
    rw [absorb_app v l m j (by omega), List.drop_append_of_le_length (by omega), List.take_append_of_le_length (by simp; omega)]

/-- Where the sum stands behind the bytes l. -/
def stV (v : V4) (l : List Nat) : V4 := absorb (l.length / 8) v l
def rest (l : List Nat) : List Nat := l.drop (8 * (l.length / 8))
def stW (l : List Nat) : Nat := le (rest l)
def stC (l : List Nat) : Nat := l.length % 256
theorem rest_length (l : List Nat) : (rest l).length = l.length % 8 := by simp [rest]; omega
theorem rest_octs {l : List Nat} (h : Octs l) : Octs (rest l) := h.drop _
theorem stW_u {l : List Nat} (h : Octs l) : U (stW l) := le_u (rest_octs h) (by rw [rest_length]; omega)
theorem stV_ok {v : V4} {l : List Nat} (h : v.Ok) (hl : Octs l) : (stV v l).Ok := absorb_ok h hl _
theorem stC_lt (l : List Nat) : stC l < 256 := by unfold stC; omega
theorem stC_mod (l : List Nat) : stC l % 8 = l.length % 8 := by unfold stC; omega
/-- The word with one byte more. -/
def wordOf (l : List Nat) (b : Nat) : Nat := le (rest l ++ [b])
theorem word_or {l : List Nat} {b : Nat} (h : Octs l) : stW l ||| b * 2 ^ (8 * (stC l % 8)) = wordOf l b := by
  rw [stC_mod]
  exact le_or (rest_octs h) (rest_length l)
theorem wordOf_u {l : List Nat} {b : Nat} (h : Octs l) (hb : b < 256) : U (wordOf l b) :=
  le_u ((rest_octs h).app (Octs.one hb)) (by simp [rest_length]; omega)
theorem shifted_u {l : List Nat} {b : Nat} (hb : b < 256) : U (b * 2 ^ (8 * (stC l % 8))) := by
  have h1 : 2 ^ (8 * (stC l % 8)) ≤ 256 ^ 7 := by rw [pow_two]; exact pow_mono (by omega)
  have h2 : b * 2 ^ (8 * (stC l % 8)) ≤ 255 * 256 ^ 7 := Nat.mul_le_mul (by omega) h1
  unfold U
  omega
theorem stC_snoc (l : List Nat) (b : Nat) : stC (l ++ [b]) = (stC l + 1) % 256 := by unfold stC; simp
/-- No whole word yet. -/
theorem st_more (v : V4) {l : List Nat} (b : Nat) (h : (stC l + 1) % 256 % 8 ≠ 0) : stV v (l ++ [b]) = stV v l ∧ stW (l ++ [b]) = wordOf l b := by
  have hl : (l.length + 1) % 8 ≠ 0 := by unfold stC at h; omega
  have e : (l ++ [b]).length / 8 = l.length / 8 := by simp; omega
  unfold stV stW rest wordOf rest
  rw [e]
  exact ⟨absorb_app v l [b] _ (by omega), by rw [List.drop_append_of_le_length (by omega)]⟩
/-- A whole word. -/
theorem st_word (v : V4) {l : List Nat} (b : Nat) (h : (stC l + 1) % 256 % 8 = 0) : stV v (l ++ [b]) = mixV (stV v l) (wordOf l b) ∧ stW (l ++ [b]) = 0 := by
  have hl : (l.length + 1) % 8 = 0 := by unfold stC at h; omega
  have e : (l ++ [b]).length / 8 = l.length / 8 + 1 := by simp; omega
  unfold stV stW rest wordOf rest
  rw [e]
  refine ⟨?_, ?_⟩
  · simp only [absorb]
    rw [absorb_app v l [b] _ (by omega), List.drop_append_of_le_length (by omega), List.take_of_length_le (by simp; omega)]
  · rw [List.drop_eq_nil_of_le (by simp; omega)]
    rfl
/-- The last word. -/
def lastW (l : List Nat) : Nat := le (rest l ++ List.replicate (7 - l.length % 8) 0 ++ [stC l])
theorem last_or {l : List Nat} (h : Octs l) : stW l ||| stC l * 72057594037927936 = lastW l := by
  have e : (rest l ++ List.replicate (7 - l.length % 8) 0).length = 7 := by simp [rest_length]; omega
  have h1 : Octs (rest l ++ List.replicate (7 - l.length % 8) 0) := (rest_octs h).app (fun b hb => by have := List.eq_of_mem_replicate hb; omega)
  have h2 := le_or (b := stC l) h1 e
  rw [le_app, le_zeros, Nat.mul_zero, Nat.add_zero] at h2
  exact h2
theorem lastW_u {l : List Nat} (h : Octs l) : U (lastW l) := le_u (((rest_octs h).app (fun b hb => by have := List.eq_of_mem_replicate hb; omega)).app (Octs.one (stC_lt l))) (by simp [rest_length]; omega)

/-- The sum. -/
def sumOf (v : V4) (l : List Nat) : Nat := finV (mixV (stV v l) (lastW l))
/-- All bytes of the document's way: filled up, and how many they are. -/
def filled (l : List Nat) : List Nat := l ++ List.replicate (7 - l.length % 8) 0 ++ [stC l]
theorem filled_length (l : List Nat) : (filled l).length = 8 * (l.length / 8 + 1) := by simp [filled]; omega
theorem filled_octs {l : List Nat} (h : Octs l) : Octs (filled l) := (h.app (fun b hb => by have := List.eq_of_mem_replicate hb; omega)).app (Octs.one (stC_lt l))
theorem sumOf_filled (v : V4) (l : List Nat) : finV (absorb (l.length / 8 + 1) v (filled l)) = sumOf v l := by
  unfold sumOf stV lastW rest filled
  refine congrArg finV ?_
  simp only [absorb]
  rw [List.append_assoc, absorb_app v l _ _ (by omega), List.drop_append_of_le_length (by omega), List.take_of_length_le (by simp; omega), ← List.append_assoc]
/-- The beginning, by a key. -/
def begV (k : List Nat) : V4 := ⟨le (k.take 8) ^^^ 8317987319222330741, le (k.drop 8) ^^^ 7237128888997146477, le (k.take 8) ^^^ 7816392313619706465, le (k.drop 8) ^^^ 8387220255154660723⟩
theorem begV_ok {k : List Nat} (h : Octs k) (hl : k.length = 16) : (begV k).Ok := by
  unfold begV
  have h1 : U (le (k.take 8)) := le_u (h.take _) (by simp; omega)
  have h2 : U (le (k.drop 8)) := le_u (h.drop _) (by simp; omega)
  generalize le (k.take 8) = x at h1
  generalize le (k.drop 8) = y at h2
  have c1 : U 8317987319222330741 := by unfold U; decide
  have c2 : U 7237128888997146477 := by unfold U; decide
  have c3 : U 7816392313619706465 := by unfold U; decide
  have c4 : U 8387220255154660723 := by unfold U; decide
  have e1 := xor_u h1 c1
  have e2 := xor_u h2 c2
  have e3 := xor_u h1 c3
  have e4 := xor_u h2 c4
  exact ⟨e1, e2, e3, e4⟩
def sip (k l : List Nat) : Nat := sumOf (begV k) l
theorem sip_awake : sip (List.range 16) (List.range 15) = 11613035633349379557 := by decide +kernel
theorem outV_u {v : V4} (h : v.Ok) : U (outV v) := xor_u (xor_u (xor_u h.a h.b) h.c) h.d
theorem sip_u {k l : List Nat} (hk : Octs k) (h16 : k.length = 16) (hl : Octs l) : U (sip k l) :=
  outV_u (rnds_ok (fin_ok (mixV_ok (stV_ok (begV_ok hk h16) hl) (lastW_u hl))) 4)
end Go.Proofs.Ytfhlgmmfknfamaa.kd.summ
