/- The contracts of bytes.Compare at seven bytes and of the program's Less. Conditions: those of each theorem. -/
import Derived.Test.YtpjeeccgpnpokaaLess
import Derived.Test.YtpjeeccgpnpokaaProgs
import Derived.Laws.Externs
namespace Go.Proofs.Ytpjeeccgpnpokaa
open Go.RowKit

def u8 (z : Int) : UInt8 := z.toNat.toUInt8
def bA (l : List Int) : ByteArray := ⟨(l.map u8).toArray⟩
theorem u8_nat {z : Int} (h : byt z) : (u8 z).toNat = z.toNat := by
  unfold u8
  have := h.1; have := h.2
  rw [Nat.toUInt8_eq, UInt8.toNat_ofNat']
  omega
theorem u8_ne {x y : Int} (hx : byt x) (hy : byt y) : (u8 x != u8 y) = decide (x ≠ y) := by
  rw [Bool.eq_iff_iff]
  simp only [bne_iff_ne, ne_eq, decide_eq_true_eq, ← UInt8.toNat_inj, u8_nat hx, u8_nat hy]
  have := hx.1; have := hy.1
  omega
theorem u8_lt {x y : Int} (hx : byt x) (hy : byt y) : (u8 x < u8 y) ↔ x < y := by
  rw [UInt8.lt_iff_toNat_lt, u8_nat hx, u8_nat hy]
  have := hx.1; have := hy.1
  omega
theorem bA_push (l : List Int) (z : Int) : (bA l).push (u8 z) = bA (l ++ [z]) := by
  unfold bA
  simp [ByteArray.push]
theorem run_loadBytes {w : World} : ∀ (l pre : List Int) (a : Addr), (∀ z ∈ l, byt z) → (∀ j z, l[j]? = some z → w.cell? (a.add j) = some (.int .u8 z)) → (Extern.Bytes.loadBytes a l.length (bA pre)).run Try.prog w = .ok (bA (pre ++ l)) w
  | [], pre, a, _, _ => by simp [Extern.Bytes.loadBytes]
  | z :: r, pre, a, hb, h => by
    have h0 := h 0 z rfl
    rw [show a.add 0 = a by unfold Addr.add; simp] at h0
    have ih := run_loadBytes (w := w) r (pre ++ [z]) (a.add 1) (fun x hx => hb x (by simp [hx])) (fun j x hj => by
      rw [Addr.add_twice, Nat.add_comm]
      exact h (j + 1) x (by simpa using hj))
    have hp := bA_push pre z
    unfold u8 at hp
    simp [Extern.Bytes.loadBytes, load, Sem.run, h0, hp, ih]
theorem cmp_seven {a b c d e f g a' b' c' d' e' f' g' : Int} (h : ∀ z ∈ [a, b, c, d, e, f, g], byt z) (h' : ∀ z ∈ [a', b', c', d', e', f', g'], byt z) :
    decide (Extern.BytealgCompare.cmp (bA [a, b, c, d, e, f, g]) (bA [a', b', c', d', e', f', g']) < 0) = ltL [a, b, c, d, e, f, g] [a', b', c', d', e', f', g'] := by
  have e1 : min (bA [a, b, c, d, e, f, g]).size (bA [a', b', c', d', e', f', g']).size = 7 := rfl
  have e2 : List.range 7 = [0, 1, 2, 3, 4, 5, 6] := rfl
  unfold Extern.BytealgCompare.cmp
  rw [e1, e2]
  have i0 : (bA [a, b, c, d, e, f, g])[0]! = u8 a ∧ (bA [a', b', c', d', e', f', g'])[0]! = u8 a' := ⟨rfl, rfl⟩
  have i1 : (bA [a, b, c, d, e, f, g])[1]! = u8 b ∧ (bA [a', b', c', d', e', f', g'])[1]! = u8 b' := ⟨rfl, rfl⟩
  have i2 : (bA [a, b, c, d, e, f, g])[2]! = u8 c ∧ (bA [a', b', c', d', e', f', g'])[2]! = u8 c' := ⟨rfl, rfl⟩
  have i3 : (bA [a, b, c, d, e, f, g])[3]! = u8 d ∧ (bA [a', b', c', d', e', f', g'])[3]! = u8 d' := ⟨rfl, rfl⟩
  have i4 : (bA [a, b, c, d, e, f, g])[4]! = u8 e ∧ (bA [a', b', c', d', e', f', g'])[4]! = u8 e' := ⟨rfl, rfl⟩
  have i5 : (bA [a, b, c, d, e, f, g])[5]! = u8 f ∧ (bA [a', b', c', d', e', f', g'])[5]! = u8 f' := ⟨rfl, rfl⟩
  have i6 : (bA [a, b, c, d, e, f, g])[6]! = u8 g ∧ (bA [a', b', c', d', e', f', g'])[6]! = u8 g' := ⟨rfl, rfl⟩
  have s1 : (bA [a, b, c, d, e, f, g]).size = 7 := rfl
  have s2 : (bA [a', b', c', d', e', f', g']).size = 7 := rfl
  have n0 := u8_ne (h a (by simp)) (h' a' (by simp)); have t0 := u8_lt (h a (by simp)) (h' a' (by simp))
  have n1 := u8_ne (h b (by simp)) (h' b' (by simp)); have t1 := u8_lt (h b (by simp)) (h' b' (by simp))
  have n2 := u8_ne (h c (by simp)) (h' c' (by simp)); have t2 := u8_lt (h c (by simp)) (h' c' (by simp))
  have n3 := u8_ne (h d (by simp)) (h' d' (by simp)); have t3 := u8_lt (h d (by simp)) (h' d' (by simp))
  have n4 := u8_ne (h e (by simp)) (h' e' (by simp)); have t4 := u8_lt (h e (by simp)) (h' e' (by simp))
  have n5 := u8_ne (h f (by simp)) (h' f' (by simp)); have t5 := u8_lt (h f (by simp)) (h' f' (by simp))
  have n6 := u8_ne (h g (by simp)) (h' g' (by simp)); have t6 := u8_lt (h g (by simp)) (h' g' (by simp))
  clear h h'
  simp only [List.find?_cons, List.find?_nil, i0.1, i0.2, i1.1, i1.2, i2.1, i2.2, i3.1, i3.2, i4.1, i4.2, i5.1, i5.2, i6.1, i6.2, n0, n1, n2, n3, n4, n5, n6, s1, s2, ltL]
  have fin : ∀ {P : Prop} [Decidable P] {x y : Int}, (P ↔ x < y) → decide ((if P then (-1 : Int) else 1) < 0) = decide (x < y) := fun hp => by
    split
    · rename_i hh; simp [hp.1 hh]
    · rename_i hh; rw [decide_eq_false (fun e => hh (hp.2 e))]; rfl
  by_cases h0 : a = a'
  case neg =>
    simp only [h0, ne_eq, not_false_eq_true, decide_true, i0.1, i0.2]
    exact fin t0
  subst h0
  by_cases h1 : b = b'
  case neg =>
    simp only [h1, ne_eq, not_true_eq_false, not_false_eq_true, decide_true, decide_false, if_true, if_false, i1.1, i1.2]
    exact fin t1
  subst h1
  by_cases h2 : c = c'
  case neg =>
    simp only [h2, ne_eq, not_true_eq_false, not_false_eq_true, decide_true, decide_false, if_true, if_false, i2.1, i2.2]
    exact fin t2
  subst h2
  by_cases h3 : d = d'
  case neg =>
    simp only [h3, ne_eq, not_true_eq_false, not_false_eq_true, decide_true, decide_false, if_true, if_false, i3.1, i3.2]
    exact fin t3
  subst h3
  by_cases h4 : e = e'
  case neg =>
    simp only [h4, ne_eq, not_true_eq_false, not_false_eq_true, decide_true, decide_false, if_true, if_false, i4.1, i4.2]
    exact fin t4
  subst h4
  by_cases h5 : f = f'
  case neg =>
    simp only [h5, ne_eq, not_true_eq_false, not_false_eq_true, decide_true, decide_false, if_true, if_false, i5.1, i5.2]
    exact fin t5
  subst h5
  by_cases h6 : g = g'
  case neg =>
    simp only [h6, ne_eq, not_true_eq_false, not_false_eq_true, decide_true, decide_false, if_true, if_false, i6.1, i6.2]
    exact fin t6
  subst h6
  simp
def cmpP (p q : Pre) : Int := Extern.BytealgCompare.cmp (bA p.bs) (bA q.bs)
theorem cmpP_lt {p q : Pre} (hp : p.Ok) (hq : q.Ok) : decide (cmpP p q < 0) = ltL p.bs q.bs := cmp_seven hp.h hq.h
theorem cs_add {w : World} {g : Nat} {t : TypeId} {p : Pre} (h : Blk w g t p.cs) : ∀ j z, p.bs[j]? = some z → w.cell? ((⟨g, 1, none⟩ : Addr).add j) = some (.int .u8 z) := fun j z hj => by
  rw [Addr.add_at, h.cell]
  show (Value.bool p.v :: cel p.bs)[1 + j]? = _
  rw [Nat.add_comm, List.getElem?_cons_succ, cel, List.getElem?_map, hj]
  rfl
/-- The model's own entry. -/
theorem run_cmp (a b ca cb : Nat) (p q : Pre) (w : World) (hp : p.Ok) (hq : q.Ok) (ha : Blk w a 31 p.cs) (hb : Blk w b 31 q.cs) :
    (callFunc 52 #[.slice (some ⟨a, 1, none⟩) 7 ca, .slice (some ⟨b, 1, none⟩) 7 cb]).run Try.prog w = .ok (.value (.int .i64 (cmpP p q))) w := by
  rw [run_callFunc_extern Try.func52 (by kernel_rfl) (by kernel_rfl) (by kernel_rfl) (e := Extern.BytealgCompare.compare) (by kernel_rfl)]
  have h1 := run_loadBytes (w := w) p.bs [] ⟨a, 1, none⟩ hp.h (cs_add ha)
  have h2 := run_loadBytes (w := w) q.bs [] ⟨b, 1, none⟩ hq.h (cs_add hb)
  rw [bs7, List.nil_append] at h1 h2
  have he : bA [] = ByteArray.empty := rfl
  rw [he] at h1 h2
  have h3 : (Extern.BytealgCompare.compare #[.slice (some ⟨a, 1, none⟩) 7 ca, .slice (some ⟨b, 1, none⟩) 7 cb]).run Try.prog w = .ok (.int .i64 (cmpP p q)) w := by
    change Sem.run Try.prog (do pure (goInt (Extern.BytealgCompare.cmp (← Extern.Bytes.bytesOf (.slice (some ⟨a, 1, none⟩) 7 ca)) (← Extern.Bytes.bytesOf (.slice (some ⟨b, 1, none⟩) 7 cb))))) w = _
    simp only [Extern.Bytes.bytesOf, Sem.run_bind, Sem.run_pure, Result.andThen, h1, h2, cmpP, goInt]
  rw [h3]
  rfl
end Go.Proofs.Ytpjeeccgpnpokaa
