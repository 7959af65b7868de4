/- Gens on plain numbers: where a flow is, what a key and a step leave, its bins. Conditions: those of each theorem. -/
import Derived.Test.YtfhlgmmfknfamaaFlos
namespace Go.Proofs.Ytfhlgmmfknfamaa
open Go.RowKit

def i64 (z : Int) : Prop := -9223372036854775808 ≤ z ∧ z ≤ 9223372036854775807
/-- A key. -/
structure Key where
  s : List Int
  h : s.length = 16
def Key.Ok (k : Key) : Prop := ∀ z ∈ k.s, byt z
def key0 : Key := ⟨z16, by simp [z16]⟩
theorem key0_ok : key0.Ok := fun z hz => by
  have : z = 0 := List.eq_of_mem_replicate hz
  subst this
  exact ⟨by omega, by omega⟩
abbrev Key.cs (k : Key) : List Value := cel k.s
theorem key16 (k : Key) : k.cs.length = 16 := by rw [cel_length, k.h]
theorem cel_each (s : List Int) : ∀ u ∈ cel s, u.oneCell' = true := by
  intro u hu
  obtain ⟨z, _, rfl⟩ := List.mem_map.1 hu
  rfl
def kKey : Kin Key := ⟨Key.cs, 16, by decide, key16, fun k => cel_each k.s⟩
def kInt : Kin Int := ⟨fun z => [.int .i64 z], 1, by decide, fun _ => rfl, fun z u hu => by
  have : u = .int .i64 z := by simpa using hu
  rw [this]; rfl⟩
/-- Whither a flow falls: layer 13's answers. -/
structure Ks where
  bk : Key → Flo → Nat → Nat
  bi : Key → Flo → Int → Int → List Int
  lt : ∀ k f n, 1 ≤ n → bk k f n < n
  len : ∀ k f l n, (bi k f l n).length = (min (max l 0) 4).toNat
  bd : ∀ k f l n, 1 ≤ n → ∀ z ∈ bi k f l n, 0 ≤ z ∧ z < n
/-- Two generations: how many buckets, both keys, which one is old, how many are moved, how often all were. -/
structure St where
  n : Nat
  a : Key
  b : Key
  o : Bool
  mv : Option Nat
  ep : Nat
structure St.Ok (S : St) : Prop where
  n1 : 1 ≤ S.n
  n2 : S.n ≤ 64
  a : S.a.Ok
  b : S.b.Ok
  mv : ∀ m, S.mv = some m → m < S.n
  ep : S.ep ≤ 9223372036854775806
def nm (g : Bool) : Nat := if g then 1 else 0
def St.key (S : St) (g : Bool) : Key := if g then S.b else S.a
def st0 (n : Nat) (k : Key) : St := ⟨n, k, key0, false, none, 0⟩
def gen (K : Ks) (S : St) (f : Flo) : Bool := if K.bk (S.key S.o) f S.n < S.mv.getD 0 then !S.o else S.o
def cls (K : Ks) (S : St) (f : Flo) : Nat := nm (gen K S f) * S.n + K.bk (S.key (gen K S f)) f S.n
def rek (S : St) (k : Key) : St := match S.mv with
  | some _ => S
  | none => if S.o then { S with a := k, mv := some 0 } else { S with b := k, mv := some 0 }
def rekE (S : St) : Int := if S.mv.isSome then 4 else 0
def stp (S : St) : St := match S.mv with
  | none => S
  | some m => if m + 1 = S.n then { S with mv := none, o := !S.o, ep := S.ep + 1 } else { S with mv := some (m + 1) }
def stpC (S : St) : Nat := match S.mv with
  | none => 0
  | some m => nm S.o * S.n + m
def binS (K : Ks) (S : St) (g : Int) (f : Flo) (l n : Int) : List Int := if g = nm S.o ∨ (g = nm (!S.o) ∧ S.mv.isSome) then K.bi (S.key (decide (g = 1))) f l n else []
section
variable {K : Ks} {S : St} {f : Flo} {k : Key} {n : Nat}
theorem st0_ok (h1 : 1 ≤ n) (h2 : n ≤ 64) (hk : k.Ok) : (st0 n k).Ok := ⟨h1, h2, hk, key0_ok, fun m h => (by cases h), by show (0 : Nat) ≤ _; omega⟩
theorem St.Ok.key (h : S.Ok) (g : Bool) : (S.key g).Ok := by
  unfold St.key
  split
  · exact h.b
  · exact h.a
theorem rek_ok (h : S.Ok) (hk : k.Ok) : (rek S k).Ok := by
  unfold rek
  split
  · exact h
  · split
    · exact ⟨h.n1, h.n2, hk, h.b, fun m e => (by cases e; exact h.n1), h.ep⟩
    · exact ⟨h.n1, h.n2, h.a, hk, fun m e => (by cases e; exact h.n1), h.ep⟩
theorem stp_ok (h : S.Ok) (he : S.ep ≤ 1000000) : (stp S).Ok := by
  unfold stp
  split
  · exact h
  · rename_i m hm
    split
    · exact ⟨h.n1, h.n2, h.a, h.b, fun m e => (by cases e), by show S.ep + 1 ≤ _; omega⟩
    · refine ⟨h.n1, h.n2, h.a, h.b, fun m' e => ?_, h.ep⟩
      have h1 := h.mv m hm
      have : m' = m + 1 := by simpa using e.symm
      show m' < S.n
      omega
theorem rek_none (h : S.mv = none) : (rek S k).n = S.n ∧ (rek S k).o = S.o ∧ (rek S k).mv = some 0 ∧ (rek S k).ep = S.ep ∧ (rek S k).key S.o = S.key S.o ∧ (rek S k).key (!S.o) = k := by
  unfold rek St.key
  rw [h]
  cases S.o <;> simp
theorem gen_none (h : S.mv = none) : gen K S f = S.o := by simp [gen, h]
theorem gen_some {m : Nat} (h : S.mv = some m) : gen K S f = if K.bk (S.key S.o) f S.n < m then !S.o else S.o := by simp [gen, h]
/-- Its bins are there. -/
theorem bins_there (l n : Int) : binS K S (nm (gen K S f)) f l n = K.bi (S.key (gen K S f)) f l n := by
  have h1 : ∀ g : Bool, decide ((nm g : Int) = 1) = g := fun g => by cases g <;> rfl
  have h2 : ((nm (gen K S f) : Nat) : Int) = nm S.o ∨ (((nm (gen K S f) : Nat) : Int) = nm (!S.o) ∧ S.mv.isSome = true) := by
    unfold gen
    split
    · rename_i h
      refine .inr ⟨rfl, ?_⟩
      rcases hm : S.mv with _ | m
      · rw [hm] at h
        simp at h
      · rfl
    · exact .inl rfl
  unfold binS
  rw [if_pos h2, h1]
theorem cls_bd (h : S.Ok) : nm (gen K S f) * S.n ≤ cls K S f ∧ cls K S f < (nm (gen K S f) + 1) * S.n := by
  have := K.lt (S.key (gen K S f)) f S.n h.n1
  unfold cls
  rw [Nat.add_mul, Nat.one_mul]
  omega
/-- j steps behind a key. -/
def stps (S : St) : Nat → St
  | 0 => S
  | j + 1 => stp (stps S j)
theorem stps_n (S : St) : ∀ j, (stps S j).n = S.n
  | 0 => rfl
  | j + 1 => by
    have ih := stps_n S j
    show (stp (stps S j)).n = _
    unfold stp
    split
    · exact ih
    · split <;> exact ih
theorem stps_key (S : St) (g : Bool) : ∀ j, (stps S j).key g = S.key g
  | 0 => rfl
  | j + 1 => by
    have ih := stps_key S g j
    show (stp (stps S j)).key g = _
    unfold stp
    split
    · exact ih
    · split <;> exact ih
theorem stps_mv (h : S.mv = some 0) (h1 : 1 ≤ S.n) : ∀ j, (j < S.n → (stps S j).mv = some j ∧ (stps S j).o = S.o ∧ (stps S j).ep = S.ep) ∧ (S.n ≤ j → (stps S j).mv = none ∧ (stps S j).o = !S.o ∧ (stps S j).ep = S.ep + 1)
  | 0 => ⟨fun _ => ⟨h, rfl, rfl⟩, fun h2 => by omega⟩
  | j + 1 => by
    have ih := stps_mv h h1 j
    have hn := stps_n S j
    have e : stps S (j + 1) = stp (stps S j) := rfl
    rw [e]
    by_cases hj : j < S.n
    · obtain ⟨i1, i2, i3⟩ := ih.1 hj
      unfold stp
      rw [i1]
      simp only [hn]
      by_cases hj2 : j + 1 = S.n
      · rw [if_pos hj2]
        exact ⟨fun h3 => by omega, fun _ => ⟨rfl, by show (!(stps S j).o) = _; rw [i2], by show (stps S j).ep + 1 = _; rw [i3]⟩⟩
      · rw [if_neg hj2]
        exact ⟨fun _ => ⟨rfl, i2, i3⟩, fun h3 => by omega⟩
    · obtain ⟨i1, i2, i3⟩ := ih.2 (by omega)
      unfold stp
      rw [i1]
      exact ⟨fun h3 => by omega, fun _ => ⟨i1, i2, i3⟩⟩
theorem stps_ok (h : S.Ok) (he : S.ep ≤ 1000) (hm : S.mv = some 0) : ∀ j, (stps S j).Ok
  | 0 => h
  | j + 1 => stp_ok (stps_ok h he hm j) (by
    have := stps_mv hm h.n1 j
    by_cases hj : j < S.n
    · rw [(this.1 hj).2.2]; omega
    · rw [(this.2 (by omega)).2.2]; omega)
end
end Go.Proofs.Ytfhlgmmfknfamaa
