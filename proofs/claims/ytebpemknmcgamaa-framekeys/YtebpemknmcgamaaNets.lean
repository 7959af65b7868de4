/- What a packet of either version tells, as one answer; the four Parses by it; the answer for a frame. Conditions: those of each theorem. -/
import Derived.Test.YtebpemknmcgamaaWords
import Derived.Test.YtebpemknmcgamaaEtherParse
import Derived.Test.YtebpemknmcgamaaInetParse
import Derived.Test.YtebpemknmcgamaaSixRefGo
import Derived.Test.YtebpemknmcgamaaPortsRef
namespace Go.Proofs.Ytebpemknmcgamaa
open Go.RowKit

/-- A reason; the protocol, whence, whither, the body, and whether it is no later piece. -/
structure Ans where
  r : Nat
  q : Int
  s : List Int
  d : List Int
  ks : List Int
  f : Bool
/-- What a packet tells. -/
def nt (v : Bool) (bs : List Int) : Ans :=
  if v then ⟨(six.tel bs).1, (six.tel bs).2.1, six.sr bs (six.tel bs).1, six.ds bs (six.tel bs).1, (six.tel bs).2.2.1, (six.tel bs).2.2.2⟩
  else if inet.why bs = 0 then ⟨0, bs.getD 9 0, inet.adr bs 12 4, inet.adr bs 16 4, inet.body bs, inet.first bs⟩ else ⟨inet.why bs, 0, zz, zz, [], false⟩
theorem nt_six (bs : List Int) : nt true bs = ⟨(six.tel bs).1, (six.tel bs).2.1, six.sr bs (six.tel bs).1, six.ds bs (six.tel bs).1, (six.tel bs).2.2.1, (six.tel bs).2.2.2⟩ := rfl
theorem nt_ok {bs : List Int} (h : inet.why bs = 0) : nt false bs = ⟨0, bs.getD 9 0, inet.adr bs 12 4, inet.adr bs 16 4, inet.body bs, inet.first bs⟩ := by simp [nt, h]
theorem nt_no {bs : List Int} (h : inet.why bs ≠ 0) : nt false bs = ⟨inet.why bs, 0, zz, zz, [], false⟩ := by simp [nt, h]
theorem six_long {bs : List Int} : (six.tel bs).1 = 0 → 40 ≤ bs.length := fun e => (six.why_fine (six.tel_why e)).1
theorem nt_src (v : Bool) (bs : List Int) : Sixteen (nt v bs).s := by
  cases v
  · by_cases h : inet.why bs = 0
    · rw [nt_ok h]
      exact inet.adr_sixteen (by have := (inet.why_fine h).1; omega) (by omega)
    · rw [nt_no h]; exact zz_sixteen
  · exact six.sr_sixteen six_long
theorem nt_dst (v : Bool) (bs : List Int) : Sixteen (nt v bs).d := by
  cases v
  · by_cases h : inet.why bs = 0
    · rw [nt_ok h]
      exact inet.adr_sixteen (by have := (inet.why_fine h).1; omega) (by omega)
    · rw [nt_no h]; exact zz_sixteen
  · exact six.ds_sixteen six_long
theorem nt_octs (v : Bool) {bs : List Int} (ho : Octs bs) : Octs (nt v bs).ks := by
  cases v
  · by_cases h : inet.why bs = 0
    · rw [nt_ok h]
      exact (ho.take _).drop _
    · rw [nt_no h]; exact Octs.nil
  · show Octs (six.tel bs).2.2.1
    unfold six.tel
    split
    · exact six.goes_octs ((ho.take _).drop _)
    · exact Octs.nil
theorem six_short {bs : List Int} : ∀ {k : Nat} {f : Bool} {p : Int} {ls : List Int}, ls.length ≤ bs.length → (six.goes k f p ls).2.2.1.length ≤ bs.length
  | k, false, p, ls, h => by rw [six.goes_false]; exact h
  | 0, true, p, ls, h => by
    rw [six.goes]
    split
    · exact Nat.zero_le _
    · exact h
  | k + 1, true, p, ls, h => by
    rw [six.goes]
    split
    · split
      · exact Nat.zero_le _
      · exact six_short (by rw [List.length_drop]; omega)
    · exact h
/-- The body is no longer than the packet. -/
theorem nt_short (v : Bool) {bs : List Int} {m : Nat} (h : bs.length ≤ m) : (nt v bs).ks.length ≤ m := by
  cases v
  · by_cases h0 : inet.why bs = 0
    · rw [nt_ok h0]
      show (inet.body bs).length ≤ m
      unfold inet.body
      rw [List.length_drop, List.length_take]
      omega
    · rw [nt_no h0]; exact Nat.zero_le _
  · show (six.tel bs).2.2.1.length ≤ m
    refine Nat.le_trans ?_ h
    unfold six.tel
    split
    · exact six_short (by unfold six.behind; rw [List.length_drop, List.length_take]; omega)
    · exact Nat.zero_le _
/-- What a Parse leaves. -/
def NetOut (w : World) (R : Ans) (e : Ending) (w' : World) : Prop :=
  ∃ A c, e = .returned (.tuple #[.agg (net R.q R.s R.d (.slice A R.ks.length c) R.f).toArray, .int .i64 ((R.r : Nat) : Int)]) ∧ Below w.heap.size w w' ∧ six.Bod w' A R.ks ∧ R.ks.length ≤ c
/-- What the document's Parse leaves. -/
def NetRef (I : Option Addr) (n : Nat) (bs : List Int) (w : World) (R : Ans) (e : Ending) (w' : World) : Prop :=
  ∃ A c, e = .returned (.tuple #[.agg (net R.q R.s R.d (.slice A R.ks.length c) R.f).toArray, .int .i64 ((R.r : Nat) : Int)]) ∧ Below w.heap.size w w' ∧ ∀ W, Byts W I n bs → Byts W A R.ks.length R.ks
section
variable (A : Option Addr) (n c : Nat) (bs : List Int) (w : World)
theorem body_much {bs : List Int} (h : inet.why bs = 0) : (inet.body bs).length = inet.much bs := by
  have := inet.why_fine h
  unfold inet.body inet.much
  simp
  omega
theorem four_any (h : Byts w A n bs) (ho : Octs bs) (hm : n ≤ 9223372036854775807) (hc : n ≤ c) : Calls Try.prog 42 #[.slice A n c] w (NetOut w (nt false bs)) := by
  by_cases hr : inet.why bs = 0
  · refine (inet.parse_ok A n c bs w h ho hm hc hr).mono ?_
    rintro e w' ⟨g, rfl, hb, _, hk⟩
    rw [nt_ok hr]
    refine ⟨some ⟨g, 0, none⟩, inet.much bs, ?_, hb, ?_, ?_⟩
    · rw [body_much hr]; rfl
    · exact .inr ⟨g, rfl, hk⟩
    · rw [body_much hr]; exact Nat.le_refl _
  · refine (inet.parse_no A n c _ bs w h ho hm hc rfl hr).mono ?_
    rintro e w' ⟨rfl, hb⟩
    rw [nt_no hr]
    exact ⟨none, 0, rfl, hb, six.Bod.none_, Nat.le_refl _⟩
theorem six_any (h : Byts w A n bs) (ho : Octs bs) (hm : n ≤ 9223372036854775807) (hc : n ≤ c) : Calls Try.prog 41 #[.slice A n c] w (NetOut w (nt true bs)) := by
  refine (six.parse_any A n c _ _ bs _ _ w h ho hm hc rfl).mono ?_
  rintro e w' ⟨A', c', rfl, hb, hk, hcap⟩
  exact ⟨A', c', rfl, hb, hk, hcap⟩
theorem refFour_any (h : Byts w A n bs) (ho : Octs bs) (hm : n ≤ 9223372036854775807) (hc : n ≤ c) : Calls Try.prog 20 #[.slice A n c] w (NetRef A n bs w (nt false bs)) := by
  by_cases hr : inet.why bs = 0
  · refine (inet.ref_ok A n c bs w h ho hm hc hr).mono ?_
    rintro e w' ⟨A', c', rfl, hb, hk⟩
    rw [nt_ok hr]
    refine ⟨A', c', ?_, hb, ?_⟩
    · rw [body_much hr]; rfl
    · rw [body_much hr]; exact hk
  · refine (inet.ref_no A n c _ bs w h ho hm hc rfl hr).mono ?_
    rintro e w' ⟨rfl, hb⟩
    rw [nt_no hr]
    exact ⟨none, 0, rfl, hb, fun _ _ => Byts.none_⟩
theorem refSix_any (h : Byts w A n bs) (ho : Octs bs) (hm : n ≤ 9223372036854775807) (hc : n ≤ c) : Calls Try.prog 19 #[.slice A n c] w (NetRef A n bs w (nt true bs)) := by
  refine (six.ref_any A n c _ _ bs _ _ w h ho hm hc rfl).mono ?_
  rintro e w' ⟨A', c', rfl, hb, hk⟩
  exact ⟨A', c', rfl, hb, hk⟩
end

/-- A frame's packet, or a reason. -/
def pk (bs : List Int) : List Value × Nat :=
  if 9216 < bs.length then (pak0, 7) else
  let L := ether.look bs 3 12
  if L.2.2 ≠ 0 then (pak0, L.2.2) else
  let R := nt L.1 (bs.drop L.2.1)
  if R.r ≠ 0 then (pak0, R.r) else
  let Q := ports.look L.1 R.q R.f R.ks
  if Q.2.2 ≠ 0 then (pak0, Q.2.2) else (pak bs.length L.1 R.q R.s R.d Q.1 Q.2.1, 0)
section
variable {bs : List Int} {v : Bool} {a r : Nat} {R : Ans} {x y z : Nat}
theorem pk_long (h : 9216 < bs.length) : pk bs = (pak0, 7) := by simp [pk, h]
theorem pk_link (h : bs.length ≤ 9216) (hL : ether.look bs 3 12 = (v, a, r)) (h0 : r ≠ 0) : pk bs = (pak0, r) := by
  unfold pk
  rw [if_neg (by omega)]
  simp [hL, h0]
theorem pk_net (h : bs.length ≤ 9216) (hL : ether.look bs 3 12 = (v, a, 0)) (hR : nt v (bs.drop a) = R) (h0 : R.r ≠ 0) : pk bs = (pak0, R.r) := by
  unfold pk
  rw [if_neg (by omega)]
  simp [hL, hR, h0]
theorem pk_port (h : bs.length ≤ 9216) (hL : ether.look bs 3 12 = (v, a, 0)) (hR : nt v (bs.drop a) = R) (hr : R.r = 0) (hQ : ports.look v R.q R.f R.ks = (x, y, z)) (h0 : z ≠ 0) : pk bs = (pak0, z) := by
  unfold pk
  rw [if_neg (by omega)]
  simp [hL, hR, hr, hQ, h0]
theorem pk_fine (h : bs.length ≤ 9216) (hL : ether.look bs 3 12 = (v, a, 0)) (hR : nt v (bs.drop a) = R) (hr : R.r = 0) (hQ : ports.look v R.q R.f R.ks = (x, y, 0)) : pk bs = (pak bs.length v R.q R.s R.d x y, 0) := by
  unfold pk
  rw [if_neg (by omega)]
  simp [hL, hR, hr, hQ]
end
end Go.Proofs.Ytebpemknmcgamaa
