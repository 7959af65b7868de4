/- Two flows have the same key just if they are the same: plain lists and texts. Conditions: those of each theorem. -/
import Derived.Test.YtebpemknmcgamaaPadsWalk
import Derived.Test.YtebpemknmcgamaaKeysWalk
namespace Go.Proofs.Ytebpemknmcgamaa
open Go.RowKit

/-- Of IPv4: noughts behind the first four. -/
def Tail (v : Bool) (s : List Int) : Prop := v = false → s.drop 4 = List.replicate 12 0
theorem tail_eq {s s' : List Int} (h : s.drop 4 = List.replicate 12 0) (h' : s'.drop 4 = List.replicate 12 0) (e : s.take 4 = s'.take 4) : s = s' := by
  rw [← List.take_append_drop 4 s, ← List.take_append_drop 4 s', h, h', e]
theorem nt_tail (v : Bool) (bs : List Int) : Tail v (nt v bs).s ∧ Tail v (nt v bs).d := by
  have key : ∀ p, inet.why bs = 0 → p + 4 ≤ 20 → (inet.adr bs p 4).drop 4 = List.replicate 12 0 := fun p h hp => by
    have hl := (inet.why_fine h).1
    unfold inet.adr
    rw [List.drop_append_of_le_length (by simp; omega), List.drop_of_length_le (by simp; omega)]
    rfl
  cases v
  · by_cases h : inet.why bs = 0
    · rw [nt_ok h]
      exact ⟨fun _ => key 12 h (by omega), fun _ => key 16 h (by omega)⟩
    · rw [nt_no h]
      exact ⟨fun _ => rfl, fun _ => rfl⟩
  · exact ⟨(fun h => by cases h), (fun h => by cases h)⟩
theorem key_inj {v v' : Bool} {p p' : Int} {s s' d d' : List Int} {a a' b b' : Nat} (hs : Sixteen s) (hd : Sixteen d) (hs' : Sixteen s') (hd' : Sixteen d') (t : Tail v s) (u : Tail v d) (t' : Tail v' s') (u' : Tail v' d') (e : key v p s d a b = key v' p' s' d' a' b') :
    v = v' ∧ p = p' ∧ s = s' ∧ d = d' ∧ a = a' ∧ b = b' := by
  unfold Sixteen at *
  unfold key at e
  simp only [List.cons.injEq] at e
  obtain ⟨e1, e2, e3⟩ := e
  have hv : v = v' := by
    cases v <;> cases v' <;> simp_all
  subst hv
  have hl : (s.take (if v = true then 16 else 4)).length = (s'.take (if v = true then 16 else 4)).length := by simp [hs, hs']
  obtain ⟨e4, e5⟩ := List.append_inj e3 hl
  have hl2 : (d.take (if v = true then 16 else 4)).length = (d'.take (if v = true then 16 else 4)).length := by simp [hd, hd']
  obtain ⟨e6, e7⟩ := List.append_inj e5 hl2
  simp only [List.cons.injEq, and_true] at e7
  have es : s = s' := by
    cases v
    · exact tail_eq (t rfl) (t' rfl) e4
    · simpa [List.take_of_length_le, hs, hs'] using e4
  have ed : d = d' := by
    cases v
    · exact tail_eq (u rfl) (u' rfl) e6
    · simpa [List.take_of_length_le, hd, hd'] using e6
  exact ⟨rfl, e2, es, ed, by omega, by omega⟩
theorem key_octs {v : Bool} {p : Int} {s d : List Int} {a b : Nat} (os : Octs s) (od : Octs d) (hp : 0 ≤ p ∧ p ≤ 255) (ha : a ≤ 65535) (hb : b ≤ 65535) : Octs (key v p s d a b) := by
  intro z hz
  unfold key at hz
  simp only [List.mem_cons, List.mem_append, List.not_mem_nil, or_false] at hz
  rcases hz with rfl | rfl | h | h | rfl | rfl | rfl | rfl
  · split <;> omega
  · exact hp
  · exact os.take _ z h
  · exact od.take _ z h
  · omega
  · omega
  · omega
  · omega
theorem text_inj {xs ys : List Int} (hx : Octs xs) (hy : Octs ys) (h : strOfNums xs = strOfNums ys) : xs = ys := by
  have h1 := congrArg (fun t => t.data.toList.map fun b => (b.toNat : Int)) h
  simp only [strOfNums_data, List.map_map] at h1
  have k : ∀ l : List Int, Octs l → l.map ((fun b : UInt8 => (b.toNat : Int)) ∘ fun n => UInt8.ofNat n.toNat) = l := fun l hl => by
    conv => rhs; rw [← List.map_id l]
    apply List.map_congr_left
    intro z hz
    have := hl z hz
    simp
    omega
  rwa [k xs hx, k ys hy] at h1
theorem text_same {xs ys : List Int} (hx : Octs xs) (hy : Octs ys) : ((strOfNums xs).toList == (strOfNums ys).toList) = decide (xs = ys) := by
  rw [Bool.eq_iff_iff]
  simp only [beq_iff_eq, decide_eq_true_eq]
  rw [ByteArray.toList_eq, ByteArray.toList_eq]
  constructor
  · intro h
    exact text_inj hx hy (WideShapes.bytes_inj h)
  · rintro rfl
    rfl
/-- What a frame that is fine tells. -/
structure Fine (n : Nat) (P : List Value) (v : Bool) (q : Int) (s d : List Int) (x y : Nat) : Prop where
  eq : P = pak n v q s d x y
  s1 : Sixteen s
  s2 : Sixteen d
  o1 : Octs s
  o2 : Octs d
  hq : 0 ≤ q ∧ q ≤ 255
  hx : x ≤ 65535
  hy : y ≤ 65535
  t1 : Tail v s
  t2 : Tail v d
theorem pk_tells {bs : List Int} {P : List Value} (ho : Octs bs) (h : pk bs = (P, 0)) : ∃ v q s d x y, Fine bs.length P v q s d x y := by
  by_cases h1 : 9216 < bs.length
  · rw [pk_long h1] at h
    simp at h
  · obtain ⟨⟨v, a, r8⟩, hL⟩ : ∃ R, ether.look bs 3 12 = R := ⟨_, rfl⟩
    by_cases h8 : r8 = 0
    · subst h8
      obtain ⟨R, hR⟩ : ∃ R, nt v (bs.drop a) = R := ⟨_, rfl⟩
      by_cases h9 : R.r = 0
      · obtain ⟨⟨x, y, z⟩, hQ⟩ : ∃ Q, ports.look v R.q R.f R.ks = Q := ⟨_, rfl⟩
        by_cases h11 : z = 0
        · subst h11
          rw [pk_fine (by omega) hL hR h9 hQ] at h
          simp only [Prod.mk.injEq, and_true] at h
          subst h
          have hm := nt_more v (ho.drop a)
          have hk := nt_octs v (ho.drop a)
          have s1 := nt_src v (bs.drop a)
          have s2 := nt_dst v (bs.drop a)
          have tt := nt_tail v (bs.drop a)
          rw [hR] at hm hk s1 s2 tt
          obtain ⟨bx, by_, _⟩ := ports.look_cases hk hQ
          exact ⟨v, R.q, R.s, R.d, x, y, rfl, s1, s2, hm.1, hm.2.1, hm.2.2, bx, by_, tt.1, tt.2⟩
        · rw [pk_port (by omega) hL hR h9 hQ h11] at h
          simp only [Prod.mk.injEq] at h
          exact absurd h.2 h11
      · rw [pk_net (by omega) hL hR h9] at h
        simp only [Prod.mk.injEq] at h
        exact absurd h.2 h9
    · rw [pk_link (by omega) hL h8] at h
      simp only [Prod.mk.injEq] at h
      exact absurd h.2 h8
theorem pak_flow {w : World} {g : Nat} {t : TypeId} {n : Nat} {v : Bool} {p : Int} {s d : List Int} {a b : Nat} (h : Blk w g t (pak n v p s d a b)) : w.rangeAt g 1 (flo v p s d a b) := by
  intro j u hu
  have hj := (List.getElem?_eq_some_iff.1 hu).1
  rw [h.cell, pak, Nat.add_comm, List.getElem?_cons_succ, List.getElem?_append_left hj]
  exact hu
/-- The same keys just if the same flows. -/
theorem keys_same {n n' : Nat} {P P' : List Value} {v v' : Bool} {p p' : Int} {s s' d d' : List Int} {a a' b b' : Nat} (h : Fine n P v p s d a b) (h' : Fine n' P' v' p' s' d' a' b') :
    ((strOfNums (key v p s d a b)).toList == (strOfNums (key v' p' s' d' a' b')).toList) = decide (v = v' ∧ p = p' ∧ s = s' ∧ d = d' ∧ a = a' ∧ b = b') := by
  rw [text_same (key_octs h.o1 h.o2 h.hq h.hx h.hy) (key_octs h'.o1 h'.o2 h'.hq h'.hx h'.hy), Bool.eq_iff_iff]
  simp only [decide_eq_true_eq]
  constructor
  · exact key_inj h.s1 h.s2 h'.s1 h'.s2 h.t1 h.t2 h'.t1 h'.t2
  · rintro ⟨rfl, rfl, rfl, rfl, rfl, rfl⟩
    rfl
end Go.Proofs.Ytebpemknmcgamaa
