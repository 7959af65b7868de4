/- Rows of entries that are one's own, some cells of one changed; what taking leaves. Conditions: those of each theorem. -/
import Derived.Test.YtpjeeccgpnpokaaFind
import Derived.Test.YtpjeeccgpnpokaaUntil
namespace Go.Proofs.Ytpjeeccgpnpokaa
open Go.RowKit

/-- An own row's block. -/
theorem Ow.blk {α : Type} {K : Kin α} {e : TypeId} {base b : Nat} {v : Value} {L : List α} {w : World} (h : Ow K e base v L w) (hb : v.ownBlock = some b) : ∃ q c R, v = .slice (some ⟨q, 0, none⟩) L.length c ∧ base ≤ q ∧ L.length ≤ c ∧ Blk w q e (K.flat L ++ R) := by
  rcases h.2 with ⟨rfl, _⟩ | ⟨g, cap, cur, rfl, hb, hg, hc, _, _, ht⟩
  · simp [Value.ownBlock] at hb
  · refine ⟨g, cap, cur.toList.drop (L.length * K.n), rfl, hb, hc, ?_⟩
    unfold Blk
    rw [hg, ← ht, List.take_append_drop]
theorem Els.blk {α : Type} {K : Kin α} {L : List α} {R : List Value} {w : World} {q : Nat} {t : TypeId} (h : Blk w q t (K.flat L ++ R)) : Els K w (some ⟨q, 0, none⟩) L :=
  Els.of_flat (fun j u hj => by rw [Nat.zero_add, h.cell, List.getElem?_append_left (List.getElem?_eq_some_iff.1 hj).1]; exact hj)
theorem flat_mid {α : Type} {K : Kin α} {L : List α} {k i : Nat} {s s' : α} {vs R : List Value} (h : L[k]? = some s) (hl : i + vs.length ≤ K.n) (hc : K.cs s' = (K.cs s).take i ++ (vs ++ (K.cs s).drop (i + vs.length))) :
    (K.flat L ++ R).take (k * K.n + i) ++ (vs ++ (K.flat L ++ R).drop (k * K.n + i + vs.length)) = K.flat (L.set k s') ++ R := by
  have hk := (List.getElem?_eq_some_iff.1 h).1
  have hp := Kin.take_len (K := K) (L := L) (k := k) (by omega)
  have h1 : (L.set k s')[k]? = some s' := by simp [hk]
  have e1 : (L.set k s').take k = L.take k := by
    apply List.ext_getElem?
    intro j
    simp only [List.getElem?_take, List.getElem?_set]
    split
    · rw [if_neg (by omega)]
    · rfl
  have e2 : (L.set k s').drop (k + 1) = L.drop (k + 1) := by
    apply List.ext_getElem?
    intro j
    simp only [List.getElem?_drop, List.getElem?_set]
    rw [if_neg (by omega)]
  have hs := K.len s
  rw [Kin.flat_split h, Kin.flat_split h1, e1, e2, hc]
  generalize K.flat (L.take k) = P at *
  generalize K.flat (L.drop (k + 1)) = Q at *
  generalize K.cs s = X at *
  rw [show (P ++ (X ++ Q)) ++ R = P ++ (X ++ (Q ++ R)) by simp, ← hp, List.take_length_add_append, Nat.add_assoc, List.drop_length_add_append]
  rw [List.take_append_of_le_length (by omega), List.drop_append_of_le_length (by omega)]
  simp
/-- What taking leaves of an entry. -/
def tk (C : Cfg) (e : Ent) (x n : Int) : Ent := ⟨e.p, e.u, lef C.r (C.b * 1048576) e.l e.m (clm x) n, max e.m (clm x)⟩
def tkK (C : Cfg) (e : Ent) (x n : Int) : Bool := okT C.r (C.b * 1048576) e.l e.m (clm x) n
def takeS (C : Cfg) (S : List Ent) (p : Pre) (x n : Int) : List Ent := if has S p then S.set (idx S p) (tk C (at_ S (idx S p)) x n) else S
def takeK (C : Cfg) (S : List Ent) (p : Pre) (x n : Int) : Bool := if has S p then tkK C (at_ S (idx S p)) x n else false
def toks (C : Cfg) (l m : Int) : List Value := [.int .i64 C.r, .int .i64 C.b, .int .i64 l, .int .i64 m]
theorem toks_each (C : Cfg) (l m : Int) : ∀ u ∈ toks C l m, u.oneCell' = true := by
  intro u hu
  simp only [toks, List.mem_cons, List.not_mem_nil, or_false] at hu
  rcases hu with h | h | h | h <;> (rw [h]; rfl)
theorem size73 (C : Cfg) (l m : Int) : (Try.prog.info? 72).map (·.size) = some (toks C l m).length := by kernel_rfl
/-- The tokens of an entry of an own row. -/
theorem row_toks {w : World} {q j : Nat} {S : List Ent} {C : Cfg} {R : List Value} (h : Blk w q 77 ((kEnt C.r C.b).flat S ++ R)) (hj : j < S.length) : w.rangeAt q (j * 13 + 9) (toks C (at_ S j).l (at_ S j).m) := fun i v hv => by
  have hi : i < 4 := (List.getElem?_eq_some_iff.1 hv).1
  have e := Kin.flat_at (K := kEnt C.r C.b) (at_some hj) (i := 9 + i) (by show 9 + i < 13; omega)
  have hm := Nat.mul_le_mul_right 13 (show j + 1 ≤ S.length from hj)
  have hlt : j * 13 + (9 + i) < ((kEnt C.r C.b).flat S).length := by
    rw [Kin.flat_length]
    show _ < S.length * 13
    omega
  rw [show j * 13 + 9 + i = j * 13 + (9 + i) by omega, h.cell, List.getElem?_append_left hlt]
  refine e.trans ?_
  match i, hi, hv with
  | 0, _, hv => exact hv
  | 1, _, hv => exact hv
  | 2, _, hv => exact hv
  | 3, _, hv => exact hv
theorem row_turn {w : World} {q j : Nat} {S : List Ent} {C : Cfg} {R : List Value} {l m : Int} (h : Blk w q 77 ((kEnt C.r C.b).flat S ++ R)) (hj : j < S.length) : Blk (w.setCells q (j * 13 + 9) (toks C l m)) q 77 ((kEnt C.r C.b).flat (S.set j ⟨(at_ S j).p, (at_ S j).u, l, m⟩) ++ R) := by
  have hfit : j * 13 + 9 + (toks C l m).length ≤ ((kEnt C.r C.b).flat S ++ R).length := by
    rw [List.length_append, Kin.flat_length]
    show j * 13 + 9 + 4 ≤ S.length * 13 + _
    have := Nat.mul_le_mul_right 13 (show j + 1 ≤ S.length from hj)
    omega
  have hb := Blk.setCells (toks C l m) _ (j * 13 + 9) w h hfit
  have e := flat_mid (K := kEnt C.r C.b) (s := at_ S j) (s' := ⟨(at_ S j).p, (at_ S j).u, l, m⟩) (vs := toks C l m) (R := R) (i := 9) (at_some hj) (by show 9 + 4 ≤ 13; omega) (by rfl)
  have e2 : ((kEnt C.r C.b).flat S ++ R).take (j * 13 + 9) ++ (toks C l m ++ ((kEnt C.r C.b).flat S ++ R).drop (j * 13 + 9 + (toks C l m).length)) = _ := e
  rw [e2] at hb
  exact hb
theorem there_of {w : World} {q o : Nat} {t : TypeId} {cs vs : List Value} (h : Blk w q t cs) (hr : w.rangeAt q o vs) : w.there q o vs.length := fun j hj => ⟨by
  rw [hr j vs[j] (by simp [hj])]; rfl, h.frozen _⟩
/-- Number k has come up: nothing is asked of the world any more. -/
theorem til_switch {P : Program} {ops : Array Oper} {Q : Exit → Act → World → Prop} {md : Region.Mode} {S : World → Prop} {k : Nat} (k' : Nat) : ∀ {n : Nat} {l : Array Bool} {a : Act} {w : World}, l.getD k true = true → Til P md ops Q (fun _ => True) k' n l a w → Til P md ops Q S k n l a w
  | 0, _, _, _, _, h => h
  | n + 1, l, _, _, hl, h => ⟨h.1, fun i hi => wpOp_mono (fun a' w' h' => by
      have hl' : (l.setIfInBounds i true).getD k true = true := by
        by_cases e : i = k
        · subst e
          rcases Nat.lt_or_ge i l.size with h1 | h1
          · simp [Array.getD_eq_getD_getElem?, h1]
          · simp [Array.getD_eq_getD_getElem?]
        · rw [getD_set_ne true e]; exact hl
      exact ⟨fun e => (by rw [hl'] at e; cases e), til_switch k' hl' h'.2⟩) (h.2 i hi)⟩
theorem til_two {P : Program} {ops : Array Oper} {Q : Exit → Act → World → Prop} {md : Region.Mode} {S : World → Prop} {k i j n : Nat} {o o' : Oper} {l : Array Bool} {a : Act} {w : World} (hr : Region.ready md ops l = [i, j]) (ho : ops[i]? = some o) (ho' : ops[j]? = some o')
    (h : ∀ K' : Act → World → Prop, Hid (∀ a w, ((l.setIfInBounds i true).getD k true = false → S w) → Til P md ops Q S k n (l.setIfInBounds i true) a w → K' a w) →
      if Region.wanted o (yielded ops a.tmps) = true then Oper.wp P o a w K' Q else K' (a.put o.dst undef) w)
    (h' : ∀ K' : Act → World → Prop, Hid (∀ a w, ((l.setIfInBounds j true).getD k true = false → S w) → Til P md ops Q S k n (l.setIfInBounds j true) a w → K' a w) →
      if Region.wanted o' (yielded ops a.tmps) = true then Oper.wp P o' a w K' Q else K' (a.put o'.dst undef) w) : Til P md ops Q S k (n + 1) l a w := by
  refine ⟨fun h0 => (by rw [hr] at h0; cases h0), fun x hx => ?_⟩
  rw [hr, List.mem_cons, List.mem_singleton] at hx
  rcases hx with rfl | rfl
  · exact wpOp_step ho fun K' hK => h K' fun a w hS hT => hK a w ⟨hS, hT⟩
  · exact wpOp_step ho' fun K' hK => h' K' fun a w hS hT => hK a w ⟨hS, hT⟩
theorem Hd.past {w W W' : World} {S : List Ent} {C : Cfg} {p : Pre} {A : Option Addr} {c q : Nat} (h : Hd w S C p A c W) (hf : Far (only q) W W') (hq : w.heap.size + 3 ≤ q) (hA : ∀ ad, A = some ad → ad.block ≠ q) : Hd w S C p A c W' :=
  ⟨h.b.far hf (fun e => by have e2 : w.heap.size = q := e; omega), h.p.far hf (fun e => by have e2 : w.heap.size + 1 = q := e; omega), h.r.far hf (fun e => by have e2 : w.heap.size + 2 = q := e; omega), h.els.far hf (fun q' o e n => hA _ e n), h.cap,
    h.be.trans (hf.below h.be.size (fun k hk e => by have e2 : k = q := e; omega)), fun ad e => ⟨(h.fr ad e).1, Nat.lt_of_lt_of_le (h.fr ad e).2 hf.size⟩⟩
theorem step_storeM {ops : Array Oper} {o : Oper} {a : Act} {w : World} {K : Act → World → Prop} {Q : Exit → Act → World → Prop} {E : Prop} (hw : Region.wanted o (yielded ops a.tmps) = true) (ty : TypeId) (x y : Operand) (ho : o.op = .store ty x y)
    (b off : Nat) (cells : Array Value) (hx : a.eval x = .pointer (some ⟨b, off, none⟩)) (hy : a.eval y = .agg cells) (ht : w.there b off cells.size) (hi : (Try.prog.info? ty).map (·.size) = some cells.size) (h1 : cells.all (·.oneCell') = true)
    (h : K (a.put o.dst undef) (w.setCells b off cells.toList)) : if Region.wanted o (yielded ops a.tmps) = true then Oper.wp Try.prog o a w K Q else E := by
  rw [if_pos hw]
  exact wp_store_mid ty x y ho b off cells hx hy ht hi h1 h
end Go.Proofs.Ytpjeeccgpnpokaa
