/- Small words for rows of entries: one cell changed; a load of a whole entry. Conditions: those of each theorem. -/
import Derived.Test.YteddnbabgahhfaaDeleI
import Derived.Test.YteddnbabgahhfaaDeleS
import Derived.Test.YteddnbabgahhfaaFindI
import Derived.Test.YteddnbabgahhfaaFindS
import Derived.Test.YteddnbabgahhfaaUntil
namespace Go.Proofs.Yteddnbabgahhfaa
open Go.RowKit

theorem flat_cell {K : Kin Ent} {X : List Ent} {k i : Nat} {s s' : Ent} {u : Value} (h : X[k]? = some s) (hi : i < K.n) (hc : K.cs s' = (K.cs s).set i u) : (K.flat X).set (k * K.n + i) u = K.flat (X.set k s') := by
  have hk := (List.getElem?_eq_some_iff.1 h).1
  have hl := Kin.take_len (K := K) (L := X) (k := k) (by omega)
  have h1 : (X.set k s')[k]? = some s' := by simp [hk]
  have e1 : (X.set k s').take k = X.take k := by
    apply List.ext_getElem?
    intro j
    simp only [List.getElem?_take, List.getElem?_set]
    split
    · rw [if_neg (by omega)]
    · rfl
  have e2 : (X.set k s').drop (k + 1) = X.drop (k + 1) := by
    apply List.ext_getElem?
    intro j
    simp only [List.getElem?_drop, List.getElem?_set]
    rw [if_neg (by omega)]
  rw [Kin.flat_split h, Kin.flat_split h1, e1, e2, List.set_append_right _ _ (by omega), hl, show k * K.n + i - k * K.n = i by omega, List.set_append_left _ _ (by rw [K.len]; exact hi), hc]
theorem TbAt.one {K : Kin Ent} {tS tE : TypeId} {w : World} {g q n : Nat} {L : List Ent} (h : TbAt K tS tE w g q n L) (hn : K.n = 9) {k : Nat} (hk : k < L.length) {v : Int} {u : Value} (hc : K.cs ⟨(at_ L k).p, v⟩ = (K.cs (at_ L k)).set 8 u) :
    TbAt K tS tE (w.setCell ⟨q, k * 9 + 8, none⟩ u) g q n (L.set k ⟨(at_ L k).p, v⟩) ∧ Far (two g q) w (w.setCell ⟨q, k * 9 + 8, none⟩ u) := by
  have hx : (L ++ zs (n - L.length))[k]? = some (at_ L k) := by rw [List.getElem?_append_left hk]; exact at_some hk
  have hb := h.row.set_ (k * 9 + 8) u
  have e := flat_cell (K := K) (i := 8) hx (by omega) hc
  rw [hn] at e
  rw [e, row_set hk] at hb
  refine ⟨⟨?_, hb, h.ne, by rw [List.length_set]; exact h.fit, h.pos, h.le, h.srt.set_ rfl⟩, (Far.refl _ w).set_ (p := ⟨q, k * 9 + 8, none⟩) (fun _ => .inr rfl) u⟩
  rw [List.length_set]
  exact h.head.other (p := ⟨q, k * 9 + 8, none⟩) h.ne u
/-- What Put and Del leave. -/
def ActT (K : Kin Ent) (tS tE : TypeId) (g q n : Nat) (L' : List Ent) (v : Value) (w : World) (e : Ending) (w' : World) : Prop := e = .returned v ∧ TbAt K tS tE w' g q n L' ∧ Far (two g q) w w'
section
variable {ops : Array Oper} {rest : List Oper} {o : Oper} {a : Act} {w : World} {Q : Exit → Act → World → Prop}
theorem wpList_loadE (hw : Region.wanted o (yielded ops a.tmps) = true) (t : TypeId) (d : TypeDesc) (hd : Try.prog.underlying t = some d) (h0 : d.isRow = true) (x : Operand) (ho : o.op = .load t x) (b k : Nat) (hx : a.eval x = .pointer (some ⟨b, k, none⟩)) (cs : List Value) (hc : w.rangeAt b k cs) (hs : (Try.prog.info? t).map (·.size) = some cs.length)
    (h : wpList Try.prog ops Q rest (a.put o.dst (.agg cs.toArray)) w) : wpList Try.prog ops Q (o :: rest) a w := by
  unfold wpList
  rw [if_pos hw]
  exact .inl (wp_load_mid t x ho b k hx cs d hc hd h0 hs h)
end
end Go.Proofs.Yteddnbabgahhfaa
