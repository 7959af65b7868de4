/- Words for a struct that is written whole, for sixteen bytes out of a struct, for rows of the call's own. Conditions: those of each theorem. -/
import Derived.Test.YtfhlgmmfknfamaaKdIns
import Derived.BigQuiet
import Derived.Deep.RegionHeld3
import Derived.Deep.MidRow
import Derived.Deep.WholeRow
import Derived.Laws.Rows
import Derived.Deep.CutBlock
import Derived.ChangeKeysEq
import Derived.Deep.DeepCutAuto
namespace Go.Proofs.Ytfhlgmmfknfamaa.kd
open Go.RowKit
/-- An address. -/
def Sixteen (s : List Int) : Prop := s.length = 16
/-- All zero. -/
def zz : List Int := List.replicate 16 0
theorem zz_sixteen : Sixteen zz := rfl
section
variable {p : Int} {s d : List Int} {B : Value} {f : Bool}
end
theorem size24 : (Try.prog.info? 22).map (·.size) = some 16 := by kernel_rfl
theorem cel_size {s : List Int} (hs : Sixteen s) : (Try.prog.info? 22).map (·.size) = some (cel s).length := by
  unfold Sixteen at hs
  rw [cel_length, hs]
  exact size24
/-- An address out of a struct. -/
theorem wpList_addr {ops : Array Oper} {rest : List Oper} {op : Oper} {a : Act} {w : World} {Q : Exit → Act → World → Prop} (hw : Region.wanted op (yielded ops a.tmps) = true) (x : Operand) (ho : op.op = .load 22 x)
    (b o : Nat) (hx : a.eval x = .pointer (some ⟨b, o, none⟩)) (s : List Int) (hc : w.rangeAt b o (cel s)) (hs : Sixteen s)
    (h : wpList Try.prog ops Q rest (a.put op.dst (.agg (cel s).toArray)) w) : wpList Try.prog ops Q (op :: rest) a w := by
  unfold wpList
  rw [if_pos hw]
  exact .inl (wp_load_mid 22 x ho b o hx (cel s) _ hc Try.underlying22 rfl (cel_size hs) h)

theorem setRow_far (w : World) (g : Nat) (cs : Array Value) : Far (only g) w (w.setRow g cs) :=
  ⟨rfl, rfl, rfl, by simp [World.setRow], fun k _ hn => by
    have : ¬ g = k := fun e => hn e.symm
    simp [World.setRow, Array.getElem?_modify, this]⟩
theorem setRow_blk {w : World} {g : Nat} {t : TypeId} {cs : List Value} (h : Blk w g t cs) (xs : List Value) : Blk (w.setRow g xs.toArray) g t xs := by
  unfold Blk at h ⊢
  simp [World.setRow, Array.getElem?_modify, h]

theorem keep9 {wr W : World} {q : Addr} {v : Value} (h : Below wr.heap.size wr W) (hc : wr.cell? q = some v) : W.cell? q = some v := (h.cell (World.block_lt_of_cell? wr _ hc)).trans hc
theorem own_cap {w : World} {base : Nat} {A : Option Addr} {n c : Nat} {bs : List Int} (h : w.ownsRow base 5 1 (.slice A n c) n (cel bs)) : n ≤ c := by
  obtain ⟨A', c', e, hc, _⟩ := Byts.of_row h
  cases e
  exact hc
/-- A block of bytes as an own row. -/
theorem own_blk {w : World} {g base : Nat} {bs : List Int} {n : Nat} (h : Blk w g 5 (cel bs)) (hn : bs.length = n) (hm : n ≤ 1000000) (hb : base ≤ g) : w.ownsRow base 5 1 (.slice (some ⟨g, 0, none⟩) n n) n (cel bs) := by
  subst hn
  exact ⟨by simp [cel], .inr ⟨g, bs.length, (cel bs).toArray, rfl, hb, h, Nat.le_refl _, by unfold maxLen; omega, by simp [cel], by simp [cel, List.take_of_length_le]⟩⟩
/-- A new empty row. -/
theorem own_new (w : World) (base : Nat) (h : base ≤ w.heap.size) : (w.alloc (.cells #[] 5)).ownsRow base 5 1 (.slice (some ⟨w.heap.size, 0, none⟩) 0 0) 0 (cel []) :=
  ⟨rfl, .inr ⟨w.heap.size, 0, #[], rfl, h, heap_alloc_new w _, Nat.le_refl _, by decide, rfl, rfl⟩⟩
theorem own_some {w : World} {base : Nat} {A : Option Addr} {n c : Nat} {xs : List Value} (h : w.ownsRow base 5 1 (.slice A n c) n xs) (h0 : 0 < n) : ∃ g, A = some ⟨g, 0, none⟩ ∧ base ≤ g := by
  rcases h.2 with ⟨e, e0⟩ | ⟨g, cap, cur, e, hb, _⟩
  · omega
  · cases e
    exact ⟨g, rfl, hb⟩
/-- append of bytes onto an own row, in a region that draws. -/
theorem step_app {ops : Array Oper} {o : Oper} {a : Act} {w : World} {K : Act → World → Prop} {Q : Exit → Act → World → Prop} {E : Prop} (hgd : o.guard = none) (s x : Operand)
    (ho : o.op = .call { callee := .builtin .append, args := #[s, x], argTypes := #[63, 63] })
    (base : Nat) (v : Value) (n : Nat) (xs : List Int) (hs : a.eval s = v) (hown : w.ownsRow base 5 1 v n (cel xs))
    (A : Option Addr) (m c : Nat) (bs : List Int) (hx : a.eval x = .slice A m c) (h : Byts w A m bs) (k : Nat) (hk : n + m = k) (zs : List Int) (hz : xs ++ bs = zs) (hn : k ≤ 1000000) (hb : base ≤ w.heap.size)
    (hK : ∀ A' c' w', Hid (w'.ownsRow base 5 1 (.slice A' k c') k (cel zs)) → Hid (w.grownBy w' v.ownBlock) → K (a.put o.dst (.slice A' k c')) w') : if Region.wanted o (yielded ops a.tmps) = true then Oper.wp Try.prog o a w K Q else E := by
  subst hk hz
  have hw : Region.wanted o (yielded ops a.tmps) = true := by simp [Region.wanted, hgd]
  rw [if_pos hw]
  obtain ⟨v', w', hrun, h2, h3, _⟩ := run_append_bytes (P := Try.prog) w base 63 o.type 5 Try.underlying63 info5 v n xs hown A m c bs h hn hb
  obtain ⟨A', c', rfl, _⟩ := Byts.of_row h2
  unfold Oper.wp
  simp [execOp, ho, resolve, invoke, builtin, hs, hx, hrun, Result.andThen]
  exact hK A' c' w' h2 h3

theorem below_drewN {B : Nat} {w w' : World} (h : Below B w w') (k : Nat) : Below B w (w'.drewN k) := ⟨h.os, h.tape, h.output, h.size, h.block⟩
end Go.Proofs.Ytfhlgmmfknfamaa.kd
