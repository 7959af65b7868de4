/- Packets that are cut, and packets with more behind: plain lists; append of bytes onto an own row. Conditions: those of each theorem. -/
import Derived.Test.YtmpkbggnopcajaaReadsWalk
namespace Go.Proofs.Ytmpkbggnopcajaa
open Go.RowKit

theorem wd_ext {bs cs : List Int} {p : Nat} (h1 : cs.getD p 0 = bs.getD p 0) (h2 : cs.getD (p + 1) 0 = bs.getD (p + 1) 0) : wd cs p = wd bs p := by
  unfold wd
  rw [h1, h2]
theorem cut_short {bs : List Int} {x : Nat} (h : why bs = 0) (hx : x < 40 + wd bs 4) : why (bs.take x) = 1 ∨ why (bs.take x) = 5 := by
  obtain ⟨f1, f2, f3⟩ := why_fine h
  have hl : (bs.take x).length = x := by simp; omega
  unfold why
  rw [hl]
  by_cases h40 : x < 40
  · exact .inl (if_pos h40)
  · refine .inr ?_
    rw [if_neg h40, getD_take (by omega), if_neg (by omega), wd_ext (bs := bs) (getD_take (by omega)) (getD_take (by omega)), if_pos hx]
theorem adr_ext {bs cs : List Int} {p k : Nat} (h : cs.take (p + k) = bs.take (p + k)) : adr cs p k = adr bs p k := by
  unfold adr
  have e : ∀ l : List Int, (l.drop p).take k = (l.take (p + k)).drop p := fun l => by rw [List.drop_take, Nat.add_sub_cancel_left]
  rw [e, e, h]
theorem same_head {bs cs : List Int} {E : Nat} (h : why bs = 0) (hE : E = 40 + wd bs 4) (ht : cs.take E = bs.take E) (hl : E ≤ cs.length) : tel cs = tel bs ∧ (∀ r, sr cs r = sr bs r) ∧ ∀ r, ds cs r = ds bs r := by
  obtain ⟨f1, f2, f3⟩ := why_fine h
  have hg : ∀ j, j < E → cs.getD j 0 = bs.getD j 0 := fun j hj => by rw [← getD_take (bs := cs) hj, ht, getD_take hj]
  have hw : wd cs 4 = wd bs 4 := wd_ext (hg _ (by omega)) (hg _ (by omega))
  have hwhy : why cs = 0 := by
    unfold why
    rw [if_neg (by omega), hg 0 (by omega), if_neg (by omega), hw, if_neg (by omega)]
  have ht2 : ∀ k, k ≤ E → cs.take k = bs.take k := fun k hk => by
    have := congrArg (List.take k) ht
    rwa [List.take_take, List.take_take, Nat.min_eq_left hk] at this
  refine ⟨?_, fun r => ?_, fun r => ?_⟩
  · unfold tel
    rw [if_pos hwhy, if_pos h, hg 6 (by omega)]
    unfold behind
    rw [hw, ← hE, ht]
  · unfold sr
    rw [adr_ext (ht2 _ (by omega))]
  · unfold ds
    rw [adr_ext (ht2 _ (by omega))]
theorem cut_more {bs ms : List Int} (h : why bs = 0) : tel (bs.take (40 + wd bs 4) ++ ms) = tel bs ∧ (∀ r, sr (bs.take (40 + wd bs 4) ++ ms) r = sr bs r) ∧ ∀ r, ds (bs.take (40 + wd bs 4) ++ ms) r = ds bs r := by
  obtain ⟨f1, f2, f3⟩ := why_fine h
  have hl : (bs.take (40 + wd bs 4)).length = 40 + wd bs 4 := by simp; omega
  refine same_head h rfl ?_ ?_
  · rw [List.take_append_of_le_length (by omega), List.take_take, Nat.min_self]
  · rw [List.length_append]; omega

theorem parse_as (A : Option Addr) (n c r : Nat) (q : Int) (bs cs ks : List Int) (f : Bool) (w : World) (h : Byts w A n cs) (ho : Octs cs) (hm : n ≤ 9223372036854775807) (hc : n ≤ c) (hR : tel cs = (r, q, ks, f)) (h1 : sr cs r = sr bs r) (h2 : ds cs r = ds bs r) :
    Calls Try.prog 8 #[.slice A n c] w (ParOut w bs r q ks f) := by
  refine (parse_any A n c r q cs ks f w h ho hm hc hR).mono ?_
  rintro e w' ⟨A', c', he, hb, hk⟩
  rw [h1, h2] at he
  exact ⟨A', c', he, hb, hk⟩
/-- append of bytes onto an own row, as a step of the walk. -/
theorem wpList_app {w : World} {ops : Array Oper} {rest : List Oper} {o : Oper} {a : Act} {Q : Exit → Act → World → Prop} (hgd : o.guard = none) (s x : Operand)
    (ho : o.op = .call { callee := .builtin .append, args := #[s, x], argTypes := #[22, 22] })
    (base : Nat) (v : Value) (n : Nat) (xs : List Int) (hs : a.eval s = v) (hown : w.ownsRow base 5 1 v n (cel xs))
    (A : Option Addr) (m c : Nat) (bs : List Int) (hx : a.eval x = .slice A m c) (h : Byts w A m bs) (hn : n + m ≤ 1000000) (hb : base ≤ w.heap.size)
    (hK : ∀ A' c' w', Hid (w'.ownsRow base 5 1 (.slice A' (n + m) c') (n + m) (cel (xs ++ bs))) → Hid (w.grownBy w' v.ownBlock) → Hid ((Value.slice A' (n + m) c').ownBlock = v.ownBlock ∨ (Value.slice A' (n + m) c').ownBlock = some w.heap.size) →
      wpList Try.prog ops Q rest (a.put o.dst (.slice A' (n + m) c')) w') : wpList Try.prog ops Q (o :: rest) a w := by
  refine wpList_plain hgd fun K hK' => ?_
  obtain ⟨v', w', hrun, h2, h3, h4⟩ := run_append_bytes (P := Try.prog) w base 22 o.type 5 Try.underlying22 info5 v n xs hown A m c bs h hn hb
  obtain ⟨A', c', rfl, _⟩ := Byts.of_row h2
  unfold Oper.wp
  simp [execOp, ho, resolve, invoke, builtin, hs, hx, hrun, Result.andThen]
  exact hK' _ _ (hK A' c' w' h2 h3 h4)

/-- append of bytes onto an own row, its length and its bytes told. -/
theorem wpList_app_to {w : World} {ops : Array Oper} {rest : List Oper} {o : Oper} {a : Act} {Q : Exit → Act → World → Prop} (hgd : o.guard = none) (s x : Operand)
    (ho : o.op = .call { callee := .builtin .append, args := #[s, x], argTypes := #[22, 22] })
    (base : Nat) (v : Value) (n : Nat) (xs : List Int) (hs : a.eval s = v) (hown : w.ownsRow base 5 1 v n (cel xs))
    (A : Option Addr) (m c : Nat) (bs : List Int) (hx : a.eval x = .slice A m c) (h : Byts w A m bs) (k : Nat) (hk : n + m = k) (zs : List Int) (hz : xs ++ bs = zs) (hn : k ≤ 1000000) (hb : base ≤ w.heap.size)
    (hK : ∀ A' c' w', Hid (w'.ownsRow base 5 1 (.slice A' k c') k (cel zs)) → Hid (w.grownBy w' v.ownBlock) → Hid ((Value.slice A' k c').ownBlock = v.ownBlock ∨ (Value.slice A' k c').ownBlock = some w.heap.size) →
      wpList Try.prog ops Q rest (a.put o.dst (.slice A' k c')) w') : wpList Try.prog ops Q (o :: rest) a w := by
  subst hk hz
  exact wpList_app hgd s x ho base v n xs hs hown A m c bs hx h hn hb hK

theorem Byts.of_own {w : World} {base : Nat} {e : TypeId} {A : Option Addr} {n c : Nat} {bs : List Int} (h : w.ownsRow base e 1 (.slice A n c) n (cel bs)) : Byts w A n bs := by
  obtain ⟨A', c', e, _, _, h', _⟩ := Byts.of_row h
  cases e
  exact h'
theorem own_cap {w : World} {base : Nat} {A : Option Addr} {n c : Nat} {bs : List Int} (h : w.ownsRow base 5 1 (.slice A n c) n (cel bs)) : n ≤ c := by
  obtain ⟨A', c', e, hc, _⟩ := Byts.of_row h
  cases e
  exact hc
/-- A block of bytes as an own row. -/
theorem own_blk {w : World} {g base : Nat} {bs : List Int} {n : Nat} (h : Blk w g 5 (cel bs)) (hn : bs.length = n) (hm : n ≤ 1000000) (hb : base ≤ g) : w.ownsRow base 5 1 (.slice (some ⟨g, 0, none⟩) n n) n (cel bs) := by
  subst hn
  exact ⟨by simp [cel], .inr ⟨g, bs.length, (cel bs).toArray, rfl, hb, h, Nat.le_refl _, by unfold maxLen; omega, by simp [cel], by simp [cel, List.take_of_length_le]⟩⟩
/-- A new empty row. -/
theorem own_new (w : World) (base : Nat) (h : base ≤ w.heap.size) : (w.alloc (.cells #[] 5)).ownsRow base 5 1 (.slice (some ⟨w.heap.size, 0, none⟩) 0 0) 0 (cel []) :=
  ⟨rfl, .inr ⟨w.heap.size, 0, #[], rfl, h, heap_alloc_new w _, Nat.le_refl _, by decide, rfl, rfl⟩⟩
end Go.Proofs.Ytmpkbggnopcajaa
