/- What TurnsFair's loops stand on: plain, and in memory. Conditions: those of each theorem. -/
import Derived.Test.YtknalphhnicffaaFair
import Derived.Test.YtknalphhnicffaaRoundWalk
import Derived.Laws.Rows
import Derived.Deep.WholeRow
namespace Go.Proofs.Ytknalphhnicffaa
open Go.RowKit

/-- What stands: s: given in all; s0: given ahead of 'from'; gv: given since; nx: which head is next. -/
structure FS (Q : Nat) (L : List Cls) (s s0 gv nx : Nat → Nat) (k : Nat) : Prop where
  now : ∃ j m u d, Fair Q L s j m u d
  was : ∃ L0 j m u d, Fair Q L0 s0 j m u d
  gs : ∀ c, c < 8 → gv c + s0 c = s c
  gl : ∀ c, c < 8 → gv c ≤ 9216 * k
  nl : ∀ c, c < 8 → nx c ≤ k
def firsts (c : Nat) : List Cls := (List.range c).map fun i => ⟨i, true, 0⟩
theorem firsts_wake {c n : Nat} (h : c < n) : wakeOf n (firsts c) (c : Int) = firsts (c + 1) := by
  have hc : canWake n (firsts c) (c : Int) = true := by
    have h1 : isIn (firsts c) (c : Int) = false := by
      rw [isIn_not]
      intro x hx
      obtain ⟨i, hi, rfl⟩ := List.mem_map.1 hx
      have := List.mem_range.1 hi
      show ((i : Nat) : Int) ≠ _
      omega
    simp only [canWake, h1]
    simp
    omega
  unfold wakeOf
  rw [if_pos hc]
  simp [firsts, List.range_succ]
section
variable {Q : Nat} {L : List Cls} {s s0 gv nx : Nat → Nat} {k : Nat}
theorem FS.first (Q : Nat) : FS Q (firsts 8) (fun _ => 0) (fun _ => 0) (fun _ => 0) (fun _ => 0) 0 :=
  ⟨⟨_, _, _, _, fair_first Q⟩, ⟨_, _, _, _, _, fair_first Q⟩, fun _ _ => rfl, fun _ _ => Nat.zero_le _, fun _ _ => Nat.zero_le _⟩
theorem FS.reset (h : FS Q L s s0 gv nx k) : FS Q L s s (fun _ => 0) nx k := by
  obtain ⟨j, m, u, d, hf⟩ := h.now
  exact ⟨h.now, ⟨L, j, m, u, d, hf⟩, fun _ _ => by omega, fun _ _ => Nat.zero_le _, h.nl⟩
theorem FS.pick {hd : Nat → Int} {L' : List Cls} {o : Option Nat} (h : FS Q L s s0 gv nx k) (hQ : 9216 ≤ Q) (hh : ∀ c, c < 8 → 1 ≤ hd c ∧ hd c ≤ 9216) (hp : Picks Q hd L L' o) :
    ∃ c, c < 8 ∧ o = some c ∧ FS Q L' (upd s c (s c + (hd c).toNat)) s0 (upd gv c (gv c + (hd c).toNat)) (upd nx c (nx c + 1)) (k + 1) := by
  obtain ⟨j, m, u, d, hf⟩ := h.now
  obtain ⟨c, j', m', d', ho, hc, hf'⟩ := hf.pick hQ hh hp
  refine ⟨c, hc, ho, ⟨_, _, _, _, hf'⟩, h.was, fun i hi => ?_, fun i hi => ?_, fun i hi => ?_⟩
  · have := h.gs i hi
    by_cases e : i = c
    · subst e; rw [upd_self, upd_self]; omega
    · rw [upd_ne e, upd_ne e]; exact this
  · have h1 := h.gl i hi
    by_cases e : i = c
    · subst e
      rw [upd_self]
      have := (hh i hi).2
      omega
    · rw [upd_ne e]; omega
  · have h1 := h.nl i hi
    by_cases e : i = c
    · subst e; rw [upd_self]; omega
    · rw [upd_ne e]; omega
theorem FS.bound (h : FS Q L s s0 gv nx k) {a b : Nat} (ha : a < 8) (hb : b < 8) : (gv a : Int) - (gv b : Int) ≤ (Q : Int) + 18432 := by
  obtain ⟨j, m, u, d, hf⟩ := h.now
  obtain ⟨L0, j0, m0, u0, d0, hf0⟩ := h.was
  have := fair_bound hf0 hf ha hb
  have h1 := h.gs a ha
  have h2 := h.gs b hb
  omega
end
/-- Eight numbers in a row. -/
def arr (f : Nat → Nat) : List Value := (List.range 8).map fun c => .int .i64 (f c : Nat)
theorem arr_length (f : Nat → Nat) : (arr f).length = 8 := by simp [arr]
theorem arr_at {f : Nat → Nat} {c : Nat} (h : c < 8) : (arr f)[c]? = some (.int .i64 (f c : Nat)) := by simp [arr, h]
theorem arr_set {f : Nat → Nat} {c v : Nat} (h : c < 8) : (arr f).set c (.int .i64 (v : Nat)) = arr (upd f c v) := by
  apply List.ext_getElem (by simp [arr])
  intro i h1 h2
  have hi : i < 8 := by simpa [arr] using h2
  rw [List.getElem_set]
  split
  · subst c; simp [arr, upd]
  · rename_i e
    simp [arr, upd, Ne.symm e]
theorem arr_one (f : Nat → Nat) : (arr f).toArray.all (·.oneCell') = true := by simp [arr, Value.oneCell']
/-- One block alone. -/
def lone (g : Nat) : Nat → Prop := fun k => k = g
theorem setRow_far (w : World) (g : Nat) (cs : Array Value) : Far (lone g) w (w.setRow g cs) :=
  ⟨rfl, rfl, rfl, by simp [World.setRow], fun k _ hn => by
    have : ¬ g = k := fun e => hn e.symm
    simp [World.setRow, Array.getElem?_modify, this]⟩
theorem setRow_blk {w : World} {g : Nat} {t : TypeId} {cs : List Value} (h : Blk w g t cs) (xs : List Value) : Blk (w.setRow g xs.toArray) g t xs := by
  unfold Blk at h ⊢
  simp [World.setRow, Array.getElem?_modify, h]
theorem size52 : (Try.prog.info? 52).map (·.size) = some 8 := by kernel_rfl
/-- Eight numbers into a variable. -/
theorem wpList_put8 {ops : Array Oper} {rest : List Oper} {o : Oper} {a : Act} {w : World} {Q : Exit → Act → World → Prop} (hgd : o.guard = none) (ty : TypeId) (hty : (Try.prog.info? ty).map (·.size) = some 8) (x y : Operand) (ho : o.op = .store ty x y)
    (g : Nat) (xs : List Value) (hx : a.eval x = .pointer (some ⟨g, 0, none⟩)) (hy : a.eval y = .agg xs.toArray) (t : TypeId) (old : List Value) (hb : Blk w g t old) (hl : old.length = 8) (hxl : xs.length = 8) (h1 : xs.toArray.all (·.oneCell') = true)
    (h : ∀ w', Hid (Blk w' g t xs) → Hid (Far (lone g) w w') → wpList Try.prog ops Q rest (a.put o.dst undef) w') : wpList Try.prog ops Q (o :: rest) a w :=
  wpList_store_row hgd ty x y ho g xs.toArray hx hy t old.toArray hb (by rw [List.size_toArray, hxl]; exact hty) (by rw [List.size_toArray, List.size_toArray, hl, hxl]) h1 (h _ (setRow_blk hb xs) (setRow_far w g _))
/-- What the program may touch: not the law's two arrays. -/
def fm (B nb gb : Nat) : Nat → Prop := fun k => B ≤ k ∧ k ≠ nb ∧ k ≠ gb
/-- How the blocks lie. -/
structure FAt (B nb gb base : Nat) : Prop where
  h1 : B ≤ nb
  h2 : nb < gb
  h3 : gb < base
/-- In memory: the turns, the two arrays, and the heads' row. -/
structure FM (At : (Nat → Prop) → World → Nat → Nat → Nat → List Cls → Prop) (w : World) (base g nb gb Q : Nat) (L : List Cls) (gv nx : Nat → Nat) (v : Value) (m : Nat) (zs : List Int) (W : World) : Prop where
  ro : Ro At (fm w.heap.size nb gb) base g 8 Q L v m zs W
  nxt : Blk W nb 51 (arr nx)
  gvn : Blk W gb 52 (arr gv)
  be : Below w.heap.size w W
section
variable {At : (Nat → Prop) → World → Nat → Nat → Nat → List Cls → Prop} {w W W' : World} {base g nb gb Q : Nat} {L L' : List Cls} {gv nx : Nat → Nat} {v : Value} {m : Nat} {zs : List Int}
theorem FM.below (h : FM At w base g nb gb Q L gv nx v m zs W) (P : Prog At) (hb : Below W.heap.size W W') : FM At w base g nb gb Q L gv nx v m zs W' :=
  ⟨h.ro.below P hb, h.nxt.far (Far.of_below hb nobody) (fun e => e), h.gvn.far (Far.of_below hb nobody) (fun e => e), h.be.trans (hb.mono h.be.size)⟩
theorem FM.turn (h : FM At w base g nb gb Q L gv nx v m zs W) (ha : At (apart (fm w.heap.size nb gb) v.ownBlock) W' g 8 Q L') (hf : Far (apart (fm w.heap.size nb gb) v.ownBlock) W W') : FM At w base g nb gb Q L' gv nx v m zs W' :=
  ⟨h.ro.turn ha hf, h.nxt.far hf (fun e => e.1.2.1 rfl), h.gvn.far hf (fun e => e.1.2.2 rfl), below_far h.be hf (fun _ e => e.1.1) h.be.size⟩
theorem FM.grown {v' : Value} {m' : Nat} {zs' : List Int} (h : FM At w base g nb gb Q L gv nx v m zs W) (P : Prog At) (p : FAt w.heap.size nb gb base) (h1 : W'.ownsRow base 3 1 v' m' (ints zs')) (h2 : W.grownBy W' v.ownBlock) (h3 : v'.ownBlock = v.ownBlock ∨ v'.ownBlock = some W.heap.size) : FM At w base g nb gb Q L gv nx v' m' zs' W' := by
  have := p.h1
  have := p.h2
  have := p.h3
  exact ⟨h.ro.grown P h1 h2 h3, h.nxt.grown h2 (fun e => by have := (h.ro.row.lt nb e).1; omega), h.gvn.grown h2 (fun e => by have := (h.ro.row.lt gb e).1; omega), h.be.grown h2 h.be.size (fun j e => by have := (h.ro.row.lt j e).1; omega)⟩
/-- A store into one of the arrays. -/
theorem FM.put {x : Nat} (h : FM At w base g nb gb Q L gv nx v m zs W) (P : Prog At) (p : FAt w.heap.size nb gb base) (hf : Far (lone x) W W') (hx : x = nb ∨ x = gb) :
    Ro At (fm w.heap.size nb gb) base g 8 Q L v m zs W' ∧ Below w.heap.size w W' := by
  have p1 := p.h1
  have p2 := p.h2
  have p3 := p.h3
  refine ⟨⟨P.far h.ro.at_ hf (fun k hk e => ?_), hf.row h.ro.row (fun k hk e => ?_), fun k hk => h.ro.all k (Nat.le_trans hf.size hk), Nat.le_trans h.ro.le hf.size⟩, h.be.trans (hf.below h.be.size (fun k hk e => ?_))⟩
  · unfold lone at e
    subst e
    rcases hx with hx | hx
    · exact hk.1.2.1 hx
    · exact hk.1.2.2 hx
  · have := (h.ro.row.lt k hk).1
    unfold lone at e
    omega
  · unfold lone at e
    omega
theorem FM.putG {gv' : Nat → Nat} (h : FM At w base g nb gb Q L gv nx v m zs W) (P : Prog At) (p : FAt w.heap.size nb gb base) (hf : Far (lone gb) W W') (hb : Blk W' gb 52 (arr gv')) : FM At w base g nb gb Q L gv' nx v m zs W' :=
  ⟨(h.put P p hf (.inr rfl)).1, h.nxt.far hf (fun e => by have := p.h2; unfold lone at e; omega), hb, (h.put P p hf (.inr rfl)).2⟩
theorem FM.putN {nx' : Nat → Nat} (h : FM At w base g nb gb Q L gv nx v m zs W) (P : Prog At) (p : FAt w.heap.size nb gb base) (hf : Far (lone nb) W W') (hb : Blk W' nb 51 (arr nx')) : FM At w base g nb gb Q L gv nx' v m zs W' :=
  ⟨(h.put P p hf (.inl rfl)).1, hb, h.gvn.far hf (fun e => by have := p.h2; unfold lone at e; omega), (h.put P p hf (.inl rfl)).2⟩
/-- The row goes; a new one begins. -/
theorem FM.norow (h : FM At w base g nb gb Q L gv nx v m zs W) (P : Prog At) : FM At w base g nb gb Q L gv nx (.slice none 0 0) 0 [] W :=
  ⟨⟨P.weak h.ro.at_ (fun _ _ hk => ⟨hk.1, by simp [Value.ownBlock]⟩), World.ownsRow_nil W base 3 1, h.ro.all, h.ro.le⟩, h.nxt, h.gvn, h.be⟩
end
/-- What heads each class in the next turn. -/
def hsOf (X : Nat → Nat → Int) (n : Nat) (nx : Nat → Nat) : List Int := (List.range 8).map fun c => 1 + X (nx c % n) c % 9216
theorem hs_length (X : Nat → Nat → Int) (n : Nat) (nx : Nat → Nat) : (hsOf X n nx).length = 8 := by simp [hsOf]
theorem hs_take {X : Nat → Nat → Int} {n c : Nat} {nx : Nat → Nat} (h : c < 8) : (hsOf X n nx).take c ++ [1 + X (nx c % n) c % 9216] = (hsOf X n nx).take (c + 1) := by
  have hl : c < (hsOf X n nx).length := by rw [hs_length]; exact h
  rw [List.take_succ_eq_append_getElem hl]
  simp [hsOf]
theorem hs_at {X : Nat → Nat → Int} {n c : Nat} {nx : Nat → Nat} (h : c < 8) : hdOf (hsOf X n nx) c = 1 + X (nx c % n) c % 9216 := by simp [hdOf, hsOf, List.getD_eq_getElem?_getD, h]
/-- Heads that came in: rows of eight. -/
def RowsIn (w : World) (A : Option Addr) (n : Nat) (X : Nat → Nat → Int) : Prop := ∀ i, i < n → ∀ c, c < 8 → ∃ a : Addr, A = some a ∧ w.cell? ((a.add (i * 8)).add c) = some (.int .u16 (X i c)) ∧ 0 ≤ X i c ∧ X i c ≤ 65535
end Go.Proofs.Ytknalphhnicffaa
