/- What a packet tells, said of plain lists; words for a struct that is written whole, or a part of it. Conditions: those of each theorem. -/
import Derived.Test.YtebpemknmcgamaaNet
import Derived.Test.YtebpemknmcgamaaInetFault
namespace Go.Proofs.Ytebpemknmcgamaa.inet
open Go.RowKit

def nobody : Nat → Prop := fun _ => False
def only (g : Nat) : Nat → Prop := fun k => k = g
/-- The first k of four bytes from p on, noughts behind. -/
def adr (bs : List Int) (p k : Nat) : List Int := (bs.drop p).take k ++ List.replicate (16 - k) 0
/-- What stands behind the head. -/
def body (bs : List Int) : List Int := (bs.take (wd bs 2)).drop (hd bs)
/-- Is the fragment's place 0? -/
def first (bs : List Int) : Bool := decide (wd bs 6 % 8192 = 0)
/-- How many bytes that is. -/
def much (bs : List Int) : Nat := wd bs 2 - hd bs

theorem adr_sixteen {bs : List Int} {p k : Nat} (h : p + k ≤ bs.length) (hk : k ≤ 16) : Sixteen (adr bs p k) := by
  unfold Sixteen adr
  simp
  omega
theorem adr_none (bs : List Int) (p : Nat) : adr bs p 0 = zz := rfl
theorem adr_set {bs : List Int} {p k : Nat} (h : p + k < bs.length) (hk : k < 16) : (adr bs p k).set k (bs.getD (p + k) 0) = adr bs p (k + 1) := by
  unfold adr
  have hl : ((bs.drop p).take k).length = k := by simp; omega
  rw [List.set_append_right _ _ (by omega), hl, Nat.sub_self, show 16 - k = (16 - (k + 1)) + 1 by omega, List.replicate_succ, List.set_cons_zero, List.take_add_one, List.getElem?_drop, List.append_assoc]
  rw [List.getD_eq_getElem?_getD, List.getElem?_eq_getElem h]
  rfl
/-- What fits: a packet that is fine. -/
theorem why_fine {bs : List Int} (h : why bs = 0) : 20 ≤ bs.length ∧ 20 ≤ hd bs ∧ hd bs ≤ 60 ∧ hd bs ≤ wd bs 2 ∧ wd bs 2 ≤ bs.length ∧ sm bs (hd bs / 2) = 65535 ∧ (bs.getD 0 0).toNat / 16 = 4 := by
  have hb : hd bs ≤ 60 := by unfold hd; omega
  unfold why at h
  split at h
  · omega
  · split at h
    · omega
    · split at h
      · omega
      · split at h
        · omega
        · split at h
          · omega
          · omega

theorem setRow_far (w : World) (g : Nat) (cs : Array Value) : Far (only g) w (w.setRow g cs) :=
  ⟨rfl, rfl, rfl, by simp [World.setRow], fun k _ hn => by
    have : ¬ g = k := fun e => hn e.symm
    simp [World.setRow, Array.getElem?_modify, this]⟩
theorem setRow_blk {w : World} {g : Nat} {t : TypeId} {cs : List Value} (h : Blk w g t cs) (xs : List Value) : Blk (w.setRow g xs.toArray) g t xs := by
  unfold Blk at h ⊢
  simp [World.setRow, Array.getElem?_modify, h]

/-- A struct of 35 cells into a variable. -/
theorem wpList_put {ops : Array Oper} {rest : List Oper} {o : Oper} {a : Act} {w : World} {Q : Exit → Act → World → Prop} (hgd : o.guard = none) (ty : TypeId) (hty : (Try.prog.info? ty).map (·.size) = some 35) (x y : Operand) (ho : o.op = .store ty x y)
    (g : Nat) (xs : List Value) (hx : a.eval x = .pointer (some ⟨g, 0, none⟩)) (hy : a.eval y = .agg xs.toArray) (t : TypeId) (old : List Value) (hb : Blk w g t old) (hl : old.length = 35) (hxl : xs.length = 35) (h1 : xs.toArray.all (·.oneCell') = true)
    (h : ∀ w', Hid (Blk w' g t xs) → Hid (Far (only g) w w') → wpList Try.prog ops Q rest (a.put o.dst undef) w') : wpList Try.prog ops Q (o :: rest) a w :=
  wpList_store_row hgd ty x y ho g xs.toArray hx hy t old.toArray hb (by rw [List.size_toArray, hxl]; exact hty) (by rw [List.size_toArray, List.size_toArray, hl, hxl]) h1 (h _ (setRow_blk hb xs) (setRow_far w g _))
/-- The same as an operation of a region that draws. -/
theorem step_put {ops : Array Oper} {o : Oper} {a : Act} {w : World} {K : Act → World → Prop} {Q : Exit → Act → World → Prop} {E : Prop} (hgd : o.guard = none) (ty : TypeId) (hty : (Try.prog.info? ty).map (·.size) = some 35) (x y : Operand) (ho : o.op = .store ty x y)
    (g : Nat) (xs : List Value) (hx : a.eval x = .pointer (some ⟨g, 0, none⟩)) (hy : a.eval y = .agg xs.toArray) (t : TypeId) (old : List Value) (hb : Blk w g t old) (hl : old.length = 35) (hxl : xs.length = 35) (h1 : xs.toArray.all (·.oneCell') = true)
    (h : ∀ w', Hid (Blk w' g t xs) → Hid (Far (only g) w w') → K (a.put o.dst undef) w') : if Region.wanted o (yielded ops a.tmps) = true then Oper.wp Try.prog o a w K Q else E := by
  have hw : Region.wanted o (yielded ops a.tmps) = true := by simp [Region.wanted, hgd]
  rw [if_pos hw]
  exact wp_store_row ty x y ho g xs.toArray hx hy t old.toArray hb (by rw [List.size_toArray, hxl]; exact hty) (by rw [List.size_toArray, List.size_toArray, hl, hxl]) h1 (h _ (setRow_blk hb xs) (setRow_far w g _))
/-- Four bytes into a part of it. -/
theorem step_copy {ops : Array Oper} {o : Oper} {a : Act} {w : World} {K : Act → World → Prop} {Q : Exit → Act → World → Prop} {E : Prop} (hgd : o.guard = none) (x y : Operand)
    (ho : o.op = .call { callee := .builtin .copy, args := #[x, y], argTypes := #[22, 22] }) (g off : Nat) (hx : a.eval x = .slice (some ⟨g, off, none⟩) 16 16) (Z : Option Addr) (c : Nat) (hy : a.eval y = .slice Z 4 c)
    (t : TypeId) (cs : List Value) (l : List Int) (hb : Blk w g t cs) (hz : Byts w Z 4 l) (hl : off + 4 ≤ cs.length)
    (h : ∀ w', Hid (Blk w' g t (cs.take off ++ (cel l ++ cs.drop (off + 4)))) → Hid (Far (only g) w w') → K (a.put o.dst (goInt 4)) w') : if Region.wanted o (yielded ops a.tmps) = true then Oper.wp Try.prog o a w K Q else E := by
  have hw : Region.wanted o (yielded ops a.tmps) = true := by simp [Region.wanted, hgd]
  rw [if_pos hw]
  obtain ⟨ad, rfl, hc⟩ := hz.2 (by omega)
  have hr := run_copy_row (P := Try.prog) w 22 22 o.type 5 g off 16 16 ad 4 c cs.toArray t (cel l) Try.underlying22 size5 hb (by rw [cel_length, hz.1]; rfl) (hz.news rfl) (by rw [cel_length, hz.1]; simpa using hl) (cel_one l)
  rw [cel_length, hz.1] at hr
  unfold Oper.wp
  simp [execOp, ho, resolve, invoke, builtin, hx, hy, hr, Result.andThen]
  exact h _ (setRow_blk hb _) (setRow_far w g _)
theorem below_only {B g : Nat} {w0 w w' : World} (h : Below B w0 w) (hf : Far (only g) w w') (hg : B ≤ g) (hB : B ≤ w.heap.size) : Below B w0 w' :=
  h.trans (hf.below hB (fun k hk e => by have : k = g := e; omega))
theorem load30 {w : World} {g : Nat} {t : TypeId} {xs : List Value} (h : Blk w g t xs) (hl : xs.length = 35) : (loadVar 54 ⟨g, 0, none⟩).run Try.prog w = .ok (.agg xs.toArray) w :=
  run_loadVar_row w g t 54 xs.toArray (0, 0) _ h Try.underlying54 rfl (by rw [List.size_toArray, hl]; exact size30)
theorem load26 {w : World} {g : Nat} {t : TypeId} {xs : List Value} (h : Blk w g t xs) (hl : xs.length = 35) : (loadVar 72 ⟨g, 0, none⟩).run Try.prog w = .ok (.agg xs.toArray) w :=
  run_loadVar_row w g t 72 xs.toArray (0, 0) _ h Try.underlying72 rfl (by rw [List.size_toArray, hl]; exact size26)
/-- The leaves again: what they answer, and that they turn nothing. -/
theorem two_b (A : Option Addr) (n c : Nat) (bs : List Int) (x : Int) (p : Nat) (w : World) (hx : x = p) (h : Byts w A n bs) (ho : Octs bs) (hp : p + 2 ≤ n) (hn : n ≤ 9223372036854775807) :
    Calls Try.prog 36 #[.slice A n c, .int .i64 x] w fun e w' => e = .returned (.int .i64 ((wd bs p : Nat) : Int)) ∧ Below w.heap.size w w' :=
  (two_any A n c bs x p w hx h ho hp hn).mono (by rintro e w' ⟨rfl, rfl⟩; exact ⟨rfl, (Below.refl _ _).drew⟩)
theorem refSum_b (A : Option Addr) (n c k : Nat) (bs : List Int) (w : World) (h : Byts w A n bs) (ho : Octs bs) (hn : n = 2 * k) (hm : n ≤ 1000000) :
    Calls Try.prog 37 #[.slice A n c] w fun e w' => e = .returned (.int .i64 ((sm bs k : Nat) : Int)) ∧ Below w.heap.size w w' :=
  (refSum_any A n c k bs w h ho hn hm).mono (by rintro e w' ⟨rfl, m, rfl⟩; exact ⟨rfl, below_drewN (Below.refl _ _) m⟩)
theorem fault_b (A : Option Addr) (n c r : Nat) (bs : List Int) (w : World) (h : Byts w A n bs) (ho : Octs bs) (hm : n ≤ 9223372036854775807) (hc : n ≤ c) (hr : why bs = r) :
    Calls Try.prog 48 #[.slice A n c] w fun e w' => e = .returned (.int .i64 ((r : Nat) : Int)) ∧ Below w.heap.size w w' :=
  (fault_any A n c r bs w h ho hm hc hr).mono (by rintro e w' ⟨rfl, m, rfl⟩; exact ⟨rfl, below_drewN (Below.refl _ _) m⟩)
theorem head_b (A : Option Addr) (n c : Nat) (bs : List Int) (w : World) (h : Byts w A n bs) (ho : Octs bs) (hn : 1 ≤ n) (hm : n ≤ 9223372036854775807) :
    Calls Try.prog 50 #[.slice A n c] w fun e w' => e = .returned (.int .i64 ((hd bs : Nat) : Int)) ∧ Below w.heap.size w w' :=
  (headBytes_any A n c bs w h ho hn hm).mono (by rintro e w' ⟨rfl, rfl⟩; exact ⟨rfl, Below.refl _ _⟩)
theorem number_b (A : Option Addr) (n c : Nat) (bs : List Int) (w : World) (h : Byts w A n bs) (ho : Octs bs) (hn : 2 ≤ n) (hm : n ≤ 9223372036854775807) :
    Calls Try.prog 51 #[.slice A n c] w fun e w' => e = .returned (.int .i64 ((wd bs 0 : Nat) : Int)) ∧ Below w.heap.size w w' :=
  (number_any A n c bs w h ho hn hm).mono (by rintro e w' ⟨rfl, rfl⟩; exact ⟨rfl, (Below.refl _ _).drew⟩)
/-- From p up to q, as a slice of its own. -/
theorem mid_z {A : Option Addr} {n c p q : Nat} {bs : List Int} (hp : p ≤ q) (hq : q ≤ n) (hc : n ≤ c) : ∃ Z, (∀ W, (Instr.slice 22 (.slice A n c) (some (.int .i64 (p : Nat))) (some (.int .i64 (q : Nat))) none).run Try.prog W = .ok (.slice Z (q - p) (c - p)) W) ∧
    ∀ w, Byts w A n bs → Byts w Z (q - p) ((bs.take q).drop p) := by
  refine ⟨if c = p then A else A.map (·.add p), fun W => ?_, fun w h => (h.upto hq).from_ hp (by omega)⟩
  have h := run_slice_lh (P := Try.prog) (w := W) 22 A n c (by kernel_rfl) .i64 .i64 (p : Int) (q : Int) (by omega) (by omega) (by omega)
  rw [h]
  simp [sliced, go_sem]
end Go.Proofs.Ytebpemknmcgamaa.inet
