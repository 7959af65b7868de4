/- What is asked of the program's turns, as premises (Prog): the contracts of its calls over the plain list of those that are awake; the contracts of the laws' awake and of the document's Ints of two lists that are alike. Conditions: those of each theorem. -/
import Derived.Test.YtknalphhnicffaaRows
import Derived.Test.YtknalphhnicffaaMem
import Derived.Test.YtknalphhnicffaaNums
import Derived.WalkKit
import Derived.WalkSpells
import Derived.WalkLawsBesides
import Derived.ProofKit
import Derived.OpenShut
import Derived.Deep.OwnRows
import Derived.Deep.QuietTactic
import Derived.BigQuiet
import Derived.Deep.RegionWith
import Derived.RegionTactic
import Derived.ChangeAlike
import Derived.Deep.DeepCutAuto
import Derived.Deep.CutBlock
import Derived.Deep.RegionHeld3
import Derived.Deep.AppendLies
import Derived.Lib.MinMax
namespace Go.Proofs.Ytknalphhnicffaa
open Go.RowKit

theorem ret_int {k : IntKind} {a b : Int} (h : a = b) : Ending.returned (.int k a) = .returned (.int k b) := by rw [h]
theorem ret_bool {a b : Bool} (h : a = b) : Ending.returned (.bool a) = .returned (.bool b) := by rw [h]
theorem Blk.drewN {w : World} {g : Nat} {t : TypeId} {cs : List Value} (h : Blk w g t cs) (n : Nat) : Blk (w.drewN n) g t cs := h
/-- No block. -/
def nobody : Nat → Prop := fun _ => False
theorem below_drewN {B : Nat} {a w : World} (h : Below B a w) (n : Nat) : Below B a (w.drewN n) := h.trans ⟨rfl, rfl, rfl, Nat.le_refl _, fun _ _ => rfl⟩
theorem below_one (w : World) (o : Obj) : Below w.heap.size w (w.alloc o) := (Below.refl _ _).alloc (Nat.le_refl _) _
/-- Numbers, as values. -/
def ints (zs : List Int) : List Value := zs.map (Value.int .i64)
theorem ints_length (zs : List Int) : (ints zs).length = zs.length := by simp [ints]
theorem ints_app (a b : List Int) : ints (a ++ b) = ints a ++ ints b := by simp [ints]
theorem ints_at {zs : List Int} {k : Nat} (h : k < zs.length) : (ints zs)[k]? = some (.int .i64 (zs.getD k 0)) := by
  simp [ints, List.getD, List.getElem?_eq_getElem h]
theorem ints_one (zs : List Int) : ∀ u ∈ ints zs, u.oneCell' = true := by
  intro u hu
  obtain ⟨z, _, rfl⟩ := List.mem_map.1 hu
  rfl
/-- Who is awake, as numbers. -/
def who (L : List Cls) : List Int := (names L).map fun (k : Nat) => (k : Int)
theorem who_length (L : List Cls) : (who L).length = L.length := by simp [who, names]
/-- What heads each class: of others nothing. -/
def hdOf (hs : List Int) : Nat → Int := fun c => hs.getD c 0
/-- Heads as an argument. -/
abbrev headsV (A : Option Addr) (n c : Nat) : Value := .iface 43 (.agg #[.slice A n c])
/-- The number that is told. -/
def told (o : Option Nat) : Int := match o with | some k => (k : Nat) | none => 0

/-- What is asked of the program: At b w g n Q L: turns at block g, n classes, quantum Q, L awake; all of it lies in blocks that b lets in. -/
structure Prog (At : (Nat → Prop) → World → Nat → Nat → Nat → List Cls → Prop) : Prop where
  ok : ∀ {b w g n Q L}, At b w g n Q L → Ok n Q L
  far : ∀ {b w w' g n Q L} {S : Nat → Prop}, At b w g n Q L → Far S w w' → (∀ k, b k → ¬ S k) → At b w' g n Q L
  weak : ∀ {b b' : Nat → Prop} {w g n Q L}, At b w g n Q L → (∀ k, k < w.heap.size → b k → b' k) → At b' w g n Q L
  new : ∀ (n Q : Nat) (x y : Int) (w : World), x = n → y = Q → 1 ≤ n → n ≤ 129 → 1 ≤ Q → Q ≤ 1073741824 →
    Calls Try.prog 10 #[.int .i64 x, .int .i64 y] w fun e w' => ∃ g, e = .returned (.tuple #[.pointer (some ⟨g, 0, none⟩), .int .i64 0]) ∧ At (fun k => w.heap.size ≤ k) w' g n Q [] ∧ Below w.heap.size w w'
  newbad : ∀ (x y : Int) (w : World), x < 1 ∨ 129 < x ∨ y < 1 ∨ 1073741824 < y →
    Calls Try.prog 10 #[.int .i64 x, .int .i64 y] w fun e w' => e = .returned (.tuple #[.pointer none, .int .i64 1]) ∧ Below w.heap.size w w'
  wake : ∀ (b : Nat → Prop) (g n Q : Nat) (c : Int) (L : List Cls) (w : World), At b w g n Q L → (∀ k, w.heap.size ≤ k → b k) →
    Calls Try.prog 11 #[.pointer (some ⟨g, 0, none⟩), .int .i64 c] w fun e w' => e = .returned (.bool (canWake n L c)) ∧ At b w' g n Q (wakeOf n L c) ∧ Far b w w'
  sleep : ∀ (b : Nat → Prop) (g n Q : Nat) (c : Int) (L : List Cls) (w : World), At b w g n Q L → (∀ k, w.heap.size ≤ k → b k) →
    Calls Try.prog 14 #[.pointer (some ⟨g, 0, none⟩), .int .i64 c] w fun e w' => e = .returned (.bool (isIn L c)) ∧ At b w' g n Q (sleepOf L c) ∧ Far b w w'
  pick : ∀ (b : Nat → Prop) (g n Q : Nat) (A : Option Addr) (m c : Nat) (hs : List Int) (L L' : List Cls) (o : Option Nat) (w : World), At b w g n Q L → (∀ k, w.heap.size ≤ k → b k) →
    hs.length = m → Vals w A m (ints hs) → (∀ ad, A = some ad → 0 < m → ¬ b ad.block) → Picks Q (hdOf hs) L L' o →
    Calls Try.prog 16 #[.pointer (some ⟨g, 0, none⟩), headsV A m c] w fun e w' => e = .returned (.tuple #[.int .i64 (told o), .bool o.isSome]) ∧ At b w' g n Q L' ∧ Far b w w'
  picknil : ∀ (b : Nat → Prop) (g n Q : Nat) (L : List Cls) (w : World), At b w g n Q L →
    Calls Try.prog 16 #[.pointer (some ⟨g, 0, none⟩), .nilIface] w fun e w' => e = .returned (.tuple #[.int .i64 0, .bool false]) ∧ Below w.heap.size w w'
  awake : ∀ (b : Nat → Prop) (g n Q : Nat) (L : List Cls) (w : World), At b w g n Q L →
    Calls Try.prog 12 #[.pointer (some ⟨g, 0, none⟩)] w fun e w' => (∃ A c, e = .returned (.slice A L.length c) ∧ Vals w' A L.length (ints (who L)) ∧ ∀ ad, A = some ad → w.heap.size ≤ ad.block ∧ ad.block < w'.heap.size) ∧ Below w.heap.size w w'
  deficit : ∀ (b : Nat → Prop) (g n Q : Nat) (c : Int) (L : List Cls) (w : World), At b w g n Q L →
    Calls Try.prog 20 #[.pointer (some ⟨g, 0, none⟩), .int .i64 c] w fun e w' => e = .returned (.int .i64 (defOf L c : Nat)) ∧ Below w.heap.size w w'
  wakenil : ∀ (c : Int) (w : World), Calls Try.prog 11 #[.pointer none, .int .i64 c] w fun e w' => e = .returned (.bool false) ∧ Below w.heap.size w w'
  awakenil : ∀ (w : World), Calls Try.prog 12 #[.pointer none] w fun e w' => (∃ A c, e = .returned (.slice A 0 c)) ∧ Below w.heap.size w w'

section
variable {At : (Nat → Prop) → World → Nat → Nat → Nat → List Cls → Prop}
theorem Prog.below (P : Prog At) {b : Nat → Prop} {w w' : World} {g n Q : Nat} {L : List Cls} (h : At b w g n Q L) (hb : Below w.heap.size w w') : At b w' g n Q L := P.far h (Far.of_below hb nobody) (fun _ _ e => e)
/-- Blocks from B on. -/
def from_ (B : Nat) : Nat → Prop := fun k => B ≤ k
/-- Blocks from B on, but for h. -/
def fromBut (B h : Nat) : Nat → Prop := fun k => B ≤ k ∧ k ≠ h
theorem from_le {w w' : World} (h : Below w.heap.size w w') : ∀ k, w'.heap.size ≤ k → from_ w.heap.size k := fun _ hk => Nat.le_trans h.size hk
theorem from_id {B : Nat} : ∀ k, from_ B k → B ≤ k := fun _ h => h
theorem fromBut_id {B h : Nat} : ∀ k, fromBut B h k → B ≤ k := fun _ h => h.1
theorem vals_no (w : World) : Vals w none 0 (ints []) := Vals.none_
theorem none_not {b : Nat → Prop} {m : Nat} : ∀ ad : Addr, (none : Option Addr) = some ad → 0 < m → ¬ b ad.block := fun _ e => by cases e
theorem len_no : ([] : List Int).length = 0 := rfl
theorem below_far {B : Nat} {w0 w w' : World} {b : Nat → Prop} (h : Below B w0 w) (hf : Far b w w') (hb : ∀ k, b k → B ≤ k) (hB : B ≤ w.heap.size) : Below B w0 w' :=
  h.trans (hf.below hB (fun k hk e => by have := hb k e; omega))

set_option maxHeartbeats 1000000 in
theorem awake_any (P : Prog At) (w : World) : Calls Try.prog 8 #[] w fun e w' => e = .returned (.bool true) ∧ Below w.heap.size w w' := by
  have HP := Lib.hid P
  clear P
  go_enter Try.func8, Try.ntmps8
  go_wp2_with fail
  refine (HP.out.new 1 10 1 10 _ rfl rfl (by decide) (by decide) (by decide) (by decide)).mono ?_
  rintro e w1 ⟨g, rfl, hr, hb⟩
  have R1 := Lib.hid hr
  have B1 := Lib.hid hb
  clear hr hb
  go_wp2_with fail
  refine (HP.out.wake _ g 1 10 0 [] _ R1.out (fun k hk => Nat.le_trans B1.out.size hk)).mono ?_
  rintro e w2 ⟨rfl, hr, hf⟩
  have e1 : canWake 1 [] 0 = true := by decide
  have e2 : wakeOf 1 [] 0 = [⟨0, true, 0⟩] := by rfl
  rw [e2] at hr
  rw [e1]
  have R2 := Lib.hid (HP.out.weak (b' := fromBut w.heap.size w2.heap.size) hr (fun k hk h => ⟨h, by omega⟩))
  have B2 : Hid (Below w.heap.size w w2) := below_far B1.out hf (fun k h => h) B1.out.size
  clear hr hf e1 e2 R1 B1
  go_wp2_with fail
  have R3 := Lib.hid (HP.out.below R2.out (below_one w2 (.cells #[.int .i64 6] 3)))
  have B3 : Hid (Below w.heap.size w (w2.alloc (.cells #[.int .i64 6] 3))) := B2.out.alloc B2.out.size _
  have V3 : Hid (Vals (w2.alloc (.cells #[.int .i64 6] 3)) (some ⟨w2.heap.size, 0, none⟩) 1 (ints [6])) := Vals.of_blk (Blk.new w2 3 (ints [6])) rfl
  have HPK : Hid (Picks 10 (hdOf [6]) [⟨0, true, 0⟩] [⟨0, false, 4⟩] (some 0)) := Picks.takes (x := ⟨0, true, 0⟩) (xs := []) (by decide) (by decide)
  have hsz : (w2.alloc (.cells #[.int .i64 6] 3)).heap.size = w2.heap.size + 1 := by simp
  generalize w2.alloc (.cells #[.int .i64 6] 3) = w3 at *
  refine (HP.out.pick _ g 1 10 _ 1 1 [6] _ _ _ _ R3.out (fun k hk => ⟨by have := B2.out.size; omega, by omega⟩) rfl V3.out (fun ad e _ h => by cases e; exact h.2 rfl) HPK.out).mono ?_
  rintro e w4 ⟨rfl, hr, hf⟩
  have R4 := Lib.hid hr
  have B4 : Hid (Below w.heap.size w w4) := below_far B3.out hf (fun k h => h.1) B3.out.size
  clear hr hf
  go_wp2_with fail
  refine (HP.out.deficit _ g 1 10 0 _ _ R4.out).mono ?_
  rintro e w5 ⟨rfl, hb⟩
  have e1 : defOf [⟨0, false, 4⟩] 0 = 4 := by rfl
  rw [e1]
  have B5 : Hid (Below w.heap.size w w5) := B4.out.trans (hb.mono B4.out.size)
  clear hb e1
  go_wp2_with fail
  go_ret
  exact ⟨rfl, B5.out⟩
theorem keep9 {w w' : World} {a : Addr} {v : Value} (hb : Below w.heap.size w w') (h : w.cell? a = some v) : w'.cell? a = some v := (hb.cell (World.block_lt_of_cell? w _ h)).trans h
set_option maxHeartbeats 1000000 in
theorem ints_alike (A B : Option Addr) (m c c' : Nat) (zs : List Int) (w : World) (hm : m ≤ 1000) (ha : Vals w A m (ints zs)) (hb : Vals w B m (ints zs)) :
    Calls Try.prog 18 #[.slice A m c, .slice B m c'] w fun e w' => e = .returned (.bool true) ∧ Below w.heap.size w w' := by
  have hl : zs.length = m := by have := ha.1; rw [ints_length] at this; exact this
  have HA := Lib.hid ha
  have HB := Lib.hid hb
  have HL := Lib.hid hl
  have W0 : Hid (Below w.heap.size w w) := Below.refl _ w
  clear ha hb hl
  go_enter Try.func18, Try.ntmps18
  go_wp2_with fail
  go_loopw [5, 13] (fun _ y w' => ∃ i : Nat, y = .int .i64 (i : Nat) ∧ i ≤ m ∧ Below w.heap.size w w') (fun _ y _ => m - (intOf y).toNat)
  case atStart => exact ⟨0, rfl, by omega, W0.out⟩
  case round =>
    obtain ⟨i, rfl, hi, hr⟩ := hrel
    have HR := Lib.hid hr
    clear hr W0
    by_cases hlt : i < m
    · have hd : decide ((i : Int) < (m : Int)) = true := by simp; omega
      have hd2 : decide (i < m) = true := by simpa using hlt
      obtain ⟨ad, rfl, h1⟩ := HA.out.at_ (ints_at (zs := zs) (k := i) (by rw [HL.out]; exact hlt))
      obtain ⟨bd, rfl, h2⟩ := HB.out.at_ (ints_at (zs := zs) (k := i) (by rw [HL.out]; exact hlt))
      have c1 := keep9 HR.out h1
      have c2 := keep9 HR.out h2
      clear h1 h2
      generalize zs.getD i 0 = x at *
      go_wp2_with fail
      go_region
      go_wp2_with fail
      go_roundw
      case rel => exact ⟨i + 1, by go_num, by omega, HR.out.drew⟩
      case measure => simp [intOf]; omega
    · have hd : decide ((i : Int) < (m : Int)) = false := by simp; omega
      have hd2 : decide (i < m) = false := by simpa using hlt
      go_wp2
      go_ret
      exact ⟨rfl, HR.out⟩
end
end Go.Proofs.Ytknalphhnicffaa
