/- The contracts of the document's answers for cursor: a number's bytes, what is taken of bytes. Conditions: those of each theorem. -/
import Derived.Test.YtgbnpfaplaolcaaInsMore
import Derived.RegionTactic
import Derived.Deep.RegionHeld3
namespace Go.Proofs.Ytgbnpfaplaolcaa
open Go.RowKit

/-- What Number answers. -/
def NumPost (w : World) (x m : Nat) (e : Ending) (w' : World) : Prop :=
  ∃ A c, e = .returned (.slice A m c) ∧ w'.ownsRow w.heap.size 5 1 (.slice A m c) m (cel (numB x m)) ∧ Below w.heap.size w w'

/-- Where Number's loop stands. -/
def NumRel (w : World) (x m : Nat) (o i : Value) (w' : World) : Prop :=
  ∃ (k j : Nat) (z : Int) (A : Option Addr) (c : Nat) (l : List Int), j + k = m ∧ z = (k : Int) - 1 ∧ i = .int .i64 z ∧ o = .slice A j c ∧ w'.ownsRow w.heap.size 5 1 (.slice A j c) j (cel l) ∧ l ++ numB x k = numB x m ∧ Below w.heap.size w w'

theorem digit_is (x k : Nat) : (x : Int) / 2 ^ (8 * k) % 256 = ((x / 256 ^ k % 256 : Nat) : Int) := by
  have e : (2 : Int) ^ (8 * k) = ((256 ^ k : Nat) : Int) := by
    rw [Int.pow_mul]
    simp
  rw [e]
  omega

set_option maxHeartbeats 1000000 in
theorem refNumber_any (x m : Nat) (w : World) (hm : m ≤ 8) :
    Calls Try.prog 10 #[.int .u64 x, .int .i64 m] w (NumPost w x m) := by
  go_enter Try.func10, Try.ntmps10
  go_wp2
  go_loopw [5, 6] (fun o i w' => NumRel w x m o i w') (fun _ i _ => (intOf i + 1).toNat)
  case atStart => exact ⟨m, 0, _, none, 0, [], by omega, rfl, rfl, rfl, World.ownsRow_nil _ _ _ _, rfl, Below.refl _ _⟩
  case round =>
    obtain ⟨k, j, z, A, c, l, hjk, hz, rfl, rfl, ho, hl, hb⟩ := hrel
    have HO := Lib.hid ho
    have HL := Lib.hid hl
    have HB := Lib.hid hb
    clear ho hl hb
    cases k with
    | zero =>
      obtain rfl : z = -1 := by omega
      obtain rfl : j = m := by omega
      clear hz hjk
      go_wp2
      go_ret
      refine ⟨A, c, rfl, ?_, HB.out⟩
      have e : l = numB x j := by have := HL.out; simpa [numB] using this
      rw [← e]
      exact HO.out
    | succ k =>
      obtain rfl : z = k := by omega
      clear hz
      have hk7 : k ≤ 7 := by omega
      have hj8 : j ≤ 8 := by omega
      have HJ := Lib.hid hjk
      clear hjk
      have hsz := HB.out.size
      go_wp2_with (at_builtin; refine wpList_app rfl (.tmp 13) (.tmp 20) rfl w.heap.size (.slice A j c) j l rfl (by exact HO.out.alloc _) (some ⟨wr.heap.size, 0, none⟩) 1 1 [(x : Int) / 2 ^ (8 * k) % 256] rfl (by exact Byts.of_blk (bs := [(x : Int) / 2 ^ (8 * k) % 256]) (Blk.new wr 5 (cel [(x : Int) / 2 ^ (8 * k) % 256])) 0 (by simp)) (by omega) (by simp; omega) ?_; intro A' c' w' H1 H2 H3)
      go_roundw
      case rel =>
        refine ⟨k, j + 1, _, A', c', _, by have := HJ.out; omega, rfl, rfl, rfl, H1.out, ?_, ?_⟩
        · rw [List.append_assoc, digit_is]
          exact HL.out
        · exact (HB.out.alloc hsz _).grown H2.out (by simp; omega) (fun k e => (HO.out.lt k e).1)
      case measure => simp [intOf]

/-- Z is the slice's address from k on. -/
def CutAt (A : Option Addr) (c k : Nat) (Z : Option Addr) : Prop := Z = if c = k then A else A.map (·.add k)

set_option maxHeartbeats 1000000 in
theorem refRaw_ok (A Z : Option Addr) (n c : Nat) (x : Int) (k : Nat) (w : World) (hxk : x = k) (hk : k ≤ n) (hc : n ≤ c) (hz : CutAt A c k Z) :
    Calls Try.prog 24 #[.agg #[.slice A n c, .bool false], .int .i64 x] w fun e w' => e = .returned (.tuple #[.slice A k c, .agg #[.slice Z (n - k) (c - k), .bool false]]) ∧ Below w.heap.size w w' := by
  subst hxk
  have hkc : k ≤ c := by omega
  have hu := fun W => run_upto (A := A) (n := n) (c := c) (k := k) W hkc
  have hd := fun W => run_from (A := A) (n := n) (c := c) (k := k) W hk
  unfold CutAt at hz
  rw [← hz] at hd
  clear hz
  have hnlt : decide (n < k) = false := by simpa using hk
  have h0 : decide ((k : Int) < 0) = false := by simp
  go_enter Try.func24, Try.ntmps24
  go_wp2
  go_region_held3 (fun w' => w'.cell? ⟨w.heap.size, 0, none⟩ = some (.slice A n c)) (go_keep) (first | fail)
  go_wp2
  exact bodyPost_ret (v := .tuple #[.slice A k c, .agg #[.slice Z (n - k) (c - k), .bool false]]) (by simp [results, Try.results24, go_sem]) rfl ⟨rfl, (((Below.refl _ _).alloc (Nat.le_refl _) _).alloc (by simp) _).drew⟩

/-- Why nothing is taken. -/
def NoRaw (bad : Bool) (n : Nat) (x : Int) : Prop := bad = true ∨ x < 0 ∨ (n : Int) < x

set_option maxHeartbeats 1000000 in
theorem refRaw_bad (A : Option Addr) (n c : Nat) (bad : Bool) (x : Int) (w : World) (h : NoRaw bad n x) :
    Calls Try.prog 24 #[.agg #[.slice A n c, .bool bad], .int .i64 x] w fun e w' => e = .returned (.tuple #[.slice none 0 0, .agg #[.slice none 0 0, .bool true]]) ∧ Below w.heap.size w w' := by
  cases bad
  · by_cases hx : x < 0
    · have h0 : decide (x < 0) = true := by simpa using hx
      clear h
      go_enter Try.func24, Try.ntmps24
      go_wp2
      exact bodyPost_ret (v := .tuple #[.slice none 0 0, .agg #[.slice none 0 0, .bool true]]) (by simp [results, Try.results24, go_sem]) rfl ⟨rfl, ((Below.refl _ _).alloc (Nat.le_refl _) _).alloc (by simp) _⟩
    · have hx2 : (n : Int) < x := by rcases h with h | h | h <;> first | cases h | omega
      have h0 : decide (x < 0) = false := by simpa using hx
      have h1 : decide ((n : Int) < x) = true := by simpa using hx2
      clear h
      go_enter Try.func24, Try.ntmps24
      go_wp2
      exact bodyPost_ret (v := .tuple #[.slice none 0 0, .agg #[.slice none 0 0, .bool true]]) (by simp [results, Try.results24, go_sem]) rfl ⟨rfl, ((Below.refl _ _).alloc (Nat.le_refl _) _).alloc (by simp) _⟩
  · clear h
    go_enter Try.func24, Try.ntmps24
    go_wp2
    exact bodyPost_ret (v := .tuple #[.slice none 0 0, .agg #[.slice none 0 0, .bool true]]) (by simp [results, Try.results24, go_sem]) rfl ⟨rfl, ((Below.refl _ _).alloc (Nat.le_refl _) _).alloc (by simp) _⟩

theorem add_step (s b : Int) (h0 : 0 ≤ s) (h1 : s < 72057594037927936) (hb0 : 0 ≤ b) (hb1 : b ≤ 255) :
    IntKind.u64.wrap (s * 256 + IntKind.u64.wrap b) = s * 256 + b := by
  have e2 : IntKind.u64.wrap b = b := by rw [IntKind.wrap_u64]; omega
  rw [e2, IntKind.wrap_u64]
  omega

set_option maxHeartbeats 1000000 in
theorem refTake_ok (A Z : Option Addr) (n c : Nat) (bs l : List Int) (x : Int) (k : Nat) (w : World) (hxk : x = k) (hk : k ≤ n) (hc : n ≤ c) (hz : CutAt A c k Z) (hb : Byts w A n bs) (hl : bs.take k = l) (ho : Octs l) (h8 : k ≤ 8) :
    Calls Try.prog 18 #[.agg #[.slice A n c, .bool false], .int .i64 x] w fun e w' => e = .returned (.tuple #[.int .u64 (numF 0 l), .agg #[.slice Z (n - k) (c - k), .bool false]]) ∧ Below w.heap.size w w' := by
  subst hxk
  have HZ := Lib.hid hz
  have HB := Lib.hid hb
  have HL := Lib.hid hl
  have HO := Lib.hid ho
  clear hz hb hl ho
  go_enter Try.func18, Try.ntmps18
  go_wp2_with (go_at_call 24; (with_reducible refine (refRaw_ok A Z n c k k _ rfl hk hc HZ.out).mono ?_); rintro e w1 ⟨rfl, hb⟩; have HW := Lib.hid hb; clear hb)
  have hsz : w.heap.size + 2 ≤ w1.heap.size := by have := HW.out.size; simpa using this
  have HX : Hid (Blk w1 (w.heap.size + 1) 41 [.slice none 0 0, .bool false]) := by
    have e := HW.out.block (w.heap.size + 1) (by simp)
    refine e.trans ?_
    have := Blk.new (w.alloc (.cells #[.slice A n c, .bool false] 41)) 41 [.slice none 0 0, .bool false]
    simpa [Blk] using this
  have HB1 : Hid (Below w.heap.size w w1) := by
    have h2 : Below w.heap.size w ((w.alloc (.cells #[.slice A n c, .bool false] 41)).alloc (.cells #[.slice none 0 0, .bool false] 41)) := ((Below.refl _ _).alloc (Nat.le_refl _) _).alloc (by simp) _
    exact h2.trans (HW.out.mono (by simp; omega))
  have HX2 := Lib.hid (HX.out.alloc (.cells #[.slice Z (n - k) (c - k), .bool false] 41))
  have hx0 : (w1.alloc (.cells #[.slice Z (n - k) (c - k), .bool false] 41)).cell? ⟨w.heap.size + 1, 0, none⟩ = some (.slice none 0 0) := HX2.out.cell 0
  have hx1 : (w1.alloc (.cells #[.slice Z (n - k) (c - k), .bool false] 41)).cell? ⟨w.heap.size + 1, 1, none⟩ = some (.bool false) := HX2.out.cell 1
  have hy0 := HX2.out.frozen 0
  have hy1 := HX2.out.frozen 1
  have HT : Hid (Byts (w1.alloc (.cells #[.slice Z (n - k) (c - k), .bool false] 41)) A k l) := by
    have := ((HB.out.below HB1.out).upto hk).below ((Below.refl _ _).alloc (Nat.le_refl _) (.cells #[.slice Z (n - k) (c - k), .bool false] 41))
    rwa [HL.out] at this
  clear HW
  go_loop [8, 9, 18] (fun s _ i => ∃ j : Nat, j ≤ k ∧ i = .int .i64 j ∧ s = .int .u64 (numF 0 (l.take j))) (fun _ _ i => k - (intOf i).toNat)
  case atStart => exact ⟨0, Nat.zero_le _, rfl, rfl⟩
  case round =>
    obtain ⟨j, hj, rfl, rfl⟩ := hrel
    by_cases hlt : j < k
    · obtain ⟨ad, rfl, hcc⟩ := HT.out.at_ hlt
      have hbt := HO.out.at_ j
      have hrm := numF_room l j HO.out (by omega)
      have HE : Hid (IntKind.u64.wrap (numF 0 (l.take j) * 256 + IntKind.u64.wrap (l[j]?.getD 0)) = numF 0 (l.take (j + 1))) := by
        have e := add_step (numF 0 (l.take j)) (l.getD j 0) hrm.1 hrm.2 hbt.1 hbt.2
        rw [← numF_take l j (by have := HT.out.1; omega)] at e
        exact e
      go_wp2
      go_round
      case rel => exact ⟨j + 1, by omega, by go_num, by rw [HE.out]⟩
      case measure => simp [intOf]; omega
    · have hne : w1.heap.size ≠ w.heap.size + 1 := by omega
      have hne2 : w.heap.size + 1 ≠ w1.heap.size := by omega
      go_wp2
      go_region
      go_wp2
      have HX3 := (HX2.out.set_ 0 (.slice Z (n - k) (c - k))).set_ 1 (.bool false)
      have hz0 := HX3.cell 0
      have hz1 := HX3.cell 1
      rw [List.take_of_length_le (by have := HT.out.1; omega)]
      refine bodyPost_ret (v := .tuple #[.int .u64 (numF 0 l), .agg #[.slice Z (n - k) (c - k), .bool false]]) (by simp [results, Try.results18, go_sem, hz0, hz1]) rfl ⟨rfl, ?_⟩
      exact (((HB1.out.alloc (by omega) _).setCell (by simp) _).setCell (by simp) _).drew

set_option maxHeartbeats 1000000 in
theorem refTake_bad (A : Option Addr) (n c : Nat) (bad : Bool) (x : Int) (w : World) (h : NoRaw bad n x) :
    Calls Try.prog 18 #[.agg #[.slice A n c, .bool bad], .int .i64 x] w fun e w' => e = .returned (.tuple #[.int .u64 0, .agg #[.slice none 0 0, .bool true]]) ∧ Below w.heap.size w w' := by
  have H := Lib.hid h
  clear h
  go_enter Try.func18, Try.ntmps18
  go_wp2_with (go_at_call 24; (with_reducible refine (refRaw_bad A n c bad x _ H.out).mono ?_); rintro e w1 ⟨rfl, hb⟩; have HW := Lib.hid hb; clear hb)
  have hsz : w.heap.size + 2 ≤ w1.heap.size := by have := HW.out.size; simpa using this
  have HX : Hid (Blk w1 (w.heap.size + 1) 41 [.slice none 0 0, .bool false]) := by
    have e := HW.out.block (w.heap.size + 1) (by simp)
    refine e.trans ?_
    have := Blk.new (w.alloc (.cells #[.slice A n c, .bool bad] 41)) 41 [.slice none 0 0, .bool false]
    simpa [Blk] using this
  have HB1 : Hid (Below w.heap.size w w1) := by
    have h2 : Below w.heap.size w ((w.alloc (.cells #[.slice A n c, .bool bad] 41)).alloc (.cells #[.slice none 0 0, .bool false] 41)) := ((Below.refl _ _).alloc (Nat.le_refl _) _).alloc (by simp) _
    exact h2.trans (HW.out.mono (by simp; omega))
  have HX2 := Lib.hid (HX.out.alloc (.cells #[.slice none 0 0, .bool true] 41))
  have hx0 : (w1.alloc (.cells #[.slice none 0 0, .bool true] 41)).cell? ⟨w.heap.size + 1, 0, none⟩ = some (.slice none 0 0) := HX2.out.cell 0
  have hx1 : (w1.alloc (.cells #[.slice none 0 0, .bool true] 41)).cell? ⟨w.heap.size + 1, 1, none⟩ = some (.bool false) := HX2.out.cell 1
  have hy0 := HX2.out.frozen 0
  have hy1 := HX2.out.frozen 1
  clear HW
  go_loop [8, 9, 18] (fun s _ i => i = .int .i64 0 ∧ s = .int .u64 0) (fun _ _ _ => 0)
  case atStart => exact ⟨rfl, rfl⟩
  case round =>
    obtain ⟨rfl, rfl⟩ := hrel
    have hne : w1.heap.size ≠ w.heap.size + 1 := by omega
    have hne2 : w.heap.size + 1 ≠ w1.heap.size := by omega
    go_wp2
    go_region
    go_wp2
    have HX3 := (HX2.out.set_ 0 (.slice none 0 0)).set_ 1 (.bool true)
    have hz0 := HX3.cell 0
    have hz1 := HX3.cell 1
    refine bodyPost_ret (v := .tuple #[.int .u64 0, .agg #[.slice none 0 0, .bool true]]) (by simp [results, Try.results18, go_sem, hz0, hz1]) rfl ⟨rfl, ?_⟩
    exact (((HB1.out.alloc (by omega) _).setCell (by simp) _).setCell (by simp) _).drew
end Go.Proofs.Ytgbnpfaplaolcaa
