/- The document's answer in memory: lines of places as slices of slices; the contracts of told, and of its New, At and Line. Conditions: those of each theorem. -/
import Derived.Test.YtlbloopiajjpfaaNews
import Derived.Deep.RegionHeld3
namespace Go.Proofs.Ytlbloopiajjpfaa
open Go.RowKit

def nums (xs : List Nat) : List Value := xs.map fun x => Value.int .i64 (x : Nat)
theorem nums_length (xs : List Nat) : (nums xs).length = xs.length := by simp [nums]
theorem nums_app (a b : List Nat) : nums (a ++ b) = nums a ++ nums b := by simp [nums]
theorem nums_one (xs : List Nat) : ∀ u ∈ nums xs, u.oneCell' = true := by
  intro u hu
  obtain ⟨z, _, rfl⟩ := List.mem_map.1 hu
  rfl
theorem nums_at {xs : List Nat} {k p : Nat} (h : xs[k]? = some p) : (nums xs)[k]? = some (Value.int .i64 (p : Nat)) := by simp [nums, h]

/-- A slice that reads as places, in a block that b lets in. -/
def RowAt (b : Nat → Prop) (w : World) (B : Option Addr) (c : Nat) (xs : List Nat) : Prop :=
  Vals w B xs.length (nums xs) ∧ xs.length ≤ c ∧ c ≤ maxLen ∧ ∀ ad, B = some ad → b ad.block ∧ ad.block < w.heap.size
/-- The document's lines: the slice at A reads as slices that read as the lines L; all of it lies in blocks that b lets in. -/
def RefAt (b : Nat → Prop) (w : World) (A : Option Addr) (L : List (List Nat)) : Prop :=
  ∃ vs : List Value, Vals w A L.length vs ∧ (∀ ad, A = some ad → b ad.block ∧ ad.block < w.heap.size) ∧ ∀ (l : Nat) (xs : List Nat), L[l]? = some xs → ∃ (B : Option Addr) (c : Nat), vs[l]? = some (.slice B xs.length c) ∧ RowAt b w B c xs
section
variable {b : Nat → Prop} {c : Nat} {w w' : World} {A B : Option Addr} {xs : List Nat} {L : List (List Nat)}
theorem RowAt.below (h : RowAt b w B c xs) (hb : Below w.heap.size w w') : RowAt b w' B c xs := ⟨h.1.below hb, h.2.1, h.2.2.1, fun ad e => ⟨(h.2.2.2 ad e).1, Nat.lt_of_lt_of_le (h.2.2.2 ad e).2 hb.size⟩⟩
theorem RowAt.far {S : Nat → Prop} (h : RowAt b w B c xs) (hf : Far S w w') (hs : ∀ k, b k → ¬ S k) : RowAt b w' B c xs := ⟨h.1.far hf (fun ad e => hs _ (h.2.2.2 ad e).1), h.2.1, h.2.2.1, fun ad e => ⟨(h.2.2.2 ad e).1, Nat.lt_of_lt_of_le (h.2.2.2 ad e).2 hf.size⟩⟩
theorem RowAt.weak {b' : Nat → Prop} (h : RowAt b w B c xs) (hs : ∀ k, k < w.heap.size → b k → b' k) : RowAt b' w B c xs := ⟨h.1, h.2.1, h.2.2.1, fun ad e => ⟨hs _ (h.2.2.2 ad e).2 (h.2.2.2 ad e).1, (h.2.2.2 ad e).2⟩⟩
theorem RefAt.below (h : RefAt b w A L) (hb : Below w.heap.size w w') : RefAt b w' A L := by
  obtain ⟨vs, h1, h2, h3⟩ := h
  refine ⟨vs, h1.below hb, fun ad e => ⟨(h2 ad e).1, Nat.lt_of_lt_of_le (h2 ad e).2 hb.size⟩, fun l xs hl => ?_⟩
  obtain ⟨B, c, e, hr⟩ := h3 l xs hl
  exact ⟨B, c, e, hr.below hb⟩
theorem RefAt.far {S : Nat → Prop} (h : RefAt b w A L) (hf : Far S w w') (hs : ∀ k, b k → ¬ S k) : RefAt b w' A L := by
  obtain ⟨vs, h1, h2, h3⟩ := h
  refine ⟨vs, h1.far hf (fun ad e => hs _ (h2 ad e).1), fun ad e => ⟨(h2 ad e).1, Nat.lt_of_lt_of_le (h2 ad e).2 hf.size⟩, fun l xs hl => ?_⟩
  obtain ⟨B, c, e, hr⟩ := h3 l xs hl
  exact ⟨B, c, e, hr.far hf hs⟩
theorem RefAt.weak {b' : Nat → Prop} (h : RefAt b w A L) (hs : ∀ k, k < w.heap.size → b k → b' k) : RefAt b' w A L := by
  obtain ⟨vs, h1, h2, h3⟩ := h
  refine ⟨vs, h1, fun ad e => ⟨hs _ (h2 ad e).2 (h2 ad e).1, (h2 ad e).2⟩, fun l xs hl => ?_⟩
  obtain ⟨B, c, e, hr⟩ := h3 l xs hl
  exact ⟨B, c, e, hr.weak hs⟩
/-- A line's cell. -/
theorem RefAt.row (h : RefAt b w A L) {l : Nat} (hl : L[l]? = some xs) : ∃ (ad : Addr) (B : Option Addr) (c : Nat), A = some ad ∧ w.cell? (ad.add l) = some (.slice B xs.length c) ∧ RowAt b w B c xs := by
  obtain ⟨vs, h1, h2, h3⟩ := h
  obtain ⟨B, c, e, hr⟩ := h3 l xs hl
  obtain ⟨ad, ha, hc⟩ := h1.at_ e
  exact ⟨ad, B, c, ha, hc, hr⟩
theorem RowAt.at_ (h : RowAt b w B c xs) {k p : Nat} (hk : xs[k]? = some p) : ∃ ad : Addr, B = some ad ∧ w.cell? (ad.add k) = some (.int .i64 (p : Nat)) := h.1.at_ (nums_at hk)
end
theorem cell_alloc {w : World} {a : Addr} {v : Value} (h : w.cell? a = some v) (o : Obj) : (w.alloc o).cell? a = some v :=
  (World.cell?_of_block (Below.heap_alloc w o _ (World.block_lt_of_cell? w _ h))).trans h

set_option maxHeartbeats 400000 in
theorem told_ (o : Option Nat) (x : Int) (bb : Bool) (z : Int) (w : World) (hx : x = toNum o) (hb : bb = o.isSome) (hz : z = toInt o) :
    Calls Try.prog 14 #[.int .i64 x, .bool bb, .int .i64 z] w fun e w' => e = .returned (.bool true) ∧ w = w' := by
  subst hx hb hz
  rcases o with _ | k
  · show Calls Try.prog 14 #[.int .i64 0, .bool false, .int .i64 (-1)] w _
    go_enter Try.func14, Try.ntmps14
    go_wp2
    go_ret
    exact ⟨rfl, rfl⟩
  · show Calls Try.prog 14 #[.int .i64 (k : Nat), .bool true, .int .i64 (k : Nat)] w _
    have hd : decide ((0 : Int) ≤ (k : Int)) = true := by simp
    go_enter Try.func14, Try.ntmps14
    go_wp2
    go_ret
    exact ⟨rfl, rfl⟩
set_option maxHeartbeats 400000 in
theorem refNew_ (n m : Nat) (w : World) (hn : n ≤ 129) :
    Calls Try.prog 11 #[.int .i64 (n : Nat), .int .i64 (m : Nat)] w fun e w' => (∃ A c, e = .returned (.agg #[.slice A n c, .int .i64 (m : Nat)]) ∧ RefAt (fun k => w.heap.size ≤ k) w' A (List.replicate n [])) ∧ Below w.heap.size w w' := by
  have hmk := fun W => run_make_row' (P := Try.prog) 30 60 (.slice none 0 0) 24 Try.underlying30 (by kernel_rfl) rfl .i64 .i64 n (by omega) (by omega) W
  go_enter Try.func11, Try.ntmps11
  go_wp2
  refine bodyPost_ret (v := .agg #[.slice (some ⟨w.heap.size + 1, 0, none⟩) n n, .int .i64 (m : Nat)]) (by simp [results, Try.results11, go_sem]) rfl ⟨⟨_, _, rfl, ?_⟩, ((Below.refl _ _).alloc (Nat.le_refl _) _).alloc (by simp) _⟩
  have hB := Blk.new (w.alloc (Obj.cells #[Value.slice (some ⟨w.heap.size + 1, 0, none⟩) n n, Value.int IntKind.i64 (m : Nat)] 32)) 60 (madeCells #[Value.slice none 0 0] n).toList
  have hV := Vals.of_blk (n := n) hB (by simpa using size_madeCells #[Value.slice none 0 0] n)
  refine ⟨(madeCells #[Value.slice none 0 0] n).toList, ?_, ?_, ?_⟩
  · simpa using hV
  · rintro ad e
    injection e with e
    subst e
    exact ⟨Nat.le_succ _, by simp⟩
  · intro l xs hl
    rw [List.getElem?_replicate] at hl
    split at hl
    case isTrue hi =>
      injection hl with hl
      subst hl
      exact ⟨none, 0, by rw [toList_madeCells_one, List.getElem?_replicate, if_pos hi]; rfl, Vals.none_, Nat.le_refl _, Nat.zero_le _, fun ad e => by cases e⟩
    case isFalse => cases hl
set_option maxHeartbeats 1000000 in
theorem refAtNo_ (b : Nat → Prop) (n m c : Nat) (A : Option Addr) (x k : Int) (L : List (List Nat)) (w : World) (h : RefAt b w A L) (hn : L.length = n) (e : atOf L x k = none) :
    Calls Try.prog 15 #[.agg #[.slice A n c, .int .i64 (m : Nat)], .int .i64 x, .int .i64 k] w fun e w' => e = .returned (.int .i64 (-1)) ∧ Below w.heap.size w w' := by
  have hk := atOf_none e
  by_cases hx : x < 0
  · have hd : decide (x < 0) = true := by simp; omega
    clear h e hk
    go_enter Try.func15, Try.ntmps15
    go_wp2
    go_ret
    exact ⟨rfl, (Below.refl _ _).alloc (Nat.le_refl _) _⟩
  · have hd : decide (x < 0) = false := by simp; omega
    by_cases hx2 : (n : Int) ≤ x
    · have hd2 : decide ((n : Int) ≤ x) = true := by simp; omega
      clear h e hk
      go_enter Try.func15, Try.ntmps15
      go_wp2
      go_ret
      exact ⟨rfl, (Below.refl _ _).alloc (Nat.le_refl _) _⟩
    · have hd2 : decide ((n : Int) ≤ x) = false := by simp; omega
      by_cases hk0 : k < 0
      · have hd3 : decide (k < 0) = true := by simp; omega
        clear h e hk
        go_enter Try.func15, Try.ntmps15
        go_wp2
        go_ret
        exact ⟨rfl, (Below.refl _ _).alloc (Nat.le_refl _) _⟩
      · have hd3 : decide (k < 0) = false := by simp; omega
        obtain ⟨l, rfl⟩ : ∃ l : Nat, x = l := ⟨x.toNat, by omega⟩
        have hln : l < n := by omega
        have hl : L[l]? = some L[l] := List.getElem?_eq_getElem (by omega)
        have hlen : lenOf L l = L[l].length := by simp [lenOf, rowOf_nat hl]
        rw [hlen] at hk
        obtain ⟨ad, B, c2, rfl, hc, hr⟩ := h.row hl
        have hc' := cell_alloc hc (Obj.cells #[Value.slice (some ad) n c, Value.int IntKind.i64 (m : Nat)] 32)
        generalize L[l].length = r at *
        have hd4 : decide ((r : Int) ≤ k) = true := by simp; omega
        clear h hr e hc hk hl hlen
        go_enter Try.func15, Try.ntmps15
        go_wp2
        go_ret
        exact ⟨rfl, (Below.refl _ _).alloc (Nat.le_refl _) _⟩
set_option maxHeartbeats 1000000 in
theorem refAt_ (b : Nat → Prop) (n m c : Nat) (A : Option Addr) (x k : Int) (L : List (List Nat)) (w : World) (h : RefAt b w A L) (hn : L.length = n) :
    Calls Try.prog 15 #[.agg #[.slice A n c, .int .i64 (m : Nat)], .int .i64 x, .int .i64 k] w fun e w' => e = .returned (.int .i64 (toInt (atOf L x k))) ∧ Below w.heap.size w w' := by
  rcases e : atOf L x k with _ | p
  · exact refAtNo_ b n m c A x k L w h hn e
  · obtain ⟨l, j, xs, rfl, rfl, hl, hj, hlen⟩ := atOf_some e
    have hln : l < n := by have := (List.getElem?_eq_some_iff.1 hl).1; omega
    have hjl := (List.getElem?_eq_some_iff.1 hj).1
    obtain ⟨ad, B, c2, rfl, hc, hr⟩ := h.row hl
    obtain ⟨ad2, rfl, hc2⟩ := hr.at_ hj
    have hc' := cell_alloc hc (Obj.cells #[Value.slice (some ad) n c, Value.int IntKind.i64 (m : Nat)] 32)
    have hc2' := cell_alloc hc2 (Obj.cells #[Value.slice (some ad) n c, Value.int IntKind.i64 (m : Nat)] 32)
    generalize xs.length = r at *
    have d1 : decide ((l : Int) < 0) = false := by simp
    have d2 : decide ((n : Int) ≤ (l : Int)) = false := by simp; omega
    have d2' : decide (n ≤ l) = false := by simp; omega
    have d3 : decide ((j : Int) < 0) = false := by simp
    have d4 : decide ((r : Int) ≤ (j : Int)) = false := by simp; omega
    have d4' : decide (r ≤ j) = false := by simp; omega
    clear h hr e hc hc2 hl hj hlen hn
    show Calls Try.prog 15 _ w fun e w' => e = .returned (.int .i64 (p : Nat)) ∧ Below w.heap.size w w'
    go_enter Try.func15, Try.ntmps15
    go_wp2
    go_ret
    exact ⟨rfl, (Below.refl _ _).alloc (Nat.le_refl _) _⟩
theorem lineOf_is {L : List (List Nat)} {y : Int} {k p : Nat} {xs : List Nat} (h : ∀ (l : Nat) (xs : List Nat), l < k → L[l]? = some xs → ∀ p ∈ xs, ((p : Nat) : Int) ≠ y) (hk : L[k]? = some xs) (hp : p ∈ xs) (hy : (p : Int) = y) : lineOf L y = some k := by
  subst hy
  unfold lineOf
  rw [if_pos (by omega), List.findIdx?_eq_some_iff_getElem]
  obtain ⟨hkl, e⟩ := List.getElem?_eq_some_iff.1 hk
  refine ⟨hkl, by simpa [e] using hp, fun j hj => ?_⟩
  have := h j L[j] (by omega) (List.getElem?_eq_getElem (by omega)) p
  simp
  exact fun hm => this hm rfl
theorem lineOf_not {L : List (List Nat)} {y : Int} {n : Nat} (h : ∀ (l : Nat) (xs : List Nat), l < n → L[l]? = some xs → ∀ p ∈ xs, ((p : Nat) : Int) ≠ y) (hn : L.length ≤ n) : lineOf L y = none := by
  rcases e : lineOf L y with _ | l
  · rfl
  · obtain ⟨p, xs, rfl, hl, hp⟩ := lineOf_some e
    exact absurd rfl (h l xs (by have := (List.getElem?_eq_some_iff.1 hl).1; omega) hl p hp)
set_option maxHeartbeats 1000000 in
theorem refLine_ (b : Nat → Prop) (n m c : Nat) (A : Option Addr) (y : Int) (L : List (List Nat)) (w : World) (h : RefAt b w A L) (hn : L.length = n) (hnn : n ≤ 129) (hshort : ∀ (l : Nat) (xs : List Nat), L[l]? = some xs → xs.length ≤ 4096) :
    Calls Try.prog 24 #[.agg #[.slice A n c, .int .i64 (m : Nat)], .int .i64 y] w fun e w' => e = .returned (.int .i64 (toInt (lineOf L y))) ∧ Below w.heap.size w w' := by
  have HR := Lib.hid h
  have HSH := Lib.hid hshort
  have HNL := Lib.hid hn
  clear h hshort hn
  go_enter Try.func24, Try.ntmps24
  go_wp2
  go_loop [5, 6, 10] (fun _ _ i => ∃ k : Nat, k ≤ n ∧ i = .int .i64 k ∧ ∀ (l : Nat) (xs : List Nat), l < k → L[l]? = some xs → ∀ p ∈ xs, ((p : Nat) : Int) ≠ y) (fun _ _ i => n - (intOf i).toNat)
  case atStart => exact ⟨0, by omega, rfl, fun l xs hl => absurd hl (by omega)⟩
  case round =>
    obtain ⟨k, hk, rfl, hno⟩ := hrel
    have HNO := Lib.hid hno
    clear hno
    by_cases hlt : k < n
    · have hd : decide ((k : Int) < (n : Int)) = true := by simp; omega
      obtain ⟨xs, hl⟩ : ∃ xs, L[k]? = some xs := ⟨_, List.getElem?_eq_getElem (by have := HNL.out; omega)⟩
      obtain ⟨ad, B, c2, rfl, hc, hr⟩ := HR.out.row hl
      have hc' := cell_alloc hc (Obj.cells #[Value.slice (some ad) n c, Value.int IntKind.i64 (m : Nat)] 32)
      have hsh := HSH.out k _ hl
      have HL := Lib.hid hl
      have HRW := Lib.hid hr
      clear hc hr hl
      go_wp2_with fail
      go_loop [6, 19] (fun _ i => ∃ j : Nat, j ≤ xs.length ∧ i = .int .i64 j ∧ ∀ (i p : Nat), i < j → xs[i]? = some p → (p : Int) ≠ y) (fun _ i => xs.length - (intOf i).toNat)
      case atStart => exact ⟨0, by omega, rfl, fun i p hi => absurd hi (by omega)⟩
      case round =>
        obtain ⟨j, hj, rfl, hno2⟩ := hrel
        have HNO2 := Lib.hid hno2
        clear hno2
        by_cases hlt2 : j < xs.length
        · have hd2 : decide ((j : Int) < (xs.length : Int)) = true := by simp; omega
          obtain ⟨p, hp⟩ : ∃ p, xs[j]? = some p := ⟨_, List.getElem?_eq_getElem hlt2⟩
          obtain ⟨ad2, rfl, hc2⟩ := HRW.out.at_ hp
          have hc2' := cell_alloc hc2 (Obj.cells #[Value.slice (some ad) n c, Value.int IntKind.i64 (m : Nat)] 32)
          have HP := Lib.hid hp
          clear hc2 hp
          by_cases hpy : (p : Int) = y
          · have hd3 : decide ((p : Int) = y) = true := by simp; omega
            have HE : Hid (lineOf L y = some k) := lineOf_is HNO.out HL.out (List.mem_of_getElem? HP.out) hpy
            go_wp2_with fail
            go_ret
            exact ⟨by rw [HE.out]; rfl, (Below.refl _ _).alloc (Nat.le_refl _) _⟩
          · have hd3 : decide ((p : Int) = y) = false := by simp; omega
            go_wp2_with fail
            go_round
            case rel =>
              refine ⟨j + 1, by omega, by go_num, fun i p' hi hp' => ?_⟩
              by_cases e : i = j
              · subst e
                rw [HP.out] at hp'
                injection hp' with hp'
                subst hp'
                exact hpy
              · exact HNO2.out i p' (by omega) hp'
            case measure => simp [intOf]; omega
        · obtain rfl : j = xs.length := by omega
          have hd2 : decide ((xs.length : Int) < (xs.length : Int)) = false := by simp
          go_wp2_with fail
          go_round
          case rel =>
            refine ⟨k + 1, by omega, by go_num, fun l xs' hl hxs' p hp => ?_⟩
            by_cases e : l = k
            · subst e
              rw [HL.out] at hxs'
              injection hxs' with hxs'
              subst hxs'
              obtain ⟨i, hi⟩ := List.getElem?_of_mem hp
              exact HNO2.out i p (List.getElem?_eq_some_iff.1 hi).1 hi
            · exact HNO.out l xs' (by omega) hxs' p hp
          case measure => simp [intOf]; omega
    · obtain rfl : k = n := by omega
      have hd : decide ((k : Int) < (k : Int)) = false := by simp
      have HE : Hid (lineOf L y = none) := lineOf_not HNO.out (by rw [HNL.out]; exact Nat.le_refl _)
      go_wp2_with fail
      go_ret
      exact ⟨by rw [HE.out]; rfl, (Below.refl _ _).alloc (Nat.le_refl _) _⟩
end Go.Proofs.Ytlbloopiajjpfaa
