/- The document's turns in memory: a slice of those that are awake, three cells each; the contracts of its at, Deficit, Awake and with. Conditions: those of each theorem. -/
import Derived.Test.YtknalphhnicffaaSleepWalk
namespace Go.Proofs.Ytknalphhnicffaa
open Go.RowKit

/-- Those that are awake, as cells. -/
def cls : List Cls → List Value
  | [] => []
  | x :: xs => .int .i64 (x.n : Nat) :: .bool x.fresh :: .int .i64 (x.d : Nat) :: cls xs
theorem cls_length (L : List Cls) : (cls L).length = L.length * 3 := by
  induction L with
  | nil => rfl
  | cons x xs ih => simp [cls, ih]; omega
theorem cls_app (a b : List Cls) : cls (a ++ b) = cls a ++ cls b := by
  induction a with
  | nil => rfl
  | cons x xs ih => simp [cls, ih]
theorem cls_one (L : List Cls) : ∀ u ∈ cls L, u.oneCell' = true := by
  induction L with
  | nil => intro u hu; simp [cls] at hu
  | cons x xs ih =>
    intro u hu
    simp [cls] at hu
    rcases hu with rfl | rfl | rfl | hu
    · rfl
    · rfl
    · rfl
    · exact ih u hu
theorem cls_at {L : List Cls} {k : Nat} {x : Cls} (h : L[k]? = some x) : (cls L)[k * 3]? = some (.int .i64 (x.n : Nat)) ∧ (cls L)[k * 3 + 1]? = some (.bool x.fresh) ∧ (cls L)[k * 3 + 2]? = some (.int .i64 (x.d : Nat)) := by
  induction L generalizing k with
  | nil => simp at h
  | cons y ys ih =>
    rcases k with _ | k
    · simp at h
      subst h
      exact ⟨rfl, rfl, rfl⟩
    · simp at h
      obtain ⟨h1, h2, h3⟩ := ih h
      rw [show (k + 1) * 3 = k * 3 + 3 by omega]
      exact ⟨h1, h2, h3⟩
theorem cls_drop (L : List Cls) (k : Nat) : (cls L).drop (k * 3) = cls (L.drop k) := by
  induction L generalizing k with
  | nil => simp [cls]
  | cons y ys ih =>
    rcases k with _ | k
    · rfl
    · rw [show (k + 1) * 3 = k * 3 + 1 + 1 + 1 by omega]
      simp [cls, ih]
theorem cls_take (L : List Cls) (k : Nat) : (cls L).take (k * 3) = cls (L.take k) := by
  induction L generalizing k with
  | nil => simp [cls]
  | cons y ys ih =>
    rcases k with _ | k
    · rfl
    · rw [show (k + 1) * 3 = k * 3 + 1 + 1 + 1 by omega]
      simp [cls, ih]
/-- The slice at A reads as those that are awake, in a block that b lets in. -/
def DocAt (b : Nat → Prop) (w : World) (A : Option Addr) (L : List Cls) : Prop :=
  Vals w A (L.length * 3) (cls L) ∧ ∀ ad, A = some ad → b ad.block ∧ ad.block < w.heap.size
section
variable {b : Nat → Prop} {w w' : World} {A : Option Addr} {L : List Cls}
theorem DocAt.below (h : DocAt b w A L) (hb : Below w.heap.size w w') : DocAt b w' A L := ⟨h.1.below hb, fun ad e => ⟨(h.2 ad e).1, Nat.lt_of_lt_of_le (h.2 ad e).2 hb.size⟩⟩
theorem DocAt.far {S : Nat → Prop} (h : DocAt b w A L) (hf : Far S w w') (hs : ∀ k, b k → ¬ S k) : DocAt b w' A L := ⟨h.1.far hf (fun ad e => hs _ (h.2 ad e).1), fun ad e => ⟨(h.2 ad e).1, Nat.lt_of_lt_of_le (h.2 ad e).2 hf.size⟩⟩
theorem DocAt.weak {b' : Nat → Prop} (h : DocAt b w A L) (hs : ∀ k, k < w.heap.size → b k → b' k) : DocAt b' w A L := ⟨h.1, fun ad e => ⟨hs _ (h.2 ad e).2 (h.2 ad e).1, (h.2 ad e).2⟩⟩
theorem DocAt.at_ (h : DocAt b w A L) {k : Nat} {x : Cls} (hk : L[k]? = some x) : ∃ a : Addr, A = some a ∧ w.cell? (a.add (k * 3)) = some (.int .i64 (x.n : Nat)) ∧ w.cell? ⟨(a.add (k * 3)).block, (a.add (k * 3)).off + 1, none⟩ = some (.bool x.fresh) ∧ w.cell? ⟨(a.add (k * 3)).block, (a.add (k * 3)).off + 2, none⟩ = some (.int .i64 (x.d : Nat)) := by
  obtain ⟨h1, h2, h3⟩ := cls_at hk
  obtain ⟨a, e, c1⟩ := h.1.at_ h1
  obtain ⟨a2, e2, c2⟩ := h.1.at_ h2
  obtain ⟨a3, e3, c3⟩ := h.1.at_ h3
  rw [e] at e2 e3
  cases e2
  cases e3
  exact ⟨a, e, c1, by rw [← addr_one]; exact c2, by rw [← addr_two]; exact c3⟩
end
/-- The document's turns as a value. -/
abbrev doc (A : Option Addr) (m c n Q : Nat) : Value := .agg #[.int .i64 (n : Nat), .int .i64 (Q : Nat), .slice A m c]
abbrev boxOf (A : Option Addr) (m c n Q : Nat) : Obj := .cells #[.int .i64 (n : Nat), .int .i64 (Q : Nat), .slice A m c] 34
/-- It stands in block h. -/
def BoxAt (h : Nat) (A : Option Addr) (m c n Q : Nat) (W : World) : Prop := Blk W h 34 [.int .i64 (n : Nat), .int .i64 (Q : Nat), .slice A m c]
theorem BoxAt.below {h : Nat} {A : Option Addr} {m c n Q : Nat} {w W : World} (hb : BoxAt h A m c n Q w) (hB : Below w.heap.size w W) : BoxAt h A m c n Q W := Blk.far hb (Far.of_below hB nobody) (fun e => e)
theorem BoxAt.cells {h : Nat} {A : Option Addr} {m c n Q : Nat} {W : World} (hb : BoxAt h A m c n Q W) : W.cell? ⟨h, 0, none⟩ = some (.int .i64 (n : Nat)) ∧ W.cell? ⟨h, 1, none⟩ = some (.int .i64 (Q : Nat)) ∧ W.cell? ⟨h, 2, none⟩ = some (.slice A m c) := ⟨hb.cell 0, hb.cell 1, hb.cell 2⟩
theorem BoxAt.kept {h : Nat} {A : Option Addr} {m c n Q : Nat} {w W : World} (hb : BoxAt h A m c n Q w) (hB : Below w.heap.size w W) : W.cell? ⟨h, 0, none⟩ = some (.int .i64 (n : Nat)) ∧ W.cell? ⟨h, 1, none⟩ = some (.int .i64 (Q : Nat)) ∧ W.cell? ⟨h, 2, none⟩ = some (.slice A m c) := (hb.below hB).cells
theorem BoxAt.new (w : World) (A : Option Addr) (m c n Q : Nat) : BoxAt w.heap.size A m c n Q (w.alloc (boxOf A m c n Q)) := Blk.new w 34 _
theorem cell_alloc {w : World} {a : Addr} {v : Value} (h : w.cell? a = some v) (o : Obj) : (w.alloc o).cell? a = some v :=
  (World.cell?_of_block (Below.heap_alloc w o _ (World.block_lt_of_cell? w _ h))).trans h
theorem place_is {L : List Cls} {c : Int} {k : Nat} {x : Cls} (h : ∀ (j : Nat) (y : Cls), j < k → L[j]? = some y → (y.n : Int) ≠ c) (hk : L[k]? = some x) (hx : (x.n : Int) = c) : placeOf L c = (k : Nat) := by
  induction L generalizing k with
  | nil => simp at hk
  | cons y ys ih =>
    unfold placeOf
    rcases k with _ | k
    · simp at hk
      subst hk
      rw [if_pos hx]
      rfl
    · rw [if_neg (h 0 y (by omega) rfl), ih (k := k) (fun j z hj hz => h (j + 1) z (by omega) (by simpa using hz)) (by simpa using hk)]
      rw [if_neg (by omega)]
      omega
theorem place_not {L : List Cls} {c : Int} (h : isIn L c = false) : placeOf L c = -1 := by
  rw [isIn_not] at h
  induction L with
  | nil => rfl
  | cons y ys ih =>
    unfold placeOf
    rw [if_neg (h y (by simp)), ih (fun z hz => h z (by simp [hz]))]
    rfl
theorem place_ex {L : List Cls} {c : Int} (h : isIn L c = true) : ∃ (k : Nat) (x : Cls), L[k]? = some x ∧ (x.n : Int) = c ∧ placeOf L c = (k : Nat) ∧ defOf L c = x.d ∧ sleepOf L c = L.take k ++ sleepOf (L.drop (k + 1)) c := by
  induction L with
  | nil => simp [isIn] at h
  | cons y ys ih =>
    by_cases e : (y.n : Int) = c
    · refine ⟨0, y, rfl, e, by simp [placeOf, e], by simp [defOf, e], by simp [sleepOf, e]⟩
    · have h' : isIn ys c = true := by simpa [isIn, e] using h
      obtain ⟨k, x, h1, h2, h3, h4, h5⟩ := ih h'
      refine ⟨k + 1, x, by simpa using h1, h2, ?_, ?_, ?_⟩
      · unfold placeOf
        rw [if_neg e, h3, if_neg (by omega)]
        omega
      · unfold defOf
        rw [if_neg e]
        exact h4
      · have : sleepOf (y :: ys) c = y :: sleepOf ys c := by simp [sleepOf, e]
        rw [this, h5]
        rfl
/-- Where a class stands no one else does. -/
theorem sleep_at {n Q : Nat} {L : List Cls} {c : Int} (ho : Ok n Q L) (h : isIn L c = true) : ∃ (k : Nat) (x : Cls), L[k]? = some x ∧ placeOf L c = (k : Nat) ∧ defOf L c = x.d ∧ sleepOf L c = L.take k ++ L.drop (k + 1) := by
  obtain ⟨k, x, h1, h2, h3, h4, h5⟩ := place_ex h
  refine ⟨k, x, h1, h3, h4, ?_⟩
  rw [h5]
  congr 1
  unfold sleepOf
  rw [List.filter_eq_self]
  intro y hy
  simp
  intro e
  have hl := (List.getElem?_eq_some_iff.1 h1).1
  have hn := ho.nodup
  have hd : L = L.take k ++ x :: L.drop (k + 1) := by
    have e2 := (List.getElem?_eq_some_iff.1 h1).2
    rw [← e2, ← List.drop_eq_getElem_cons hl, List.take_append_drop]
  rw [hd, names_app] at hn
  simp [names] at hn
  have := (List.nodup_append.1 hn).2.1
  simp at this
  exact this.1 (by rw [← List.map_drop]; exact List.mem_map.2 ⟨y, hy, by omega⟩)
set_option maxHeartbeats 1000000 in
theorem docPlace_ (b : Nat → Prop) (m c n Q : Nat) (A : Option Addr) (x : Int) (L : List Cls) (w : World) (h : DocAt b w A L) (hm : L.length = m) (hm2 : m ≤ 129) :
    Calls Try.prog 26 #[doc A m c n Q, .int .i64 x] w fun e w' => e = .returned (.int .i64 (placeOf L x)) ∧ Below w.heap.size w w' := by
  have HR := Lib.hid h
  have HML := Lib.hid hm
  clear h hm
  go_enter Try.func26, Try.ntmps26
  go_wp2
  go_loop [5, 9] (fun _ i => ∃ k : Nat, k ≤ m ∧ i = .int .i64 k ∧ ∀ (j : Nat) (y : Cls), j < k → L[j]? = some y → (y.n : Int) ≠ x) (fun _ i => m - (intOf i).toNat)
  case atStart => exact ⟨0, by omega, rfl, fun j y hj => absurd hj (by omega)⟩
  case round =>
    obtain ⟨k, hk, rfl, hno⟩ := hrel
    have HNO := Lib.hid hno
    clear hno
    by_cases hlt : k < m
    · have hd : decide ((k : Int) < (m : Int)) = true := by simp; omega
      obtain ⟨y, hy⟩ : ∃ y, L[k]? = some y := ⟨_, List.getElem?_eq_getElem (by have := HML.out; omega)⟩
      obtain ⟨a, rfl, c1, c2, c3⟩ := HR.out.at_ hy
      have c1' := cell_alloc c1 (boxOf (some a) m c n Q)
      have HY := Lib.hid hy
      clear c1 c2 c3 hy
      by_cases hyx : (y.n : Int) = x
      · have hd3 : ((y.n : Int) == x) = true := by simpa using hyx
        have HE : Hid (placeOf L x = (k : Nat)) := place_is HNO.out HY.out hyx
        clear hyx
        go_wp2_with fail
        go_ret
        exact ⟨ret_int (by rw [HE.out]), below_one _ _⟩
      · have hd3 : ((y.n : Int) == x) = false := by simpa using hyx
        have HN2 : Hid (∀ (j : Nat) (z : Cls), j < k + 1 → L[j]? = some z → (z.n : Int) ≠ x) := fun j z hj hz => by
          by_cases e : j = k
          · subst e
            rw [HY.out] at hz
            injection hz with hz
            subst hz
            exact hyx
          · exact HNO.out j z (by omega) hz
        clear hyx
        go_wp2_with fail
        go_round
        case rel => exact ⟨k + 1, by omega, by go_num, HN2.out⟩
        case measure => simp [intOf]; omega
    · obtain rfl : k = m := by omega
      have hd : decide ((k : Int) < (k : Int)) = false := by simp
      have HE : Hid (placeOf L x = -1) := place_not (by
        rw [isIn_not]
        intro y hy
        obtain ⟨i, hi⟩ := List.getElem?_of_mem hy
        exact HNO.out i y (by have := (List.getElem?_eq_some_iff.1 hi).1; have := HML.out; omega) hi)
      go_wp2_with fail
      go_ret
      exact ⟨ret_int (by rw [HE.out]), below_one _ _⟩
set_option maxHeartbeats 1000000 in
theorem docDef_ (b : Nat → Prop) (m c n Q : Nat) (A : Option Addr) (x : Int) (L : List Cls) (w : World) (h : DocAt b w A L) (hm : L.length = m) (hm2 : m ≤ 129) :
    Calls Try.prog 21 #[doc A m c n Q, .int .i64 x] w fun e w' => e = .returned (.int .i64 (defOf L x : Nat)) ∧ Below w.heap.size w w' := by
  have HB := Lib.hid (BoxAt.new w A m c n Q)
  have HW := Lib.hid (below_one w (boxOf A m c n Q))
  have C23 := Lib.hid (docPlace_ b m c n Q A x L _ (h.below HW.out) hm hm2)
  rcases hi : isIn L x with _ | _
  · have e0 : defOf L x = 0 := def_not hi
    rw [place_not hi] at C23
    rw [e0]
    clear h hm hi e0
    go_enter Try.func21, Try.ntmps21
    go_wp2_with (go_at_call 26; (with_reducible refine C23.out.mono ?_); rintro e w3 ⟨rfl, hb⟩; have W3 : Hid (Below w.heap.size w w3) := HW.out.trans (hb.mono HW.out.size); clear hb)
    go_ret
    exact ⟨rfl, W3.out⟩
  · obtain ⟨k, y, h1, h2, h3, h4, _⟩ := place_ex hi
    rw [h3] at C23
    rw [h4]
    obtain ⟨a, rfl, c1, c2, c3⟩ := h.at_ h1
    have hkm : k < m := by have := (List.getElem?_eq_some_iff.1 h1).1; omega
    have HC3 := Lib.hid c3
    clear h hm hi h1 h2 h3 h4 c1 c2 c3
    go_enter Try.func21, Try.ntmps21
    go_wp2_with (go_at_call 26; (with_reducible refine C23.out.mono ?_); rintro e w3 ⟨rfl, hb⟩; have W3 : Hid (Below w.heap.size w w3) := HW.out.trans (hb.mono HW.out.size); obtain ⟨q0, q1, q2⟩ := (HB.out.below hb).cells; have q3 := keep9 W3.out HC3.out; clear hb)
    go_ret
    exact ⟨rfl, W3.out⟩
set_option maxHeartbeats 1000000 in
theorem docWith_ (m c n Q m2 c2 : Nat) (A B : Option Addr) (w : World) :
    Calls Try.prog 27 #[doc A m c n Q, .slice B m2 c2] w fun e w' => e = .returned (doc B m2 c2 n Q) ∧ Below w.heap.size w w' := by
  go_enter Try.func27, Try.ntmps27
  go_wp2
  refine bodyPost_ret (v := doc B m2 c2 n Q) (by simp [results, Try.results27, go_sem]) rfl ⟨rfl, ((Below.refl _ _).alloc (Nat.le_refl _) _).alloc (by simp) _⟩
end Go.Proofs.Ytknalphhnicffaa
