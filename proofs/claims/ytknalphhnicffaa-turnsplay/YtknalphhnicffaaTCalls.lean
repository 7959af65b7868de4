/- The turns in memory (TAt): one block of 390 cells; the contracts of the calls that only read. Conditions: those of each theorem. -/
import Derived.Test.YtknalphhnicffaaTNums
namespace Go.Proofs.Ytknalphhnicffaa
open Go.RowKit

/-- Turns at block g. -/
def TAt (b : Nat → Prop) (w : World) (g n Q : Nat) (L : List Cls) : Prop :=
  b g ∧ n ≤ 129 ∧ 1 ≤ Q ∧ Q ≤ 1073741824 ∧ Ok n Q L ∧ ∃ cs, Blk w g 65 cs ∧ Good n Q L cs
section
variable {b b' : Nat → Prop} {w w' : World} {g n Q : Nat} {L : List Cls}
theorem TAt.far {S : Nat → Prop} (h : TAt b w g n Q L) (hf : Far S w w') (hs : ∀ k, b k → ¬ S k) : TAt b w' g n Q L := by
  obtain ⟨h1, h2, h3, h4, h5, cs, h6, h7⟩ := h
  exact ⟨h1, h2, h3, h4, h5, cs, h6.far hf (hs g h1), h7⟩
theorem TAt.weak (h : TAt b w g n Q L) (hs : ∀ k, k < w.heap.size → b k → b' k) : TAt b' w g n Q L := by
  obtain ⟨h1, h2, h3, h4, h5, cs, h6, h7⟩ := h
  exact ⟨hs g h6.lt h1, h2, h3, h4, h5, cs, h6, h7⟩
theorem TAt.below (h : TAt b w g n Q L) (hb : Below w.heap.size w w') : TAt b w' g n Q L := h.far (Far.of_below hb nobody) (fun _ _ e => e)
theorem TAt.ok (h : TAt b w g n Q L) : Ok n Q L := h.2.2.2.2.1
theorem TAt.n_le (h : TAt b w g n Q L) : n ≤ 129 := h.2.1
theorem TAt.len_le (h : TAt b w g n Q L) : L.length ≤ 129 := Nat.le_trans h.ok.length_le h.n_le
theorem TAt.cn (h : TAt b w g n Q L) : w.cell? ⟨g, 1, none⟩ = some (.int .i64 (n : Nat)) := by
  obtain ⟨h1, h2, h3, h4, h5, cs, h6, h7⟩ := h
  rw [h6.cell, h7.n]
theorem TAt.cq (h : TAt b w g n Q L) : w.cell? ⟨g, 0, none⟩ = some (.int .i64 (Q : Nat)) := by
  obtain ⟨h1, h2, h3, h4, h5, cs, h6, h7⟩ := h
  rw [h6.cell, h7.q]
theorem TAt.ck (h : TAt b w g n Q L) : w.cell? ⟨g, 260, none⟩ = some (.int .i64 (L.length : Nat)) := by
  obtain ⟨h1, h2, h3, h4, h5, cs, h6, h7⟩ := h
  rw [h6.cell, h7.k]
theorem TAt.cd (h : TAt b w g n Q L) {c : Nat} (hc : c < 129) : w.cell? ⟨g, 2 + c * 2, none⟩ = some (.int .i64 (defOf L c : Nat)) := by
  obtain ⟨h1, h2, h3, h4, h5, cs, h6, h7⟩ := h
  rw [h6.cell, h7.d c hc]
theorem TAt.cf (h : TAt b w g n Q L) {c : Nat} (hc : c < 129) : w.cell? ⟨g, 2 + c * 2 + 1, none⟩ = some (.bool (freOf L c)) := by
  obtain ⟨h1, h2, h3, h4, h5, cs, h6, h7⟩ := h
  rw [h6.cell, h7.f c hc]
theorem TAt.co (h : TAt b w g n Q L) {x : Cls} {xs : List Cls} (he : L = x :: xs) : w.cell? ⟨g, 261, none⟩ = some (.int .i64 (x.n : Nat)) := by
  subst he
  obtain ⟨h1, h2, h3, h4, h5, cs, h6, h7⟩ := h
  rw [h6.cell]
  exact h7.line 0 x.n rfl
theorem TAt.vals (h : TAt b w g n Q L) : Vals w (some ⟨g, 261, none⟩) L.length (ints (who L)) := by
  obtain ⟨h1, h2, h3, h4, h5, cs, h6, h7⟩ := h
  refine ⟨by rw [ints_length, who_length], fun _ => ⟨_, rfl, fun k v hk => ?_⟩⟩
  rw [Addr.add_at, h6.cell]
  unfold ints who at hk
  rw [List.map_map, List.getElem?_map] at hk
  rcases hz : (names L)[k]? with _ | z
  · rw [hz] at hk; cases hk
  · rw [hz] at hk
    injection hk with hk
    subst hk
    exact h7.line k z hz
end
def hasOf (n : Nat) (c : Int) : Bool := decide (0 ≤ c) && decide (c < (n : Int))
theorem has_of {n : Nat} {c : Int} (h : hasOf n c = true) : ∃ k : Nat, c = k ∧ k < n := by
  simp [hasOf] at h
  exact ⟨c.toNat, by omega, by omega⟩
set_option maxHeartbeats 400000 in
theorem has_ (b : Nat → Prop) (g n Q : Nat) (x : Int) (L : List Cls) (w : World) (h : TAt b w g n Q L) :
    Calls Try.prog 22 #[.pointer (some ⟨g, 0, none⟩), .int .i64 x] w fun e w' => e = .returned (.bool (hasOf n x)) ∧ w = w' := by
  have hc2 := h.cn
  clear h
  rcases h0 : decide (0 ≤ x) with _ | _
  · have HE : Hid (false = hasOf n x) := by show _ = _; rw [hasOf, h0]; rfl
    go_enter Try.func22, Try.ntmps22
    go_wp2
    go_ret
    exact ⟨ret_bool HE.out, rfl⟩
  · rcases h1 : decide (x < (n : Int)) with _ | _
    · have HE : Hid (false = hasOf n x) := by show _ = _; rw [hasOf, h0, h1]; rfl
      go_enter Try.func22, Try.ntmps22
      go_wp2
      go_ret
      exact ⟨ret_bool HE.out, rfl⟩
    · have HE : Hid (true = hasOf n x) := by show _ = _; rw [hasOf, h0, h1]; rfl
      go_enter Try.func22, Try.ntmps22
      go_wp2
      go_ret
      exact ⟨ret_bool HE.out, rfl⟩
set_option maxHeartbeats 400000 in
theorem has_nil (x : Int) (w : World) : Calls Try.prog 22 #[.pointer none, .int .i64 x] w fun e w' => e = .returned (.bool false) ∧ w = w' := by
  go_enter Try.func22, Try.ntmps22
  go_wp2
  go_ret
  exact ⟨rfl, rfl⟩
theorem run_line (m g : Nat) (hm : m ≤ 129) (w : World) :
    (Instr.sliceAt 63 (.pointer (some ⟨g, 261, none⟩)) none (some (.int .i64 (m : Int))) none).run Try.prog w = .ok (.slice (some ⟨g, 261, none⟩) m 129) w := by
  have hal : Try.prog.arrayLen 63 = 129 := by kernel_rfl
  have hel : Try.prog.elem 63 = 3 := by kernel_rfl
  have hsz : (sizeOf 3).run Try.prog w = .ok 1 w := by kernel_rfl
  rw [run_sliceAt_array_h w 63 _ (by rw [hal, hel]; exact Try.underlying63) .i64 m (by omega) (by rw [hal]; omega), hel, hsz, hal]
  simp [slicedAt, Result.andThen, Addr.add_at]
set_option maxHeartbeats 400000 in
theorem line_ (b : Nat → Prop) (g n Q : Nat) (L : List Cls) (w : World) (h : TAt b w g n Q L) :
    Calls Try.prog 24 #[.pointer (some ⟨g, 0, none⟩)] w fun e w' => e = .returned (.slice (some ⟨g, 261, none⟩) L.length 129) ∧ Below w.heap.size w w' := by
  have hc2 := h.ck
  have hl := h.len_le
  clear h
  generalize L.length = m at *
  have hrun := fun g W => run_line m g hl W
  go_enter Try.func24, Try.ntmps24
  go_wp2
  go_region
  go_wp2
  go_ret
  exact ⟨rfl, (Below.refl _ _).drew⟩
set_option maxHeartbeats 400000 in
theorem line_nil (w : World) : Calls Try.prog 24 #[.pointer none] w fun e w' => e = .returned (.slice none 0 0) ∧ w = w' := by
  go_enter Try.func24, Try.ntmps24
  go_wp2
  go_ret
  exact ⟨rfl, rfl⟩
set_option maxHeartbeats 1000000 in
theorem index_ (A : Option Addr) (m c : Nat) (x : Int) (L : List Cls) (w : World) (h : Vals w A m (ints (who L))) (hm2 : m ≤ 129) :
    Calls Try.prog 28 #[.slice A m c, .int .i64 x] w fun e w' => e = .returned (.int .i64 (placeOf L x)) ∧ w = w' := by
  have hml : L.length = m := by have := h.1; rw [ints_length, who_length] at this; exact this
  have HR := Lib.hid h
  have HML := Lib.hid hml
  clear h hml
  go_enter Try.func28, Try.ntmps28
  go_wp2
  go_loop [5, 8] (fun _ i => ∃ k : Nat, k ≤ m ∧ i = .int .i64 k ∧ ∀ (j : Nat) (y : Cls), j < k → L[j]? = some y → (y.n : Int) ≠ x) (fun _ i => m - (intOf i).toNat)
  case atStart => exact ⟨0, by omega, rfl, fun j y hj => absurd hj (by omega)⟩
  case round =>
    obtain ⟨k, hk, rfl, hno⟩ := hrel
    have HNO := Lib.hid hno
    clear hno
    by_cases hlt : k < m
    · have hd : decide ((k : Int) < (m : Int)) = true := by simp; omega
      obtain ⟨y, hy⟩ : ∃ y, L[k]? = some y := ⟨_, List.getElem?_eq_getElem (by have := HML.out; omega)⟩
      obtain ⟨a, rfl, c1⟩ := HR.out.at_ (k := k) (v := .int .i64 (y.n : Nat)) (by simp [ints, who, names, hy])
      have HY := Lib.hid hy
      clear hy
      by_cases hyx : (y.n : Int) = x
      · have hd3 : (x == (y.n : Int)) = true := by simpa using hyx.symm
        have HE : Hid (placeOf L x = (k : Nat)) := place_is HNO.out HY.out hyx
        clear hyx
        go_wp2_with fail
        go_ret
        exact ⟨ret_int (by rw [HE.out]), rfl⟩
      · have hd3 : (x == (y.n : Int)) = false := by simpa using fun e => hyx e.symm
        have HN2 : Hid (∀ (j : Nat) (z : Cls), j < k + 1 → L[j]? = some z → (z.n : Int) ≠ x) := fun j z hj hz => by
          by_cases e : j = k
          · subst e
            rw [HY.out] at hz
            injection hz with hz
            subst hz
            exact hyx
          · exact HNO.out j z (by omega) hz
        clear hyx
        go_wp2_with fail
        go_round
        case rel => exact ⟨k + 1, by omega, by go_num, HN2.out⟩
        case measure => simp [intOf]; omega
    · obtain rfl : k = m := by omega
      have hd : decide ((k : Int) < (k : Int)) = false := by simp
      have HE : Hid (placeOf L x = -1) := place_not (by
        rw [isIn_not]
        intro y hy
        obtain ⟨i, hi⟩ := List.getElem?_of_mem hy
        exact HNO.out i y (by have := (List.getElem?_eq_some_iff.1 hi).1; have := HML.out; omega) hi)
      go_wp2_with fail
      go_ret
      exact ⟨ret_int (by rw [HE.out]), rfl⟩
theorem place_in {L : List Cls} {x : Int} : decide (0 ≤ placeOf L x) = isIn L x := by
  rcases h : isIn L x with _ | _
  · rw [place_not h]
    rfl
  · obtain ⟨k, y, h1, h2, h3, _⟩ := place_ex h
    rw [h3]
    simp
set_option maxHeartbeats 400000 in
theorem contains_ (A : Option Addr) (m c : Nat) (x : Int) (L : List Cls) (w : World) (h : Vals w A m (ints (who L))) (hm2 : m ≤ 129) :
    Calls Try.prog 23 #[.slice A m c, .int .i64 x] w fun e w' => e = .returned (.bool (isIn L x)) ∧ w = w' := by
  have HP : Hid (decide (0 ≤ placeOf L x) = isIn L x) := place_in
  have C := Lib.hid (index_ A m c x L w h hm2)
  clear h
  generalize isIn L x = B at *
  generalize placeOf L x = p at *
  go_enter Try.func23, Try.ntmps23
  go_wp2_with (go_at_call 28; (with_reducible refine C.out.mono ?_); rintro e w' ⟨rfl, rfl⟩)
  go_ret
  exact ⟨ret_bool HP.out, rfl⟩
set_option maxHeartbeats 400000 in
theorem deficit_ (b : Nat → Prop) (g n Q : Nat) (x : Int) (L : List Cls) (w : World) (h : TAt b w g n Q L) :
    Calls Try.prog 20 #[.pointer (some ⟨g, 0, none⟩), .int .i64 x] w fun e w' => e = .returned (.int .i64 (defOf L x : Nat)) ∧ Below w.heap.size w w' := by
  have C := Lib.hid (has_ b g n Q x L w h)
  rcases hh : hasOf n x with _ | _
  · have e0 : defOf L x = 0 := def_not (by
      rw [isIn_not]
      intro y hy e
      have := h.ok.lt y hy
      simp [hasOf] at hh
      omega)
    rw [e0]
    rw [hh] at C
    clear h hh e0
    go_enter Try.func20, Try.ntmps20
    go_wp2_with (go_at_call 22; (with_reducible refine C.out.mono ?_); rintro e w' ⟨rfl, rfl⟩)
    go_ret
    exact ⟨rfl, Below.refl _ _⟩
  · rw [hh] at C
    obtain ⟨k, rfl, hk⟩ := has_of hh
    have hk2 : k < 129 := by have := h.n_le; omega
    have hc := h.cd hk2
    clear h hh hk
    generalize defOf L (k : Int) = d at *
    go_enter Try.func20, Try.ntmps20
    go_wp2_with (go_at_call 22; (with_reducible refine C.out.mono ?_); rintro e w' ⟨rfl, rfl⟩)
    go_ret
    exact ⟨rfl, Below.refl _ _⟩
end Go.Proofs.Ytknalphhnicffaa
