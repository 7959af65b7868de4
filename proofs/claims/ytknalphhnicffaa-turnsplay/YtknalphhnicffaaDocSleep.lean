/- The contract of the document's Sleep. Conditions: those of each theorem. -/
import Derived.Test.YtknalphhnicffaaDocWake
namespace Go.Proofs.Ytknalphhnicffaa
open Go.RowKit

theorem run_upto32 {A : Option Addr} {n c k : Nat} (W : World) (hk : k ≤ c) :
    (Instr.slice 32 (.slice A n c) none (some (.int .i64 k)) none).run Try.prog W = .ok (.slice A k c) W := by
  have h := run_slice_h (P := Try.prog) (w := W) 32 A n c (by kernel_rfl) .i64 (k : Int) (by omega) (by omega)
  rw [h]
  simp [sliced, go_sem]
theorem run_from32 {A : Option Addr} {n c k : Nat} (x : Int) (W : World) (hx : x = (k : Nat)) (hk : k ≤ n) :
    (Instr.slice 32 (.slice A n c) (some (.int .i64 x)) none none).run Try.prog W = .ok (.slice (if c = k then A else A.map (·.add (k * 3))) (n - k) (c - k)) W := by
  subst hx
  have h := run_slice_l (P := Try.prog) (w := W) 32 A n c (by kernel_rfl) .i64 (k : Int) (by omega) (by omega)
  rw [h]
  simp [sliced, go_sem]
theorem doc_upto {w : World} {A : Option Addr} {L : List Cls} {m k : Nat} (h : Vals w A (m * 3) (cls L)) (hk : k ≤ m) : Vals w A (k * 3) (cls (L.take k)) := by
  have := h.upto (k := k * 3) (by omega)
  rwa [cls_take] at this
theorem doc_from {w : World} {A : Option Addr} {L : List Cls} {m k c : Nat} (h : Vals w A (m * 3) (cls L)) (hk : k ≤ m) (hc : m ≤ c) : Vals w (if c = k then A else A.map (·.add (k * 3))) ((m - k) * 3) (cls (L.drop k)) := by
  have h1 := h.from_ (k := k * 3) (cap := c * 3) (by omega) (by omega)
  rw [cls_drop] at h1
  have e1 : m * 3 - k * 3 = (m - k) * 3 := by omega
  rw [e1] at h1
  by_cases e : c = k
  · rw [if_pos e]
    rw [if_pos (by omega)] at h1
    exact h1
  · rw [if_neg e]
    rw [if_neg (by omega)] at h1
    exact h1
set_option maxHeartbeats 1000000 in
theorem docSleep1_ (b : Nat → Prop) (m c n Q : Nat) (A : Option Addr) (x : Int) (L : List Cls) (w : World) (h : DocAt b w A L) (hm : L.length = m) (hc : m ≤ c) (hm2 : m ≤ 129) (hi : isIn L x = false) :
    Calls Try.prog 15 #[doc A m c n Q, .int .i64 x] w (DocOut b n Q L false w) := by
  have T0 := Lib.hid (Two3.new w A m c n Q)
  have C23 := Lib.hid (docPlace_ b m c n Q A x L _ (h.below T0.out.1) hm hm2)
  have HN := Lib.hid (fun W hB => docOut_not (c := c) (n := n) (Q := Q) (W := W) h hm hc hB)
  rw [place_not hi] at C23
  clear h hm hi
  go_enter Try.func15, Try.ntmps15
  go_wp2_with (go_at_call 26; (with_reducible refine C23.out.mono ?_); rintro e w3 ⟨rfl, hb⟩; have T3 := Lib.hid (T0.out.below hb); obtain ⟨p0, p1, p2⟩ := T3.out.2.1.cells; obtain ⟨r0, r1, r2, f0, f1, f2⟩ := T3.out.none_; clear hb)
  refine bodyPost_ret (v := .tuple #[doc A m c n Q, .bool false]) ?_ rfl (HN.out _ (below_stored T3.out.1 (by omega) _ _ _ _ _))
  simp [results, Try.results15, go_sem, *]
set_option maxHeartbeats 4000000 in
theorem docSleep2_ (b : Nat → Prop) (m c n Q k : Nat) (A : Option Addr) (x : Int) (L : List Cls) (w : World) (h : DocAt b w A L) (hm : L.length = m) (hc : m ≤ c) (hm2 : m ≤ 129) (hk : k < m) (hp : placeOf L x = (k : Nat)) (hbw : ∀ k, w.heap.size ≤ k → b k) :
    Calls Try.prog 15 #[doc A m c n Q, .int .i64 x] w (DocOut b n Q (L.take k ++ L.drop (k + 1)) true w) := by
  have T0 := Lib.hid (Two3.new w A m c n Q)
  have C23 := Lib.hid (docPlace_ b m c n Q A x L _ (h.below T0.out.1) hm hm2)
  rw [hp] at C23
  have d0 : decide ((k : Int) < 0) = false := by simp
  have C24 := Lib.hid (fun B r cB W => docWith_ m c n Q r cB A B W)
  have HV := Lib.hid (fun W (hB : Below w.heap.size w W) => by have := (h.below hB).1; rw [hm] at this; exact this)
  have hl1 : (L.take k).length = k := by rw [List.length_take]; omega
  have hl2 : (L.drop (k + 1)).length = m - (k + 1) := by rw [List.length_drop, hm]
  have HL1 := Lib.hid hl1
  have HL2 := Lib.hid hl2
  have HY := Lib.hid (fun A' c' B W W2 h1 hB hW2 hW => docOut_yes (k := m - 1) (n := n) (Q := Q) (A' := A') (c' := c') (L' := L.take k ++ L.drop (k + 1)) (B := B) (w := w) (W := W) (W2 := W2) hbw h1 (by rw [List.length_append, hl1, hl2]; omega) hB hW2 hW)
  clear h hm hp hbw hl1 hl2
  have hs1 := fun W => run_upto32 (A := A) (n := m) (c := c) (k := k) W (by omega)
  have hs2 := fun W => run_from32 (A := A) (n := m) (c := c) (k := k + 1) ((k : Int) + 1) W (by omega) (by omega)
  have HZ := Lib.hid (fun W (hv : Vals W A (m * 3) (cls L)) => doc_from (k := k + 1) hv (by omega) hc)
  generalize (if c = k + 1 then A else A.map (·.add ((k + 1) * 3))) = Z at *
  have hwp : IntKind.i64.wrap ((k : Int) + 1) = (k : Int) + 1 := by rw [IntKind.wrap_i64]; omega
  go_enter Try.func15, Try.ntmps15
  go_upto_region 4 with (go_at_call 26; (with_reducible refine C23.out.mono ?_); rintro e w3 ⟨rfl, hb⟩; have T3 := Lib.hid (T0.out.below hb); clear hb)
  clear C23
  have HV1 : Hid (∀ W, Below w3.heap.size w3 W → Vals W A (k * 3) (cls (L.take k)) ∧ Vals W Z ((m - (k + 1)) * 3) (cls (L.drop (k + 1)))) := by
    intro W hW
    have h1 := HV.out W (T3.out.1.trans (hW.mono T3.out.1.size))
    exact ⟨doc_upto h1 (by omega), HZ.out W h1⟩
  have hs3 : w.heap.size + 1 < w3.heap.size := T3.out.2.2.lt
  have OB := Lib.hid (own66_b w3)
  go_region_held3 (fun W => W.cell? ⟨w.heap.size, 0, none⟩ = some (.int .i64 (n : Nat)) ∧ W.cell? ⟨w.heap.size, 1, none⟩ = some (.int .i64 (Q : Nat)) ∧ W.cell? ⟨w.heap.size, 2, none⟩ = some (.slice A m c))
    (first | exact T3.out.2.1.kept ((Below.refl _ _).drew) | exact T3.out.2.1.kept (below_oned w3 _) | exact T3.out.2.1.kept B7.out | exact T3.out.2.1.kept B6.out | exact T3.out.2.1.kept B5.out | exact kept5 T3.out.2.1 B7.out)
    (first | (refine step_cls (by rfl) (.tmp 14) (.tmp 18) (by rfl) w3.heap.size (.slice (some ⟨w3.heap.size, 0, none⟩) 0 0) 0 [] (by rfl) (by exact OB.out) A k c (L.take k) (by exact HL1.out) (by rfl) (by exact (HV1.out _ (below_oned w3 _)).1) k (by omega) (L.take k) (by rfl) (by omega) (by simp) ?_; intro A5 c5 w5 H1 H2; have B5 : Hid (Below w3.heap.size w3 w5) := below_app (below_oned w3 _) H2.out (Nat.le_refl _)) | (refine step_cls (by rfl) (.tmp 19) (.tmp 24) (by rfl) w3.heap.size (.slice A5 k c5) k (L.take k) (by rfl) (by exact H1.out) Z (m - (k + 1)) (c - (k + 1)) (L.drop (k + 1)) (by exact HL2.out) (by rfl) (by exact (HV1.out _ B5.out).2) (m - 1) (by omega) (L.take k ++ L.drop (k + 1)) (by rfl) (by omega) (by exact B5.out.size) ?_; intro A6 c6 w6 G1 G2; have B6 : Hid (Below w3.heap.size w3 w6) := below_own B5.out G2.out H1.out) | (go_at_call 27; (with_reducible refine (C24.out A6 (m - 1) c6 w6).mono ?_); rintro e w7 ⟨rfl, hb⟩; have B67 := Lib.hid hb; have B7 : Hid (Below w3.heap.size w3 w7) := B6.out.trans (hb.mono B6.out.size); have T7 := Lib.hid (T3.out.below B7.out); obtain ⟨r0, r1, r2, f0, f1, f2⟩ := T7.out.none_; clear hb))
  all_goals
    go_wp2_with fail
    refine bodyPost_ret (v := .tuple #[doc A6 (m - 1) c6 n Q, .bool true]) ?_ rfl (HY.out A6 c6 w3.heap.size _ _ G1.out hs3 B67.out T7.out.1)
    simp [results, Try.results15, go_sem, *]
theorem docSleep_ (b : Nat → Prop) (m c n Q : Nat) (A : Option Addr) (x : Int) (L : List Cls) (w : World) (h : DocAt b w A L) (hm : L.length = m) (hc : m ≤ c) (hm2 : m ≤ 129) (ho : Ok n Q L) (hbw : ∀ k, w.heap.size ≤ k → b k) :
    Calls Try.prog 15 #[doc A m c n Q, .int .i64 x] w (DocOut b n Q (sleepOf L x) (isIn L x) w) := by
  rcases hi : isIn L x with _ | _
  · have e0 : sleepOf L x = L := by
      unfold sleepOf
      rw [List.filter_eq_self]
      intro y hy
      have := isIn_not.1 hi y hy
      simpa using this
    rw [e0]
    exact docSleep1_ b m c n Q A x L w h hm hc hm2 hi
  · obtain ⟨k, y, h1, h2, _, h4⟩ := sleep_at ho hi
    rw [h4]
    exact docSleep2_ b m c n Q k A x L w h hm hc hm2 (by have := (List.getElem?_eq_some_iff.1 h1).1; omega) h2 hbw
end Go.Proofs.Ytknalphhnicffaa
