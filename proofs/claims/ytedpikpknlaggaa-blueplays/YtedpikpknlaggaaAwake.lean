/- What blue's New answers where it may not be, the laws' few and awake. Conditions: those of each theorem. -/
import Derived.Test.YtedpikpknlaggaaNew
namespace Go.Proofs.Ytedpikpknlaggaa
open Go.RowKit

theorem Apart.below {n g nb : Nat} {q : Nat → Nat} {A : Option Addr} {w : World} {xs : List Int} (h : Ints w A nb xs) (hg : w.heap.size ≤ g) (hq : ∀ l, l < n → w.heap.size ≤ q l) : Apart n g q nb A := by
  intro h0 ad e ho
  obtain ⟨ad', e', hc⟩ := h.2 h0
  rw [e] at e'
  injection e' with e'
  subst e'
  have hlt := World.block_lt_of_cell? w _ (hc 0 h0)
  rw [Addr.block_add] at hlt
  rcases ho with rfl | ⟨l, hl, he⟩
  · omega
  · have := hq l hl; omega
theorem Ints.of_blk {w : World} {g : Nat} {t : TypeId} {xs : List Int} (h : Blk w g t (xs.map fun x => .int .i64 x)) : Ints w (some ⟨g, 0, none⟩) xs.length xs :=
  ⟨rfl, fun _ => ⟨_, rfl, fun k hk => by
    rw [Addr.add_at, h.cell, Nat.zero_add]
    simp [List.getD_eq_getElem?_getD, hk]⟩⟩
theorem Ints.drew {w : World} {A : Option Addr} {n : Nat} {zs : List Int} (h : Ints w A n zs) : Ints w.drew A n zs := h
/-- What may be set up. -/
def Good (n m t h u d : Int) : Prop := 1 ≤ n ∧ n ≤ 4 ∧ 1 ≤ m ∧ m ≤ 64 ∧ 0 ≤ h ∧ h ≤ 4611686018427387903 ∧ may t u d = true
theorem new_good (n m t h u d : Int) (w : World) (hg : Good n m t h u d) :
    Calls Try.prog 9 #[.int .i64 n, .int .i64 m, .int .i64 t, .int .i64 h, .int .i64 u, .int .i64 d] w (NewOut ⟨n.toNat, m.toNat, t.toNat, h.toNat, u.toNat, d.toNat, fun _ _ => bin0⟩ w) := by
  obtain ⟨h1, h2, h3, h4, h5, h6, h7⟩ := hg
  have := may_bd h7
  obtain ⟨n, rfl⟩ : ∃ k : Nat, n = k := ⟨n.toNat, by omega⟩
  obtain ⟨m, rfl⟩ : ∃ k : Nat, m = k := ⟨m.toNat, by omega⟩
  obtain ⟨t, rfl⟩ : ∃ k : Nat, t = k := ⟨t.toNat, by omega⟩
  obtain ⟨h, rfl⟩ : ∃ k : Nat, h = k := ⟨h.toNat, by omega⟩
  obtain ⟨u, rfl⟩ : ∃ k : Nat, u = k := ⟨u.toNat, by omega⟩
  obtain ⟨d, rfl⟩ : ∃ k : Nat, d = k := ⟨d.toNat, by omega⟩
  exact new_ n m t h u d w (by omega) (by omega) (by omega) (by omega) (by omega) (by omega) (by omega) (by omega)
set_option maxHeartbeats 1000000 in
theorem new_bad (n m t h u d : Int) (w : World) (hg : ¬ Good n m t h u d) :
    Calls Try.prog 9 #[.int .i64 n, .int .i64 m, .int .i64 t, .int .i64 h, .int .i64 u, .int .i64 d] w fun e w' => e = .returned (.tuple #[.pointer none, .int .i64 1]) ∧ w = w' := by
  have HM := Lib.hid (fun W => mayBe_ t u d W)
  unfold Good at hg
  rcases h1 : decide (n < 1) with _ | _
  · rcases h2 : decide (4 < n) with _ | _
    · rcases h3 : decide (m < 1) with _ | _
      · rcases h4 : decide (64 < m) with _ | _
        · rcases h5 : decide (h < 0) with _ | _
          · rcases h6 : decide (4611686018427387903 < h) with _ | _
            · have h7 : may t u d = false := by
                simp at h1 h2 h3 h4 h5 h6
                rcases hm : may t u d with _ | _
                · rfl
                · exact absurd ⟨by omega, by omega, by omega, by omega, by omega, by omega, hm⟩ hg
              rw [h7] at HM
              clear hg
              go_enter Try.func9, Try.ntmps9
              go_wp2_with (go_at_call 25; (with_reducible refine (HM.out _).mono ?_); rintro e w' ⟨rfl, rfl⟩)
              go_ret2
              exact ⟨rfl, rfl⟩
            · clear hg
              go_enter Try.func9, Try.ntmps9
              go_wp2
              go_ret2
              exact ⟨rfl, rfl⟩
          · clear hg
            go_enter Try.func9, Try.ntmps9
            go_wp2
            go_ret2
            exact ⟨rfl, rfl⟩
        · clear hg
          go_enter Try.func9, Try.ntmps9
          go_wp2
          go_ret2
          exact ⟨rfl, rfl⟩
      · clear hg
        go_enter Try.func9, Try.ntmps9
        go_wp2
        go_ret2
        exact ⟨rfl, rfl⟩
    · clear hg
      go_enter Try.func9, Try.ntmps9
      go_wp2
      go_ret2
      exact ⟨rfl, rfl⟩
  · clear hg
    go_enter Try.func9, Try.ntmps9
    go_wp2
    go_ret2
    exact ⟨rfl, rfl⟩

theorem far_low {n g B : Nat} {q : Nat → Nat} {w0 w w' : World} (h : Below B w0 w) (hf : Far (own n g q) w w') (hg : B ≤ g) (hq : ∀ l, l < n → B ≤ q l) (hB : B ≤ w.heap.size) : Below B w0 w' :=
  h.trans (hf.below hB (fun k hk e => by
    rcases e with rfl | ⟨l, hl, rfl⟩
    · omega
    · have := hq l hl; omega))
set_option maxHeartbeats 1000000 in
theorem awake_any (w : World) : Calls Try.prog 7 #[] w fun e w' => e = .returned (.bool true) ∧ Below w.heap.size w w' := by
  have HN : Hid (Calls Try.prog 9 #[.int .i64 1, .int .i64 1, .int .i64 10, .int .i64 0, .int .i64 100, .int .i64 1] w (NewOut ⟨1, 1, 10, 0, 100, 1, fun _ _ => bin0⟩ w)) := (new_ 1 1 10 0 100 1 w (by decide) (by decide) (by decide) (by decide) (by decide) (by decide) (by decide) (by decide))
  go_enter Try.func7, Try.ntmps7
  go_upto_region 2 with (go_at_call 9; (with_reducible refine HN.out.mono ?_); rintro e w1 ⟨g, s, q, rfl, h1, h2, h3⟩; have H1 := Lib.hid h1; have A1 := Lib.hid h2; have B1 := Lib.hid h3; clear h1 h2 h3)
  have B2 : Hid (Below w1.heap.size w1 (w1.alloc (.cells #[.int .i64 0] 3))) := (Below.refl _ w1).alloc (Nat.le_refl _) _
  have H2 := Lib.hid (H1.out.below B2.out)
  have I2 : Hid (Ints (w1.alloc (.cells #[.int .i64 0] 3)) (some ⟨w1.heap.size, 0, none⟩) 1 [0]) := Ints.of_blk (xs := [0]) (Blk.new w1 3 [.int .i64 0])
  have P2 : Hid (Apart 1 g q 1 (some ⟨w1.heap.size, 0, none⟩)) := fun _ ad e => by
    injection e with e
    subst e
    exact own_not H1.out.lt.1 H1.out.lt.2.2
  have C2 : Hid (Below w.heap.size w (w1.alloc (.cells #[.int .i64 0] 3))) := B1.out.alloc B1.out.size _
  clear H1 B1 B2 HN
  go_upto_region 3 with fail
  generalize w1.alloc (.cells #[.int .i64 0] 3) = w2 at *
  go_wp2_with fail
  refine (put_ g s q _ _ 1 1 [0] 11 w2 H2.out I2.out (by omega) P2.out).mono ?_
  rintro e w3 ⟨rfl, h3, f3⟩
  have H3 := Lib.hid h3
  have I3 := Lib.hid (I2.out.far f3 P2.out)
  have C3 := Lib.hid (far_low C2.out f3 A1.out.1 A1.out.2.2 C2.out.size)
  have e3 : (isz 11 && flow 1 1 [0]) = true := by decide
  rw [e3]
  clear h3 f3 e3 H2 I2 C2
  go_wp2_with fail
  refine (bTouch_ g s q _ _ 1 1 [0] 0 w3 H3.out I3.out (by omega) P2.out).mono ?_
  rintro e w4 ⟨rfl, h4, f4⟩
  have H4 := Lib.hid h4
  have I4 := Lib.hid (I3.out.far f4 P2.out)
  have C4 := Lib.hid (far_low C3.out f4 A1.out.1 A1.out.2.2 C3.out.size)
  have e4 : flow (putV ⟨1, 1, 10, 0, 100, 1, fun _ _ => bin0⟩ [0] 11).n (putV ⟨1, 1, 10, 0, 100, 1, fun _ _ => bin0⟩ [0] 11).m [0] = true := by decide
  rw [e4]
  clear h4 f4 e4 H3 I3 C3
  go_wp2_with fail
  refine (mark_ g s q _ _ 1 1 [0] w4 H4.out I4.out (by omega)).mono ?_
  rintro e w5 ⟨rfl, b5⟩
  have C5 : Hid (Below w.heap.size w w5) := C4.out.trans (b5.mono C4.out.size)
  have e5 : markV (touchV (putV ⟨1, 1, 10, 0, 100, 1, fun _ _ => bin0⟩ [0] 11) [0] 0) [0] = 100 := by decide
  rw [e5]
  clear e5 b5 H4 I4 C4
  go_wp2_with fail
  go_ret
  exact ⟨rfl, C5.out⟩

/-- What came in: acts of a kind, a list of numbers and a number each. -/
structure ActIn (w : World) (a : Addr) (K : Int) (P : Option Addr) (L C : Nat) (X : List Int) (N : Int) : Prop where
  c0 : w.cell? a = some (.int .u8 K)
  c1 : w.cell? ⟨a.block, a.off + 1, none⟩ = some (.slice P L C)
  c2 : w.cell? ⟨a.block, a.off + 2, none⟩ = some (.int .i64 N)
  k0 : 0 ≤ K
  k1 : K ≤ 255
  n0 : -9223372036854775808 ≤ N
  n1 : N ≤ 9223372036854775807
  ints : Ints w P L X
  x : ∀ x ∈ X, -9223372036854775808 ≤ x ∧ x ≤ 9223372036854775807
  few : L ≤ 9223372036854775807
theorem ActIn.below {w w' : World} {a : Addr} {K : Int} {P : Option Addr} {L C : Nat} {X : List Int} {N : Int} (h : ActIn w a K P L C X N) (hb : Below w.heap.size w w') : ActIn w' a K P L C X N :=
  ⟨(hb.cell (World.block_lt_of_cell? w _ h.c0)).trans h.c0, (hb.cell (World.block_lt_of_cell? w _ h.c1)).trans h.c1, (hb.cell (World.block_lt_of_cell? w _ h.c2)).trans h.c2, h.k0, h.k1, h.n0, h.n1, h.ints.below hb, h.x, h.few⟩
def ActsIn (w : World) (A : Option Addr) (n : Nat) (K : Nat → Int) (P : Nat → Option Addr) (L C : Nat → Nat) (X : Nat → List Int) (N : Nat → Int) : Prop :=
  ∀ k, k < n → ∃ a : Addr, A = some a ∧ ActIn w (a.add (k * 3)) (K k) (P k) (L k) (C k) (X k) (N k)
/-- Are there few? -/
def fewB (n : Nat) (L : Nat → Nat) : Bool := decide (∀ k, k < n → L k ≤ 10) && decide (n ≤ 60)
set_option maxHeartbeats 1000000 in
theorem few_ (A : Option Addr) (n c : Nat) (K : Nat → Int) (P : Nat → Option Addr) (L C : Nat → Nat) (X : Nat → List Int) (N : Nat → Int) (w : World) (hn : n ≤ 9223372036854775807) (h : ActsIn w A n K P L C X N) :
    Calls Try.prog 8 #[.slice A n c] w fun e w' => e = .returned (.bool (fewB n L)) ∧ w = w' := by
  have HA := Lib.hid h
  clear h
  go_enter Try.func8, Try.ntmps8
  go_wp2
  go_loop [3, 6] (fun _ i => ∃ k : Nat, k ≤ n ∧ i = .int .i64 k ∧ ∀ j, j < k → L j ≤ 10) (fun _ i => n - (intOf i).toNat)
  case atStart => exact ⟨0, by omega, rfl, fun j hj => absurd hj (by omega)⟩
  case round =>
    obtain ⟨k, hk, rfl, hall⟩ := hrel
    have HL := Lib.hid hall
    clear hall
    by_cases hlt : k < n
    · have hd : decide ((k : Int) < (n : Int)) = true := by simp; omega
      obtain ⟨a, rfl, ha⟩ := HA.out k hlt
      have c1 := ha.c1
      have hf := ha.few
      clear ha
      by_cases hm : 10 < L k
      · have HE : Hid (false = fewB n L) := by
          show _ = _
          unfold fewB
          rw [decide_eq_false (fun h => absurd (h k hlt) (by omega))]
          rfl
        generalize L k = l at *
        have hd2 : decide ((10 : Int) < (l : Int)) = true := by simp; omega
        have hd3 : decide (10 < l) = true := by simpa using hm
        go_wp2
        go_ret
        exact ⟨ret_bool HE.out, rfl⟩
      · have HE : Hid (∀ j, j < k + 1 → L j ≤ 10) := fun j hj => by
          rcases (by omega : j < k ∨ j = k) with h | rfl
          · exact HL.out j h
          · omega
        generalize L k = l at *
        have hd2 : decide ((10 : Int) < (l : Int)) = false := by simp; omega
        have hd3 : decide (10 < l) = false := by simpa using hm
        go_wp2
        go_round
        case rel => exact ⟨k + 1, by omega, by go_num, HE.out⟩
        case measure => simp [intOf]; omega
    · obtain rfl : k = n := by omega
      have hd : decide ((k : Int) < (k : Int)) = false := by simp
      have HE : Hid (decide ((k : Int) ≤ 60) = fewB k L) := by
        show _ = _
        unfold fewB
        rw [decide_eq_true HL.out, Bool.true_and]
        exact decide_eq_decide.2 (by omega)
      go_wp2
      go_ret
      exact ⟨ret_bool HE.out, rfl⟩
end Go.Proofs.Ytedpikpknlaggaa
