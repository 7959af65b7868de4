/- The walk of the law EtherShort: for any bytes, any place and any bytes behind it returns true and turns nothing that was there. -/
import Derived.Test.YtmnakdmmkkombaaAwake
namespace Go.Proofs.Ytmnakdmmkkombaa
open Go.RowKit

theorem getD_take {bs : List Int} {x j : Nat} (h : j < x) : (bs.take x).getD j 0 = bs.getD j 0 := by
  rw [List.getD_eq_getElem?_getD, List.getD_eq_getElem?_getD, List.getElem?_take_of_lt h]
theorem getD_left {bs cs : List Int} {j : Nat} (h : j < bs.length) : (bs ++ cs).getD j 0 = bs.getD j 0 := by
  rw [List.getD_eq_getElem?_getD, List.getD_eq_getElem?_getD, List.getElem?_append_left h]
theorem ty_ext {bs cs : List Int} {p : Nat} (h0 : cs.getD p 0 = bs.getD p 0) (h1 : cs.getD (p + 1) 0 = bs.getD (p + 1) 0) : ty cs p = ty bs p := by
  unfold ty
  rw [h0, h1]
/-- A frame that carries something: where it may end, and what may differ. -/
theorem look_cut {bs : List Int} {b : Bool} {a : Nat} : ∀ k p, look bs k p = (b, a, 0) → p + 2 ≤ a ∧ a ≤ bs.length ∧ (∀ x, x < a → look (bs.take x) k p = (false, 0, 1)) ∧
    ∀ cs : List Int, a ≤ cs.length → (∀ j, j < a → cs.getD j 0 = bs.getD j 0) → look cs k p = (b, a, 0)
  | 0, p, h => by simp [look] at h
  | k + 1, p, h => by
    by_cases hs : bs.length < p + 2
    · rw [look_short hs] at h
      simp at h
    · by_cases ht : ty bs p = 33024 ∨ ty bs p = 34984
      · rw [look_tag hs ht] at h
        obtain ⟨h1, h2, h3, h4⟩ := look_cut k (p + 4) h
        refine ⟨by omega, h2, fun x hx => ?_, fun cs hc he => ?_⟩
        · by_cases hx2 : x < p + 2
          · exact look_short (by rw [List.length_take]; omega)
          · have e : ty (bs.take x) p = ty bs p := ty_ext (getD_take (by omega)) (getD_take (by omega))
            rw [look_tag (by rw [List.length_take]; omega) (by rw [e]; exact ht)]
            exact h3 x hx
        · have e : ty cs p = ty bs p := ty_ext (he _ (by omega)) (he _ (by omega))
          rw [look_tag (by omega) (by rw [e]; exact ht)]
          exact h4 cs hc he
      · by_cases hi : ty bs p = 2048 ∨ ty bs p = 34525
        · rw [look_ip hs hi] at h
          simp only [Prod.mk.injEq] at h
          obtain ⟨rfl, rfl, _⟩ := h
          refine ⟨by omega, by omega, fun x hx => look_short (by rw [List.length_take]; omega), fun cs hc he => ?_⟩
          have e : ty cs p = ty bs p := ty_ext (he _ (by omega)) (he _ (by omega))
          rw [look_ip (by omega) (by rw [e]; exact hi), e]
        · rw [look_no hs ht hi] at h
          simp at h

/-- A new empty row. -/
theorem own_new (w : World) (base : Nat) (h : base ≤ w.heap.size) : (w.alloc (.cells #[] 5)).ownsRow base 5 1 (.slice (some ⟨w.heap.size, 0, none⟩) 0 0) 0 (cel []) :=
  ⟨rfl, .inr ⟨w.heap.size, 0, #[], rfl, h, heap_alloc_new w _, Nat.le_refl _, by decide, rfl, rfl⟩⟩
/-- A row of the call's own, read. -/
theorem own_cap {w : World} {base : Nat} {A : Option Addr} {n c : Nat} {bs : List Int} (h : w.ownsRow base 5 1 (.slice A n c) n (cel bs)) : n ≤ c := by
  obtain ⟨A', c', e, hc, _⟩ := Byts.of_row h
  cases e
  exact hc

set_option maxHeartbeats 1000000 in
theorem short_far (A B : Option Addr) (n c x m d : Nat) (w : World) (hn : 2000 < n ∨ 200 < m) : Calls Try.prog 5 #[.slice A n c, .int .u16 (x : Nat), .slice B m d] w fun e w' => e = .returned (.bool true) ∧ Below w.heap.size w w' := by
  by_cases h : 2000 < n
  · have hd : decide ((2000 : Int) < (n : Int)) = true := by simp; omega
    have hd2 : decide (2000 < n) = true := by simpa using h
    go_enter Try.func5, Try.ntmps5
    go_wp2_with fail
    refine (awake_any _).mono ?_
    rintro e w1 ⟨rfl, hb⟩
    have HB := Lib.hid hb
    clear hb
    go_wp2_with fail
    refine (awake_any _).mono ?_
    rintro e w2 ⟨rfl, hb⟩
    have HC := Lib.hid hb
    clear hb
    go_wp2
    go_ret
    exact ⟨rfl, HB.out.trans (HC.out.mono HB.out.size)⟩
  · have hd : decide ((2000 : Int) < (n : Int)) = false := by simp; omega
    have hd2 : decide (2000 < n) = false := by simpa using h
    have hd3 : decide ((200 : Int) < (m : Int)) = true := by simp; omega
    have hd4 : decide (200 < m) = true := by simp; omega
    go_enter Try.func5, Try.ntmps5
    go_wp2_with fail
    refine (awake_any _).mono ?_
    rintro e w1 ⟨rfl, hb⟩
    have HB := Lib.hid hb
    clear hb
    go_wp2_with fail
    refine (awake_any _).mono ?_
    rintro e w2 ⟨rfl, hb⟩
    have HC := Lib.hid hb
    clear hb
    go_wp2
    go_ret
    exact ⟨rfl, HB.out.trans (HC.out.mono HB.out.size)⟩

set_option maxHeartbeats 2000000 in
theorem short_near (A B : Option Addr) (n c x m d : Nat) (bs ms : List Int) (w : World) (h : Byts w A n bs) (ho : Octs bs) (hc : n ≤ c) (h' : Byts w B m ms) (ho' : Octs ms) (hn : n ≤ 2000) (hm : m ≤ 200) (hx : x ≤ 65535) :
    Calls Try.prog 5 #[.slice A n c, .int .u16 (x : Nat), .slice B m d] w fun e w' => e = .returned (.bool true) ∧ Below w.heap.size w w' := by
  have hd : decide ((2000 : Int) < (n : Int)) = false := by simp; omega
  have hd2 : decide (2000 < n) = false := by simp; omega
  have hd3 : decide ((200 : Int) < (m : Int)) = false := by simp; omega
  have hd4 : decide (200 < m) = false := by simp; omega
  obtain ⟨b, a, r, hl⟩ : ∃ b a r, look bs 3 12 = (b, a, r) := ⟨_, _, _, rfl⟩
  have hbn := h.1
  have H := Lib.hid h
  have HO := Lib.hid ho
  have H' := Lib.hid h'
  have HO' := Lib.hid ho'
  have HL := Lib.hid hl
  clear h ho h' ho' hl
  go_enter Try.func5, Try.ntmps5
  go_wp2_with fail
  refine (awake_any _).mono ?_
  rintro e w1 ⟨rfl, hb⟩
  have W1 := Lib.hid hb
  clear hb
  go_wp2_with fail
  refine (parse_any A n c bs b a r _ (H.out.below W1.out) HO.out hc HL.out).mono ?_
  rintro e w2 ⟨rfl, hb⟩
  have W2 : Hid (Below w.heap.size w w2) := W1.out.trans (hb.mono W1.out.size)
  clear hb
  have W3 : Hid (Below w.heap.size w (w2.alloc (.cells #[.bool b, .int .i64 (a : Nat)] 25))) := W2.out.alloc W2.out.size _
  have L3 : Hid (Blk (w2.alloc (.cells #[.bool b, .int .i64 (a : Nat)] 25)) w2.heap.size 25 [.bool b, .int .i64 (a : Nat)]) := Blk.new w2 25 _
  by_cases hr : r = 0
  · subst hr
    obtain ⟨h1, h2, h3, h4⟩ := look_cut 3 12 HL.out
    have hlt : x % a < a := Nat.mod_lt _ (by omega)
    have HX := Lib.hid (h3 (x % a) hlt)
    have hkc : x % a ≤ c := by omega
    have hac : a ≤ c := by omega
    have hcut := fun W => run_upto (A := A) (n := n) (c := c) (k := x % a) W hkc
    have hcut2 := fun W => run_upto (A := A) (n := n) (c := c) (k := a) W hac
    have HC : Hid (look (bs.take a ++ ms) 3 12 = (b, a, 0)) := h4 _ (by simp; omega) (fun j hj => by rw [getD_left (by simp; omega), getD_take hj])
    clear h3 h4
    have ha0 : (a : Int) ≠ 0 := by omega
    have ha1 : ((a : Int) == 0) = false := by simp; omega
    go_wp2_with fail
    refine (parse_any A (x % a) c _ false 0 1 _ ((H.out.below W3.out).upto (by omega)) (HO.out.take _) hkc HX.out).mono ?_
    rintro e w4 ⟨rfl, hb⟩
    have W4 : Hid (Below w.heap.size w w4) := W3.out.trans (hb.mono W3.out.size)
    have L4 : Hid (Blk w4 w2.heap.size 25 [.bool b, .int .i64 (a : Nat)]) := (hb.block _ (by simp)).trans L3.out
    clear hb L3 W3
    have W5 : Hid (Below w.heap.size w (w4.alloc (.cells #[.bool false, .int .i64 0] 25))) := W4.out.alloc W4.out.size _
    have L5 := Lib.hid (L4.out.alloc (.cells #[.bool false, .int .i64 0] 25))
    go_upto_region 7 with (fail)
    generalize w4.alloc (.cells #[.bool false, .int .i64 0] 25) = w5 at *
    have hs5 := W5.out.size
    have W6 : Hid (Below w.heap.size w (w5.alloc (.cells #[] 5))) := W5.out.alloc hs5 _
    have L6 := Lib.hid (L5.out.alloc (.cells #[] 5))
    have O6 := Lib.hid (own_new w5 w.heap.size hs5)
    have hc1 : (w5.alloc (.cells #[] 5)).cell? ⟨w2.heap.size, 1, none⟩ = some (.int .i64 (a : Nat)) := L6.out.cell 1
    have HOM : Hid (Octs (bs.take a ++ ms)) := (HO.out.take a).app HO'.out
    go_wp2_with (first | (at_builtin; refine wpList_app_to rfl (.tmp 45) (.tmp 49) rfl w.heap.size (.slice (some ⟨w5.heap.size, 0, none⟩) 0 0) 0 [] rfl (by exact O6.out) A a c (bs.take a) rfl (by exact (H.out.below W6.out).upto (by omega)) a (by omega) (bs.take a) rfl (by omega) (by exact W6.out.size) ?_; intro A7 c7 w7 R7 G7 B7; have W7 : Hid (Below w.heap.size w w7) := W6.out.grown G7.out W6.out.size (fun k e => (O6.out.lt k e).1); have L7 := Lib.hid (L6.out.grown G7.out (L6.out.row_apart O6.out (by decide)))) | (at_builtin; refine wpList_app_to rfl (.tmp 50) (.tmp 51) rfl w.heap.size (.slice A7 a c7) a (bs.take a) rfl (by exact R7.out) B m d ms rfl (by exact H'.out.below W7.out) (a + m) rfl (bs.take a ++ ms) rfl (by omega) (by exact W7.out.size) ?_; intro A8 c8 w8 R8 G8 B8; have W8 : Hid (Below w.heap.size w w8) := W7.out.grown G8.out W7.out.size (fun k e => (R7.out.lt k e).1); have L8 := Lib.hid (L7.out.grown G8.out (L7.out.row_apart R7.out (by decide)))) | (go_at_call 8; (with_reducible refine (parse_any A8 (a + m) c8 (bs.take a ++ ms) b a 0 _ (Byts.of_own R8.out) HOM.out (own_cap R8.out) HC.out).mono ?_); rintro e w9 ⟨rfl, hb⟩; have W9 : Hid (Below w.heap.size w w9) := W8.out.trans (hb.mono W8.out.size); have L9 := (L8.out.far (Far.of_below hb nobody) (fun e => e)).alloc (.cells #[.bool b, .int .i64 (a : Nat)] 25); have d0 : (w9.alloc (.cells #[.bool b, .int .i64 (a : Nat)] 25)).cell? ⟨w2.heap.size, 0, none⟩ = some (.bool b) := L9.cell 0; have d1 : (w9.alloc (.cells #[.bool b, .int .i64 (a : Nat)] 25)).cell? ⟨w2.heap.size, 1, none⟩ = some (.int .i64 (a : Nat)) := L9.cell 1; clear hb L9))
    go_ret
    exact ⟨rfl, W9.out.alloc W9.out.size _⟩
  · have hd5 : ((r : Int) != 0) = true := by simp; omega
    go_wp2_with fail
    go_ret
    exact ⟨rfl, W3.out⟩
end Go.Proofs.Ytmnakdmmkkombaa
