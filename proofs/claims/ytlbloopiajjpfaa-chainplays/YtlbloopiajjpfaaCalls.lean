/- The contracts of chain's calls. Conditions: those of each theorem. -/
import Derived.Test.YtlbloopiajjpfaaRows
import Derived.Test.YtlbloopiajjpfaaNums
import Derived.WalkKit
import Derived.WalkSpells
import Derived.WalkLawsBesides
import Derived.ProofKit
import Derived.OpenShut
import Derived.Deep.OwnRows
import Derived.Deep.QuietTactic
import Derived.BigQuiet
import Derived.Deep.RegionWith
import Derived.RegionTactic
import Derived.ChangeAlike
import Derived.Deep.DeepCutAuto
namespace Go.Proofs.Ytlbloopiajjpfaa
open Go.RowKit

theorem ret_int {k : IntKind} {a b : Int} (h : a = b) : Ending.returned (.int k a) = .returned (.int k b) := by rw [h]
theorem Blk.drew {w : World} {g : Nat} {t : TypeId} {cs : List Value} (h : Blk w g t cs) : Blk w.drew g t cs := h
theorem Blk.drewN {w : World} {g : Nat} {t : TypeId} {cs : List Value} (h : Blk w g t cs) (n : Nat) : Blk (w.drewN n) g t cs := h

/-- The head of chains at block g: n lines in block q, m places and n heads in block s. -/
def HeadAt (w : World) (g q s n m : Nat) : Prop := Blk w g 52 [.slice (some ⟨q, 0, none⟩) n n, .slice (some ⟨s, 0, none⟩) (m + n) (m + n)]
/-- Chains at block g. -/
def ChAt (w : World) (g q s n m : Nat) (L : List (List Nat)) : Prop :=
  ∃ (qs ss : List Value), HeadAt w g q s n m ∧ Blk w q 54 qs ∧ Blk w s 57 ss ∧ g ≠ q ∧ g ≠ s ∧ q ≠ s ∧ Lined n m L qs ss
/-- Three blocks alone. -/
def three (g q f : Nat) : Nat → Prop := fun k => k = g ∨ k = q ∨ k = f
theorem ChAt.len {w : World} {g q s n m : Nat} {L : List (List Nat)} (h : ChAt w g q s n m L) : L.length = n := by
  obtain ⟨qs, ss, b1, b2, b3, n1, n2, n3, H⟩ := h
  exact H.len
theorem ChAt.size {w : World} {g q s n m : Nat} {L : List (List Nat)} (h : ChAt w g q s n m L) : 1 ≤ n ∧ n ≤ 129 ∧ 1 ≤ m ∧ m ≤ 4096 := by
  obtain ⟨qs, ss, b1, b2, b3, n1, n2, n3, H⟩ := h
  exact ⟨H.low, H.high, H.lowm, H.highm⟩
theorem ChAt.head {w : World} {g q s n m : Nat} {L : List (List Nat)} (h : ChAt w g q s n m L) : HeadAt w g q s n m := by
  obtain ⟨qs, ss, b1, b2, b3, n1, n2, n3, H⟩ := h
  exact b1
theorem ChAt.drewN {w : World} {g q s n m : Nat} {L : List (List Nat)} (h : ChAt w g q s n m L) (N : Nat) : ChAt (w.drewN N) g q s n m L := h
theorem HeadAt.drewN {w : World} {g q s n m : Nat} (h : HeadAt w g q s n m) (N : Nat) : HeadAt (w.drewN N) g q s n m := h

set_option maxHeartbeats 400000 in
theorem head_ (g q s n m k : Nat) (x : Int) (w : World) (h : HeadAt w g q s n m) (hx : x = k) (hk : k ≤ 129) (_hn : n ≤ 129) (hm : m ≤ 4096) :
    Calls Try.prog 21 #[.pointer (some ⟨g, 0, none⟩), .int .i64 x] w fun e w' => e = .returned (.int .i64 ((m + k : Nat) : Int)) ∧ ∃ N, w' = w.drewN N := by
  subst hx
  have hc0 : w.cell? ⟨g, 0, none⟩ = some (.slice (some ⟨q, 0, none⟩) n n) := h.cell 0
  have hc1 : w.cell? ⟨g, 1, none⟩ = some (.slice (some ⟨s, 0, none⟩) (m + n) (m + n)) := h.cell 1
  clear h
  have HE : Hid ((((m + n : Nat) : Int) - (n : Int)) + (k : Int) = ((m + k : Nat) : Int)) := by show _ = _; omega
  go_enter Try.func21, Try.ntmps21
  go_wp2
  go_quiet (fail)
  go_wp2
  go_ret
  exact ⟨ret_int (by omega), _, rfl⟩
set_option maxHeartbeats 400000 in
theorem hasline_yes (g q s n m k : Nat) (x : Int) (w : World) (h : HeadAt w g q s n m) (hx : x = k) (hk : k < n) :
    Calls Try.prog 22 #[.pointer (some ⟨g, 0, none⟩), .int .i64 x] w fun e w' => e = .returned (.bool true) ∧ w = w' := by
  subst hx
  have hc0 : w.cell? ⟨g, 0, none⟩ = some (.slice (some ⟨q, 0, none⟩) n n) := h.cell 0
  clear h
  have hd : decide ((0 : Int) ≤ (k : Int)) = true := by simp
  have hd2 : decide ((k : Int) < (n : Int)) = true := by simp; omega
  have hd3 : decide (k < n) = true := by simp; omega
  go_enter Try.func22, Try.ntmps22
  go_wp2
  go_ret
  exact ⟨rfl, rfl⟩
set_option maxHeartbeats 400000 in
theorem hasline_no (g q s n m : Nat) (x : Int) (w : World) (h : HeadAt w g q s n m) (hx : x < 0 ∨ (n : Int) ≤ x) :
    Calls Try.prog 22 #[.pointer (some ⟨g, 0, none⟩), .int .i64 x] w fun e w' => e = .returned (.bool false) ∧ w = w' := by
  have hc0 : w.cell? ⟨g, 0, none⟩ = some (.slice (some ⟨q, 0, none⟩) n n) := h.cell 0
  clear h
  by_cases h0 : x < 0
  · have hd : decide (0 ≤ x) = false := by simp; omega
    clear hx
    go_enter Try.func22, Try.ntmps22
    go_wp2
    go_ret
    exact ⟨rfl, rfl⟩
  · have hd : decide (0 ≤ x) = true := by simp; omega
    have hd2 : decide (x < (n : Int)) = false := by simp; omega
    clear hx
    go_enter Try.func22, Try.ntmps22
    go_wp2
    go_ret
    exact ⟨rfl, rfl⟩
set_option maxHeartbeats 400000 in
theorem hasplace_yes (g q s n m k : Nat) (x : Int) (w : World) (h : HeadAt w g q s n m) (hn : n ≤ 129) (hm : m ≤ 4096) (hx : x = k) (hk : k < m) :
    Calls Try.prog 23 #[.pointer (some ⟨g, 0, none⟩), .int .i64 x] w fun e w' => e = .returned (.bool true) ∧ ∃ N, w' = w.drewN N := by
  subst hx
  have HH := Lib.hid h
  clear h
  have hd : decide ((0 : Int) ≤ (k : Int)) = true := by simp
  have hd2 : decide ((k : Int) < ((m + 0 : Nat) : Int)) = true := by simp; omega
  have hd3 : decide (k < m) = true := by simp; omega
  go_enter Try.func23, Try.ntmps23
  go_wp2_with (go_at_call 21; (with_reducible refine (head_ g q s n m 0 _ _ HH.out (by omega) (by omega) hn hm).mono ?_); rintro e w' ⟨rfl, N, rfl⟩)
  go_ret
  exact ⟨rfl, _, rfl⟩
set_option maxHeartbeats 400000 in
theorem hasplace_no (g q s n m : Nat) (x : Int) (w : World) (h : HeadAt w g q s n m) (hn : n ≤ 129) (hm : m ≤ 4096) (hx : x < 0 ∨ (m : Int) ≤ x) :
    Calls Try.prog 23 #[.pointer (some ⟨g, 0, none⟩), .int .i64 x] w fun e w' => e = .returned (.bool false) ∧ ∃ N, w' = w.drewN N := by
  have HH := Lib.hid h
  clear h
  by_cases h0 : x < 0
  · have hd : decide (0 ≤ x) = false := by simp; omega
    clear hx
    go_enter Try.func23, Try.ntmps23
    go_wp2
    go_ret
    exact ⟨rfl, 0, rfl⟩
  · have hd : decide (0 ≤ x) = true := by simp; omega
    have hd2 : decide (x < (m : Int)) = false := by simp; omega
    have hd3 : decide (x < ((m + 0 : Nat) : Int)) = false := by simp; omega
    clear hx
    go_enter Try.func23, Try.ntmps23
    go_wp2_with (go_at_call 21; (with_reducible refine (head_ g q s n m 0 _ _ HH.out (by omega) (by omega) hn hm).mono ?_); rintro e w' ⟨rfl, N, rfl⟩)
    go_ret
    exact ⟨rfl, _, rfl⟩
set_option maxHeartbeats 400000 in
theorem len_ (g q s n m : Nat) (x : Int) (L : List (List Nat)) (w : World) (h : ChAt w g q s n m L) :
    Calls Try.prog 9 #[.pointer (some ⟨g, 0, none⟩), .int .i64 x] w fun e w' => e = .returned (.int .i64 (lenOf L x : Nat)) ∧ w = w' := by
  have HH := Lib.hid h.head
  have hlen := h.len
  rcases hr : rowOf L x with _ | xs
  · have hx := rowOf_none hr
    rw [hlen] at hx
    have he : lenOf L x = 0 := by simp [lenOf, hr]
    have HX := Lib.hid hx
    clear hx h hr hlen
    rw [he]
    go_enter Try.func9, Try.ntmps9
    go_wp2_with (go_at_call 22; (with_reducible refine (hasline_no g q s n m _ _ HH.out HX.out).mono ?_); rintro e w' ⟨rfl, rfl⟩)
    go_ret
    exact ⟨rfl, rfl⟩
  · obtain ⟨l, rfl, hl⟩ := rowOf_some hr
    have he : lenOf L l = xs.length := by simp [lenOf, hr]
    rw [he]
    obtain ⟨qs, ss, b1, b2, b3, n1, n2, n3, H⟩ := h
    have hln := H.lt hl
    have hc0 : w.cell? ⟨g, 0, none⟩ = some (.slice (some ⟨q, 0, none⟩) n n) := b1.cell 0
    have hcv : w.cell? ⟨q, l * 2 + 1, none⟩ = some (.int .i64 (xs.length : Nat)) := (b2.cell _).trans (H.q l xs hl).2
    clear b1 b2 b3 H hr hl hlen he
    generalize xs.length = r at *
    go_enter Try.func9, Try.ntmps9
    go_wp2_with (go_at_call 22; (with_reducible refine (hasline_yes g q s n m l _ _ HH.out rfl hln).mono ?_); rintro e w' ⟨rfl, rfl⟩)
    go_ret
    exact ⟨rfl, rfl⟩
set_option maxHeartbeats 400000 in
theorem line_ (g q s n m : Nat) (y : Int) (L : List (List Nat)) (w : World) (h : ChAt w g q s n m L) :
    Calls Try.prog 20 #[.pointer (some ⟨g, 0, none⟩), .int .i64 y] w fun e w' => e = .returned (.tuple #[.int .i64 (toNum (lineOf L y)), .bool (lineOf L y).isSome]) ∧ ∃ N, w' = w.drewN N := by
  have HH := Lib.hid h.head
  obtain ⟨h1, h2, h3, h4⟩ := h.size
  by_cases hy : y < 0 ∨ (m : Int) ≤ y
  · have he : lineOf L y = none := by
      rcases e : lineOf L y with _ | l
      · rfl
      · obtain ⟨p, xs, rfl, hl, hp⟩ := lineOf_some e
        obtain ⟨qs, ss, b1, b2, b3, n1, n2, n3, H⟩ := h
        have := (H.inn l xs p hl hp).1
        omega
    have HX := Lib.hid hy
    rw [he]
    clear hy h he
    go_enter Try.func20, Try.ntmps20
    go_wp2_with (go_at_call 23; (with_reducible refine (hasplace_no g q s n m _ _ HH.out h2 h4 HX.out).mono ?_); rintro e w' ⟨rfl, N, rfl⟩)
    go_ret2
    exact ⟨rfl, _, rfl⟩
  · obtain ⟨p, rfl⟩ : ∃ p : Nat, y = p := ⟨y.toNat, by omega⟩
    have hpm : p < m := by omega
    obtain ⟨qs, ss, b1, b2, b3, n1, n2, n3, H⟩ := h
    have hc1 : w.cell? ⟨g, 1, none⟩ = some (.slice (some ⟨s, 0, none⟩) (m + n) (m + n)) := b1.cell 1
    have hc : w.cell? ⟨s, p * 3 + 1, none⟩ = some (.int .i64 (toNum (lineOf L p))) ∧ w.cell? ⟨s, p * 3 + 2, none⟩ = some (.bool (lineOf L p).isSome) := by
      rw [b3.cell, b3.cell]
      rcases e : lineOf L p with _ | l
      · rcases lineOf_none e with h | ⟨p', hp', hno⟩
        · omega
        · obtain rfl : p = p' := by omega
          exact H.out p hpm hno
      · obtain ⟨p', xs, hp', hl, hp⟩ := lineOf_some e
        obtain rfl : p = p' := by omega
        exact (H.inn l xs p hl hp).2
    obtain ⟨hca, hcb⟩ := hc
    generalize toNum (lineOf L p) = z at *
    generalize (lineOf L p).isSome = b at *
    clear b1 b2 b3 H hy
    go_enter Try.func20, Try.ntmps20
    go_wp2_with (go_at_call 23; (with_reducible refine (hasplace_yes g q s n m p _ _ HH.out h2 h4 rfl hpm).mono ?_); rintro e w' ⟨rfl, N, rfl⟩)
    go_quiet (fail)
    go_wp2
    go_ret2
    exact ⟨rfl, _, World.drewN_drewN _ _ _⟩
theorem endOf_next {xs : List Nat} {k p : Nat} (h : Nat) (hk : xs[k]? = some p) : endOf h (xs.take (k + 1)) = p := by
  obtain ⟨hl, e⟩ := List.getElem?_eq_some_iff.1 hk
  rw [← List.take_append_getElem hl, endOf_app, e]
  rfl
set_option maxHeartbeats 400000 in
theorem ahead_ (g q s n m l k p : Nat) (x y : Int) (xs : List Nat) (L : List (List Nat)) (w : World) (h : ChAt w g q s n m L) (hx : x = l) (hy : y = k) (hl : L[l]? = some xs) (hk : xs[k]? = some p) :
    Calls Try.prog 26 #[.pointer (some ⟨g, 0, none⟩), .int .i64 x, .int .i64 y] w fun e w' => e = .returned (.int .i64 (endOf (m + l) (xs.take k) : Nat)) ∧ ∃ N, w' = w.drewN N := by
  subst hx hy
  have HH := Lib.hid h.head
  obtain ⟨h1, h2, h3, h4⟩ := h.size
  obtain ⟨qs, ss, b1, b2, b3, n1, n2, n3, H⟩ := h
  have hln := H.lt hl
  have hkm : k < 4096 := by have := (List.getElem?_eq_some_iff.1 hk).1; have := H.short hl; omega
  have hc1 : w.cell? ⟨g, 1, none⟩ = some (.slice (some ⟨s, 0, none⟩) (m + n) (m + n)) := b1.cell 1
  have HN : Hid (∀ j, j < k → ∃ p', xs[j]? = some p' ∧ w.cell? ⟨s, endOf (m + l) (xs.take j) * 3, none⟩ = some (.int .i64 (p' : Nat)) ∧ endOf (m + l) (xs.take j) < m + n) := by
    intro j hj
    have hjl : j < xs.length := by have := (List.getElem?_eq_some_iff.1 hk).1; omega
    refine ⟨xs[j], List.getElem?_eq_getElem hjl, ?_⟩
    have := H.next hl (List.getElem?_eq_getElem hjl)
    exact ⟨(b3.cell _).trans this.1, this.2.1⟩
  clear b1 b2 b3 H hk hl
  go_enter Try.func26, Try.ntmps26
  go_wp2_with (go_at_call 21; (with_reducible refine (head_ g q s n m l _ _ HH.out rfl (by omega) h2 h4).mono ?_); rintro e w' ⟨rfl, N, rfl⟩)
  go_loop [7, 12] (fun a i => ∃ j : Nat, j ≤ k ∧ i = .int .i64 j ∧ a = .int .i64 (endOf (m + l) (xs.take j) : Nat)) (fun _ i => k - (intOf i).toNat)
  case atStart => exact ⟨0, by omega, rfl, rfl⟩
  case round =>
    obtain ⟨j, hj, rfl, rfl⟩ := hrel
    by_cases hlt : j < k
    · have hd : decide ((j : Int) < (k : Int)) = true := by simp; omega
      obtain ⟨p', hp', hcell, hsp⟩ := HN.out j hlt
      have HP := Lib.hid hp'
      clear hp'
      generalize hgen : endOf (m + l) (xs.take j) = a at *
      have hd2 : decide (j < k) = true := by simp; omega
      go_wp2
      go_round
      case rel => exact ⟨j + 1, by omega, by go_num, by rw [endOf_next _ HP.out]⟩
      case measure => simp [intOf]; omega
    · obtain rfl : j = k := by omega
      go_wp2
      go_ret
      exact ⟨rfl, _, rfl⟩
theorem atOf_none {L : List (List Nat)} {x k : Int} (h : atOf L x k = none) : k < 0 ∨ (lenOf L x : Int) ≤ k := by
  unfold atOf at h
  split at h
  · have := List.getElem?_eq_none_iff.1 h
    unfold lenOf
    omega
  · omega
theorem atOf_some {L : List (List Nat)} {x k : Int} {p : Nat} (h : atOf L x k = some p) : ∃ (l j : Nat) (xs : List Nat), x = l ∧ k = j ∧ L[l]? = some xs ∧ xs[j]? = some p ∧ lenOf L x = xs.length := by
  unfold atOf at h
  split at h
  · rcases e : rowOf L x with _ | xs
    · rw [e] at h; cases h
    · rw [e] at h
      obtain ⟨l, rfl, hl⟩ := rowOf_some e
      exact ⟨l, k.toNat, xs, rfl, by omega, hl, h, by simp [lenOf, e]⟩
  · cases h
set_option maxHeartbeats 400000 in
theorem at_ (g q s n m : Nat) (x k : Int) (L : List (List Nat)) (w : World) (h : ChAt w g q s n m L) :
    Calls Try.prog 19 #[.pointer (some ⟨g, 0, none⟩), .int .i64 x, .int .i64 k] w fun e w' => e = .returned (.tuple #[.int .i64 (toNum (atOf L x k)), .bool (atOf L x k).isSome]) ∧ ∃ N, w' = w.drewN N := by
  have HC := Lib.hid h
  rcases e : atOf L x k with _ | p
  · have hk := atOf_none e
    clear h e
    by_cases h0 : k < 0
    · have hd : decide (k < 0) = true := by simpa using h0
      clear hk
      go_enter Try.func19, Try.ntmps19
      go_wp2
      go_ret2
      exact ⟨rfl, 0, rfl⟩
    · have hd : decide (k < 0) = false := by simpa using h0
      have hd2 : decide ((lenOf L x : Int) ≤ k) = true := by simp; omega
      clear hk
      go_enter Try.func19, Try.ntmps19
      go_wp2_with (go_at_call 9; (with_reducible refine (len_ g q s n m _ L _ HC.out).mono ?_); rintro e w' ⟨rfl, rfl⟩)
      go_ret2
      exact ⟨rfl, 0, rfl⟩
  · obtain ⟨l, j, xs, rfl, rfl, hl, hj, hlen⟩ := atOf_some e
    obtain ⟨qs, ss, b1, b2, b3, n1, n2, n3, H⟩ := h
    have hjl := (List.getElem?_eq_some_iff.1 hj).1
    have hd : decide ((j : Int) < 0) = false := by simp
    have hd2 : decide ((lenOf L l : Int) ≤ (j : Int)) = false := by rw [hlen]; simp; omega
    have hd3 : decide (lenOf L l ≤ j) = false := by rw [hlen]; simp; omega
    have hc1 : w.cell? ⟨g, 1, none⟩ = some (.slice (some ⟨s, 0, none⟩) (m + n) (m + n)) := b1.cell 1
    obtain ⟨hnx, hsp, _, _⟩ := H.next hl hj
    have hcv : w.cell? ⟨s, endOf (m + l) (xs.take j) * 3, none⟩ = some (.int .i64 (p : Nat)) := (b3.cell _).trans hnx
    have HL := Lib.hid hl
    have HJ := Lib.hid hj
    have HA := Lib.hid (fun (W : World) (hc : ChAt W g q s n m L) => ahead_ g q s n m l j p (l : Int) (j : Int) xs L W hc rfl rfl hl hj)
    clear b1 b2 b3 H hnx hl hj e hlen
    generalize endOf (m + l) (xs.take j) = a at *
    have ha0 : (0 : Int) ≤ (a : Int) := by omega
    have ha1 : (a : Int) < ((m + n : Nat) : Int) := by omega
    go_enter Try.func19, Try.ntmps19
    go_wp2_with (go_at_call 9; (with_reducible refine (len_ g q s n m _ L _ HC.out).mono ?_); rintro e w' ⟨rfl, rfl⟩)
    go_quiet ((go_at_call 26; exact Calls.quiet_of (HA.out _ HC.out)))
    go_wp2
    go_ret2
    exact ⟨rfl, _, rfl⟩
set_option maxHeartbeats 400000 in
theorem cutno_ (g q s n m : Nat) (x k : Int) (L : List (List Nat)) (w : World) (h : ChAt w g q s n m L) (e : atOf L x k = none) :
    Calls Try.prog 17 #[.pointer (some ⟨g, 0, none⟩), .int .i64 x, .int .i64 k] w fun e w' => e = .returned (.tuple #[.int .i64 0, .bool false]) ∧ w = w' := by
  have HC := Lib.hid h
  have hk := atOf_none e
  clear h e
  by_cases h0 : k < 0
  · have hd : decide (k < 0) = true := by simpa using h0
    clear hk
    go_enter Try.func17, Try.ntmps17
    go_wp2
    go_ret2
    exact ⟨rfl, rfl⟩
  · have hd : decide (k < 0) = false := by simpa using h0
    have hd2 : decide ((lenOf L x : Int) ≤ k) = true := by simp; omega
    clear hk
    go_enter Try.func17, Try.ntmps17
    go_wp2_with (go_at_call 9; (with_reducible refine (len_ g q s n m _ L _ HC.out).mono ?_); rintro e w' ⟨rfl, rfl⟩)
    go_ret2
    exact ⟨rfl, rfl⟩
end Go.Proofs.Ytlbloopiajjpfaa
