/- The contracts of chain's calls that turn something: Cut, Pop, Push, New. Conditions: those of each theorem. -/
import Derived.Test.YtlbloopiajjpfaaCalls
namespace Go.Proofs.Ytlbloopiajjpfaa
open Go.RowKit

section
variable {w : World} {g q s n m : Nat} {L : List (List Nat)} {qs ss : List Value}
theorem ch_cut1 {l j p : Nat} {xs : List Nat} {z : Int} (b1 : HeadAt w g q s n m) (b2 : Blk w q 54 qs) (b3 : Blk w s 57 ss) (n1 : g ≠ q) (n2 : g ≠ s) (n3 : q ≠ s) (H : Lined n m L qs ss)
    (hl : L[l]? = some xs) (hj : xs[j]? = some p) (hz : ss[p * 3]? = some (.int .i64 z)) (he : endOf (m + l) xs = p) (M : Nat) :
    ChAt (((((((w.drewN M).setCell ⟨s, endOf (m + l) (xs.take j) * 3, none⟩ (.int .i64 z)).setCell ⟨s, p * 3, none⟩ (.int .i64 0)).setCell ⟨s, p * 3 + 1, none⟩ (.int .i64 0)).setCell ⟨s, p * 3 + 2, none⟩ (.bool false)).setCell ⟨q, l * 2, none⟩ (.int .i64 (endOf (m + l) (xs.take j) : Nat))).setCell ⟨q, l * 2 + 1, none⟩ (.int .i64 ((xs.length : Int) - 1))) g q s n m (L.set l (xs.eraseIdx j)) ∧
    Far (three g q s) w (((((((w.drewN M).setCell ⟨s, endOf (m + l) (xs.take j) * 3, none⟩ (.int .i64 z)).setCell ⟨s, p * 3, none⟩ (.int .i64 0)).setCell ⟨s, p * 3 + 1, none⟩ (.int .i64 0)).setCell ⟨s, p * 3 + 2, none⟩ (.bool false)).setCell ⟨q, l * 2, none⟩ (.int .i64 (endOf (m + l) (xs.take j) : Nat))).setCell ⟨q, l * 2 + 1, none⟩ (.int .i64 ((xs.length : Int) - 1))) := by
  have h := H.cut hl hj hz
  rw [if_pos he] at h
  refine ⟨⟨_, _, ?_, ?_, ?_, n1, n2, n3, h⟩, ?_⟩
  · exact ((((((b1.drewN M).other (p := ⟨s, _, none⟩) n2 _).other (p := ⟨s, _, none⟩) n2 _).other (p := ⟨s, _, none⟩) n2 _).other (p := ⟨s, _, none⟩) n2 _).other (p := ⟨q, _, none⟩) n1 _).other (p := ⟨q, _, none⟩) n1 _
  · exact ((((((b2.drewN M).other (p := ⟨s, _, none⟩) n3 _).other (p := ⟨s, _, none⟩) n3 _).other (p := ⟨s, _, none⟩) n3 _).other (p := ⟨s, _, none⟩) n3 _).set_ _ _).set_ _ _
  · exact ((((((b3.drewN M).set_ _ _).set_ _ _).set_ _ _).set_ _ _).other (p := ⟨q, _, none⟩) (fun e => n3 e.symm) _).other (p := ⟨q, _, none⟩) (fun e => n3 e.symm) _
  · exact (((((((Far.refl _ w).drewN M).set_ (p := ⟨s, _, none⟩) (fun _ => .inr (.inr rfl)) _).set_ (p := ⟨s, _, none⟩) (fun _ => .inr (.inr rfl)) _).set_ (p := ⟨s, _, none⟩) (fun _ => .inr (.inr rfl)) _).set_ (p := ⟨s, _, none⟩) (fun _ => .inr (.inr rfl)) _).set_ (p := ⟨q, _, none⟩) (fun _ => .inr (.inl rfl)) _).set_ (p := ⟨q, _, none⟩) (fun _ => .inr (.inl rfl)) _
theorem ch_cut2 {l j p : Nat} {xs : List Nat} {z : Int} (b1 : HeadAt w g q s n m) (b2 : Blk w q 54 qs) (b3 : Blk w s 57 ss) (n1 : g ≠ q) (n2 : g ≠ s) (n3 : q ≠ s) (H : Lined n m L qs ss)
    (hl : L[l]? = some xs) (hj : xs[j]? = some p) (hz : ss[p * 3]? = some (.int .i64 z)) (he : ¬ endOf (m + l) xs = p) (M : Nat) :
    ChAt ((((((w.drewN M).setCell ⟨s, endOf (m + l) (xs.take j) * 3, none⟩ (.int .i64 z)).setCell ⟨s, p * 3, none⟩ (.int .i64 0)).setCell ⟨s, p * 3 + 1, none⟩ (.int .i64 0)).setCell ⟨s, p * 3 + 2, none⟩ (.bool false)).setCell ⟨q, l * 2 + 1, none⟩ (.int .i64 ((xs.length : Int) - 1))) g q s n m (L.set l (xs.eraseIdx j)) ∧
    Far (three g q s) w ((((((w.drewN M).setCell ⟨s, endOf (m + l) (xs.take j) * 3, none⟩ (.int .i64 z)).setCell ⟨s, p * 3, none⟩ (.int .i64 0)).setCell ⟨s, p * 3 + 1, none⟩ (.int .i64 0)).setCell ⟨s, p * 3 + 2, none⟩ (.bool false)).setCell ⟨q, l * 2 + 1, none⟩ (.int .i64 ((xs.length : Int) - 1))) := by
  have h := H.cut hl hj hz
  rw [if_neg he] at h
  refine ⟨⟨_, _, ?_, ?_, ?_, n1, n2, n3, h⟩, ?_⟩
  · exact (((((b1.drewN M).other (p := ⟨s, _, none⟩) n2 _).other (p := ⟨s, _, none⟩) n2 _).other (p := ⟨s, _, none⟩) n2 _).other (p := ⟨s, _, none⟩) n2 _).other (p := ⟨q, _, none⟩) n1 _
  · exact (((((b2.drewN M).other (p := ⟨s, _, none⟩) n3 _).other (p := ⟨s, _, none⟩) n3 _).other (p := ⟨s, _, none⟩) n3 _).other (p := ⟨s, _, none⟩) n3 _).set_ _ _
  · exact (((((b3.drewN M).set_ _ _).set_ _ _).set_ _ _).set_ _ _).other (p := ⟨q, _, none⟩) (fun e => n3 e.symm) _
  · exact ((((((Far.refl _ w).drewN M).set_ (p := ⟨s, _, none⟩) (fun _ => .inr (.inr rfl)) _).set_ (p := ⟨s, _, none⟩) (fun _ => .inr (.inr rfl)) _).set_ (p := ⟨s, _, none⟩) (fun _ => .inr (.inr rfl)) _).set_ (p := ⟨s, _, none⟩) (fun _ => .inr (.inr rfl)) _).set_ (p := ⟨q, _, none⟩) (fun _ => .inr (.inl rfl)) _
theorem ch_push {l p : Nat} {xs : List Nat} (b1 : HeadAt w g q s n m) (b2 : Blk w q 54 qs) (b3 : Blk w s 57 ss) (n1 : g ≠ q) (n2 : g ≠ s) (n3 : q ≠ s) (H : Lined n m L qs ss)
    (hl : L[l]? = some xs) (hp : p < m) (hf : ∀ (l : Nat) (xs : List Nat), L[l]? = some xs → p ∉ xs) (M : Nat) :
    ChAt (((((((w.drewN M).setCell ⟨s, p * 3, none⟩ (.int .i64 0)).setCell ⟨s, p * 3 + 1, none⟩ (.int .i64 (l : Nat))).setCell ⟨s, p * 3 + 2, none⟩ (.bool true)).setCell ⟨s, endOf (m + l) xs * 3, none⟩ (.int .i64 (p : Nat))).setCell ⟨q, l * 2, none⟩ (.int .i64 (p : Nat))).setCell ⟨q, l * 2 + 1, none⟩ (.int .i64 ((xs.length : Int) + 1))).drew g q s n m (L.set l (xs ++ [p])) ∧
    Far (three g q s) w (((((((w.drewN M).setCell ⟨s, p * 3, none⟩ (.int .i64 0)).setCell ⟨s, p * 3 + 1, none⟩ (.int .i64 (l : Nat))).setCell ⟨s, p * 3 + 2, none⟩ (.bool true)).setCell ⟨s, endOf (m + l) xs * 3, none⟩ (.int .i64 (p : Nat))).setCell ⟨q, l * 2, none⟩ (.int .i64 (p : Nat))).setCell ⟨q, l * 2 + 1, none⟩ (.int .i64 ((xs.length : Int) + 1))).drew := by
  refine ⟨⟨_, _, ?_, ?_, ?_, n1, n2, n3, H.push hl hp hf⟩, ?_⟩
  · exact (((((((b1.drewN M).other (p := ⟨s, _, none⟩) n2 _).other (p := ⟨s, _, none⟩) n2 _).other (p := ⟨s, _, none⟩) n2 _).other (p := ⟨s, _, none⟩) n2 _).other (p := ⟨q, _, none⟩) n1 _).other (p := ⟨q, _, none⟩) n1 _).drew
  · exact (((((((b2.drewN M).other (p := ⟨s, _, none⟩) n3 _).other (p := ⟨s, _, none⟩) n3 _).other (p := ⟨s, _, none⟩) n3 _).other (p := ⟨s, _, none⟩) n3 _).set_ _ _).set_ _ _).drew
  · exact (((((((b3.drewN M).set_ _ _).set_ _ _).set_ _ _).set_ _ _).other (p := ⟨q, _, none⟩) (fun e => n3 e.symm) _).other (p := ⟨q, _, none⟩) (fun e => n3 e.symm) _).drew
  · exact ((((((((Far.refl _ w).drewN M).set_ (p := ⟨s, _, none⟩) (fun _ => .inr (.inr rfl)) _).set_ (p := ⟨s, _, none⟩) (fun _ => .inr (.inr rfl)) _).set_ (p := ⟨s, _, none⟩) (fun _ => .inr (.inr rfl)) _).set_ (p := ⟨s, _, none⟩) (fun _ => .inr (.inr rfl)) _).set_ (p := ⟨q, _, none⟩) (fun _ => .inr (.inl rfl)) _).set_ (p := ⟨q, _, none⟩) (fun _ => .inr (.inl rfl)) _).drew
end
set_option maxHeartbeats 1000000 in
theorem cutyes_ (g q s n m l j p : Nat) (xs : List Nat) (L : List (List Nat)) (w : World) (h : ChAt w g q s n m L) (hl : L[l]? = some xs) (hj : xs[j]? = some p) :
    Calls Try.prog 17 #[.pointer (some ⟨g, 0, none⟩), .int .i64 (l : Nat), .int .i64 (j : Nat)] w fun e w' => e = .returned (.tuple #[.int .i64 (p : Nat), .bool true]) ∧ ChAt w' g q s n m (L.set l (xs.eraseIdx j)) ∧ Far (three g q s) w w' := by
  have HC := Lib.hid h
  obtain ⟨qs, ss, b1, b2, b3, n1, n2, n3, H⟩ := h
  have hjl := (List.getElem?_eq_some_iff.1 hj).1
  have hln := H.lt hl
  have hlen : lenOf L l = xs.length := by simp [lenOf, rowOf_nat hl]
  have hsh := H.short hl
  have hmm := H.highm
  have hd : decide ((j : Int) < 0) = false := by simp
  have hd2 : decide ((lenOf L l : Int) ≤ (j : Int)) = false := by rw [hlen]; simp; omega
  have hd3 : decide (lenOf L l ≤ j) = false := by rw [hlen]; simp; omega
  have hc0 : w.cell? ⟨g, 0, none⟩ = some (.slice (some ⟨q, 0, none⟩) n n) := b1.cell 0
  have hc1 : w.cell? ⟨g, 1, none⟩ = some (.slice (some ⟨s, 0, none⟩) (m + n) (m + n)) := b1.cell 1
  obtain ⟨hnx, hsp, hap, hpm⟩ := H.next hl hj
  have hcv : w.cell? ⟨s, endOf (m + l) (xs.take j) * 3, none⟩ = some (.int .i64 (p : Nat)) := (b3.cell _).trans hnx
  obtain ⟨z, hz⟩ := H.num p (by omega)
  have hcp : w.cell? ⟨s, p * 3, none⟩ = some (.int .i64 z) := (b3.cell _).trans hz
  have hq0 : w.cell? ⟨q, l * 2, none⟩ = some (.int .i64 (endOf (m + l) xs : Nat)) := (b2.cell _).trans (H.q l xs hl).1
  have hq1 : w.cell? ⟨q, l * 2 + 1, none⟩ = some (.int .i64 (xs.length : Nat)) := (b2.cell _).trans (H.q l xs hl).2
  obtain ⟨o1, ho1⟩ : ∃ o, w.cell? ⟨s, p * 3 + 1, none⟩ = some o := by rw [b3.cell]; exact ⟨_, List.getElem?_eq_getElem (by have := H.ls; omega)⟩
  obtain ⟨o2, ho2⟩ : ∃ o, w.cell? ⟨s, p * 3 + 2, none⟩ = some o := by rw [b3.cell]; exact ⟨_, List.getElem?_eq_getElem (by have := H.ls; omega)⟩
  have hf1 := b2.frozen (l * 2)
  have hf2 := b2.frozen (l * 2 + 1)
  have hf3 := b3.frozen (endOf (m + l) (xs.take j) * 3)
  have hf4 := b3.frozen (p * 3)
  have hf5 := b3.frozen (p * 3 + 1)
  have hf6 := b3.frozen (p * 3 + 2)
  have HR1 := Lib.hid (fun M he => ch_cut1 b1 b2 b3 n1 n2 n3 H hl hj hz he M)
  have HR2 := Lib.hid (fun M he => ch_cut2 b1 b2 b3 n1 n2 n3 H hl hj hz he M)
  have HA := Lib.hid (fun (W : World) (hc : ChAt W g q s n m L) => ahead_ g q s n m l j p (l : Int) (j : Int) xs L W hc rfl rfl hl hj)
  clear b1 b2 b3 H hnx hl hj hlen hz
  have n4 : q ≠ g := fun e => n1 e.symm
  have n5 : s ≠ g := fun e => n2 e.symm
  have n6 : s ≠ q := fun e => n3 e.symm
  generalize endOf (m + l) (xs.take j) = a at *
  generalize endOf (m + l) xs = b at *
  generalize xs.length = r at *
  have ha0 : (0 : Int) ≤ (a : Int) := by omega
  have ha1 : (a : Int) < ((m + n : Nat) : Int) := by omega
  by_cases hb : b = p
  · have hd4 : decide ((b : Int) = (p : Int)) = true := by simp; omega
    go_enter Try.func17, Try.ntmps17
    go_wp2_with (first | (go_at_call 9; (with_reducible refine (len_ g q s n m _ L _ HC.out).mono ?_); rintro e w' ⟨rfl, rfl⟩) | (go_at_call 26; (with_reducible refine (HA.out _ HC.out).mono ?_); rintro e w' ⟨rfl, N, rfl⟩))
    go_region
    go_wp2
    go_ret2
    exact ⟨rfl, HR1.out _ hb⟩
  · have hd4 : decide ((b : Int) = (p : Int)) = false := by simp; omega
    go_enter Try.func17, Try.ntmps17
    go_wp2_with (first | (go_at_call 9; (with_reducible refine (len_ g q s n m _ L _ HC.out).mono ?_); rintro e w' ⟨rfl, rfl⟩) | (go_at_call 26; (with_reducible refine (HA.out _ HC.out).mono ?_); rintro e w' ⟨rfl, N, rfl⟩))
    go_region
    go_wp2
    go_ret2
    exact ⟨rfl, HR2.out _ hb⟩
theorem cut_ (g q s n m : Nat) (x k : Int) (L : List (List Nat)) (w : World) (h : ChAt w g q s n m L) :
    Calls Try.prog 17 #[.pointer (some ⟨g, 0, none⟩), .int .i64 x, .int .i64 k] w fun e w' => e = .returned (.tuple #[.int .i64 (toNum (atOf L x k)), .bool (atOf L x k).isSome]) ∧ ChAt w' g q s n m (cutOf L x k) ∧ Far (three g q s) w w' := by
  rcases e : atOf L x k with _ | p
  · refine (cutno_ g q s n m x k L w h e).mono ?_
    rintro e' w' ⟨rfl, rfl⟩
    refine ⟨rfl, ?_, Far.refl _ _⟩
    simpa [cutOf, e] using h
  · obtain ⟨l, j, xs, rfl, rfl, hl, hj, hlen⟩ := atOf_some e
    refine (cutyes_ g q s n m l j p xs L w h hl hj).mono ?_
    rintro e' w' ⟨rfl, hc, hf⟩
    refine ⟨rfl, ?_, hf⟩
    simpa [cutOf, e, rowOf_nat hl] using hc
set_option maxHeartbeats 400000 in
theorem pop_ (g q s n m : Nat) (x : Int) (L : List (List Nat)) (w : World) (h : ChAt w g q s n m L) :
    Calls Try.prog 13 #[.pointer (some ⟨g, 0, none⟩), .int .i64 x] w fun e w' => e = .returned (.tuple #[.int .i64 (toNum (atOf L x 0)), .bool (atOf L x 0).isSome]) ∧ ChAt w' g q s n m (cutOf L x 0) ∧ Far (three g q s) w w' := by
  have HC := Lib.hid h
  clear h
  have HCUT := Lib.hid (fun W (hc : ChAt W g q s n m L) => cut_ g q s n m x 0 L W hc)
  generalize toNum (atOf L x 0) = z at *
  generalize (atOf L x 0).isSome = b at *
  go_enter Try.func13, Try.ntmps13
  go_wp2_with (go_at_call 17; (with_reducible refine (HCUT.out _ HC.out).mono ?_); rintro e w' ⟨rfl, hc', hf'⟩; have H1 := Lib.hid hc'; have H2 := Lib.hid hf'; clear hc' hf')
  go_ret2
  exact ⟨rfl, H1.out, H2.out⟩
set_option maxHeartbeats 400000 in
theorem pushno1_ (g q s n m : Nat) (x y : Int) (L : List (List Nat)) (w : World) (h : ChAt w g q s n m L) (hx : x < 0 ∨ (n : Int) ≤ x) :
    Calls Try.prog 10 #[.pointer (some ⟨g, 0, none⟩), .int .i64 x, .int .i64 y] w fun e w' => e = .returned (.bool false) ∧ ∃ N, w' = w.drewN N := by
  have HH := Lib.hid h.head
  have HX := Lib.hid hx
  clear h hx
  go_enter Try.func10, Try.ntmps10
  go_wp2_with (go_at_call 22; (with_reducible refine (hasline_no g q s n m _ _ HH.out HX.out).mono ?_); rintro e w' ⟨rfl, rfl⟩)
  go_ret
  exact ⟨rfl, 0, rfl⟩
set_option maxHeartbeats 400000 in
theorem pushno2_ (g q s n m l : Nat) (x y : Int) (L : List (List Nat)) (w : World) (h : ChAt w g q s n m L) (hx : x = l) (hl : l < n) (hy : y < 0 ∨ (m : Int) ≤ y) :
    Calls Try.prog 10 #[.pointer (some ⟨g, 0, none⟩), .int .i64 x, .int .i64 y] w fun e w' => e = .returned (.bool false) ∧ ∃ N, w' = w.drewN N := by
  have HH := Lib.hid h.head
  have HY := Lib.hid hy
  obtain ⟨h1, h2, h3, h4⟩ := h.size
  clear h hy
  subst hx
  go_enter Try.func10, Try.ntmps10
  go_wp2_with (first | (go_at_call 22; (with_reducible refine (hasline_yes g q s n m l _ _ HH.out rfl hl).mono ?_); rintro e w' ⟨rfl, rfl⟩) | (go_at_call 23; (with_reducible refine (hasplace_no g q s n m _ _ HH.out h2 h4 HY.out).mono ?_); rintro e w' ⟨rfl, N, rfl⟩))
  go_ret
  exact ⟨rfl, _, rfl⟩
set_option maxHeartbeats 400000 in
theorem pushno3_ (g q s n m l p l' : Nat) (xs : List Nat) (x y : Int) (L : List (List Nat)) (w : World) (h : ChAt w g q s n m L) (hx : x = l) (hl : l < n) (hy : y = p) (hl' : L[l']? = some xs) (hp : p ∈ xs) :
    Calls Try.prog 10 #[.pointer (some ⟨g, 0, none⟩), .int .i64 x, .int .i64 y] w fun e w' => e = .returned (.bool false) ∧ ∃ N, w' = w.drewN N := by
  have HH := Lib.hid h.head
  obtain ⟨h1, h2, h3, h4⟩ := h.size
  subst hx hy
  obtain ⟨qs, ss, b1, b2, b3, n1, n2, n3, H⟩ := h
  obtain ⟨hpm, _, htk⟩ := H.inn l' xs p hl' hp
  have hc1 : w.cell? ⟨g, 1, none⟩ = some (.slice (some ⟨s, 0, none⟩) (m + n) (m + n)) := b1.cell 1
  have hct : w.cell? ⟨s, p * 3 + 2, none⟩ = some (.bool true) := (b3.cell _).trans htk
  clear b1 b2 b3 H htk hl' hp
  go_enter Try.func10, Try.ntmps10
  go_wp2_with (first | (go_at_call 22; (with_reducible refine (hasline_yes g q s n m l _ _ HH.out rfl hl).mono ?_); rintro e w' ⟨rfl, rfl⟩) | (go_at_call 23; (with_reducible refine (hasplace_yes g q s n m p _ _ HH.out h2 h4 rfl hpm).mono ?_); rintro e w' ⟨rfl, N, rfl⟩))
  go_ret
  exact ⟨rfl, _, rfl⟩
set_option maxHeartbeats 1000000 in
theorem pushyes_ (g q s n m l p : Nat) (xs : List Nat) (L : List (List Nat)) (w : World) (h : ChAt w g q s n m L) (hl : L[l]? = some xs) (hpm : p < m) (hf : ∀ (l : Nat) (xs : List Nat), L[l]? = some xs → p ∉ xs) :
    Calls Try.prog 10 #[.pointer (some ⟨g, 0, none⟩), .int .i64 (l : Nat), .int .i64 (p : Nat)] w fun e w' => e = .returned (.bool true) ∧ ChAt w' g q s n m (L.set l (xs ++ [p])) ∧ Far (three g q s) w w' := by
  have HH := Lib.hid h.head
  obtain ⟨h1, h2, h3, h4⟩ := h.size
  obtain ⟨qs, ss, b1, b2, b3, n1, n2, n3, H⟩ := h
  have hln := H.lt hl
  have hsh := H.short hl
  have hend := H.ends hl
  have hem := endOf_mem (m + l) xs
  have hpe : endOf (m + l) xs ≠ p := by
    intro e
    rw [e] at hem
    rcases List.mem_cons.1 hem with e | e
    · omega
    · exact hf l xs hl e
  have hc0 : w.cell? ⟨g, 0, none⟩ = some (.slice (some ⟨q, 0, none⟩) n n) := b1.cell 0
  have hc1 : w.cell? ⟨g, 1, none⟩ = some (.slice (some ⟨s, 0, none⟩) (m + n) (m + n)) := b1.cell 1
  have hct : w.cell? ⟨s, p * 3 + 2, none⟩ = some (.bool false) := (b3.cell _).trans (H.out p hpm hf).2
  have hcl : w.cell? ⟨s, p * 3 + 1, none⟩ = some (.int .i64 0) := (b3.cell _).trans (H.out p hpm hf).1
  obtain ⟨z, hz⟩ := H.num p (by omega)
  have hcp : w.cell? ⟨s, p * 3, none⟩ = some (.int .i64 z) := (b3.cell _).trans hz
  obtain ⟨z2, hz2⟩ := H.num _ hend
  have hce : w.cell? ⟨s, endOf (m + l) xs * 3, none⟩ = some (.int .i64 z2) := (b3.cell _).trans hz2
  have hq0 : w.cell? ⟨q, l * 2, none⟩ = some (.int .i64 (endOf (m + l) xs : Nat)) := (b2.cell _).trans (H.q l xs hl).1
  have hq1 : w.cell? ⟨q, l * 2 + 1, none⟩ = some (.int .i64 (xs.length : Nat)) := (b2.cell _).trans (H.q l xs hl).2
  have hf1 := b2.frozen (l * 2)
  have hf2 := b2.frozen (l * 2 + 1)
  have hf3 := b3.frozen (endOf (m + l) xs * 3)
  have hf4 := b3.frozen (p * 3)
  have hf5 := b3.frozen (p * 3 + 1)
  have hf6 := b3.frozen (p * 3 + 2)
  have HR := Lib.hid (fun M => ch_push b1 b2 b3 n1 n2 n3 H hl hpm hf M)
  clear b1 b2 b3 H hl hf hz hz2 hem
  have n4 : q ≠ g := fun e => n1 e.symm
  have n5 : s ≠ g := fun e => n2 e.symm
  have n6 : s ≠ q := fun e => n3 e.symm
  generalize endOf (m + l) xs = b at *
  generalize xs.length = r at *
  have ha0 : (0 : Int) ≤ (b : Int) := by omega
  have ha1 : (b : Int) < ((m + n : Nat) : Int) := by omega
  go_enter Try.func10, Try.ntmps10
  go_wp2_with (first | (go_at_call 22; (with_reducible refine (hasline_yes g q s n m l _ _ HH.out rfl hln).mono ?_); rintro e w' ⟨rfl, rfl⟩) | (go_at_call 23; (with_reducible refine (hasplace_yes g q s n m p _ _ HH.out h2 h4 rfl hpm).mono ?_); rintro e w' ⟨rfl, N, rfl⟩))
  go_region
  go_wp2
  go_ret
  exact ⟨rfl, HR.out _⟩
theorem push_ (g q s n m : Nat) (x y : Int) (L : List (List Nat)) (w : World) (h : ChAt w g q s n m L) :
    Calls Try.prog 10 #[.pointer (some ⟨g, 0, none⟩), .int .i64 x, .int .i64 y] w fun e w' => e = .returned (.bool (canPush m L x y)) ∧ ChAt w' g q s n m (pushOf m L x y) ∧ Far (three g q s) w w' := by
  have hlen := h.len
  have hno : canPush m L x y = false → ∀ (e : Ending) (w' : World), (e = .returned (.bool false) ∧ ∃ N, w' = w.drewN N) → (e = .returned (.bool (canPush m L x y)) ∧ ChAt w' g q s n m (pushOf m L x y) ∧ Far (three g q s) w w') := by
    rintro hc e w' ⟨rfl, N, rfl⟩
    refine ⟨by rw [hc], ?_, (Far.refl _ _).drewN N⟩
    have : pushOf m L x y = L := by simp [pushOf, hc]
    rw [this]
    exact h
  rcases e : rowOf L x with _ | xs
  · have hx := rowOf_none e
    rw [hlen] at hx
    exact (pushno1_ g q s n m x y L w h hx).mono (hno (by simp [canPush, e]))
  · obtain ⟨l, rfl, hl⟩ := rowOf_some e
    have hln : l < n := by have := (List.getElem?_eq_some_iff.1 hl).1; omega
    by_cases hy : y < 0 ∨ (m : Int) ≤ y
    · refine (pushno2_ g q s n m l l y L w h rfl hln hy).mono (hno ?_)
      rcases hy with hy | hy
      · have : decide (0 ≤ y) = false := by simpa using hy
        simp [canPush, this]
      · have : decide (y < (m : Int)) = false := by simpa using hy
        simp [canPush, this]
    · rcases e2 : lineOf L y with _ | l'
      · rcases lineOf_none e2 with hy' | ⟨p, rfl, hf⟩
        · omega
        · have hc : canPush m L l p = true := by simp [canPush, e, e2]; omega
          refine (pushyes_ g q s n m l p xs L w h hl (by omega) hf).mono ?_
          rintro e' w' ⟨rfl, h1, h2⟩
          refine ⟨by rw [hc], ?_, h2⟩
          have : pushOf m L l p = L.set l (xs ++ [p]) := by simp [pushOf, hc, e]
          rw [this]
          exact h1
      · obtain ⟨p, xs', rfl, hl', hp⟩ := lineOf_some e2
        exact (pushno3_ g q s n m l p l' xs' l p L w h rfl hln rfl hl' hp).mono (hno (by simp [canPush, e2]))
end Go.Proofs.Ytlbloopiajjpfaa
