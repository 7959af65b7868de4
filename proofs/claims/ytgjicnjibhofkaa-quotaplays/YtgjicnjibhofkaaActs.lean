/- The contracts of quota's calls that change it, of New, and of the laws' awake. Conditions: those of each theorem. -/
import Derived.Test.YtgjicnjibhofkaaCalls
namespace Go.Proofs.Ytgjicnjibhofkaa
open Go.RowKit

/-- Two blocks alone. -/
def two (g q : Nat) : Nat → Prop := fun k => k = g ∨ k = q
/-- No block. -/
def nobody : Nat → Prop := fun _ => False
section
variable {w w' : World} {g q R S : Nat} {L : List Nat}
theorem QAt.far {T : Nat → Prop} (h : QAt w g q R S L) (hf : Far T w w') (h1 : ¬ T g) (h2 : ¬ T q) : QAt w' g q R S L :=
  ⟨Blk.far h.1 hf h1, h.2.1.far hf h2, h.2.2⟩
theorem QAt.below (h : QAt w g q R S L) (hb : Below w.heap.size w w') : QAt w' g q R S L :=
  h.far (Far.of_below hb nobody) (fun e => e) (fun e => e)
theorem QAt.lt (h : QAt w g q R S L) : g < w.heap.size ∧ q < w.heap.size := ⟨Blk.lt h.1, h.2.1.lt⟩
theorem below_two {B : Nat} {w0 : World} (h : Below B w0 w) (hf : Far (two g q) w w') (hg : B ≤ g) (hq : B ≤ q) (hB : B ≤ w.heap.size) : Below B w0 w' :=
  h.trans (hf.below hB (fun k hk e => by rcases e with e | e <;> omega))
theorem below_drewN {B : Nat} {a w : World} (h : Below B a w) (n : Nat) : Below B a (w.drewN n) := h.trans ⟨rfl, rfl, rfl, Nat.le_refl _, fun _ _ => rfl⟩
theorem far_drewN {T : Nat → Prop} (n : Nat) (w : World) : Far T w (w.drewN n) := ⟨rfl, rfl, rfl, Nat.le_refl _, fun _ _ _ => rfl⟩
/-- What is put. -/
theorem QAt.put (h : QAt w g q R S L) {k v : Nat} (ho : Ok R S (L.set k v)) (N : Nat) :
    QAt (((w.drewN N).setCell ⟨g, 3, none⟩ (.int .i64 (used R (L.set k v) : Nat))).setCell ⟨q, k, none⟩ (.int .i64 (v : Nat))) g q R S (L.set k v) ∧
    Far (two g q) w (((w.drewN N).setCell ⟨g, 3, none⟩ (.int .i64 (used R (L.set k v) : Nat))).setCell ⟨q, k, none⟩ (.int .i64 (v : Nat))) := by
  obtain ⟨h1, h2, h3, h4⟩ := h
  have b1 := ((Blk.drewN h1 N).set_ 3 (.int .i64 (used R (L.set k v) : Nat))).other (p := ⟨q, k, none⟩) h3 (.int .i64 (v : Nat))
  have b2 := ((Blk.drewN h2 N).other (p := ⟨g, 3, none⟩) (Ne.symm h3) (.int .i64 (used R (L.set k v) : Nat))).set_ k (.int .i64 (v : Nat))
  rw [nums_set] at b2
  refine ⟨⟨?_, b2, h3, ho⟩, ?_⟩
  · unfold HeadAt
    simpa using b1
  · exact ((far_drewN (T := two g q) N w).set_ (p := ⟨g, 3, none⟩) (fun _ => .inl rfl) _).set_ (p := ⟨q, k, none⟩) (fun _ => .inr rfl) _
end

set_option maxHeartbeats 400000 in
theorem set_ (g q R S k v : Nat) (x y : Int) (L : List Nat) (w : World) (h : QAt w g q R S L) (hx : x = k) (hy : y = v) (hk : k < L.length) (ho : Ok R S (L.set k v)) :
    Calls Try.prog 27 #[.pointer (some ⟨g, 0, none⟩), .int .i64 x, .int .i64 y] w fun e w' => e = .returned (.tuple #[]) ∧ QAt w' g q R S (L.set k v) ∧ Far (two g q) w w' := by
  subst hx hy
  have HQ := Lib.hid h
  have HP := Lib.hid (fun N => h.put ho N)
  obtain ⟨h1, h2, h3, h4⟩ := h
  have hc2 : ∀ N, (w.drewN N).cell? ⟨g, 2, none⟩ = some (.slice (some ⟨q, 0, none⟩) L.length L.length) := fun N => (Blk.drewN h1 N).cell 2
  have hc3 : ∀ N, (w.drewN N).cell? ⟨g, 3, none⟩ = some (.int .i64 (used R L : Nat)) := fun N => (Blk.drewN h1 N).cell 3
  have hf3 : ∀ N, (w.drewN N).frozen? ⟨g, 3, none⟩ = false := fun N => (Blk.drewN h1 N).frozen 3
  have hcv : ∀ N, (w.drewN N).cell? ⟨q, k, none⟩ = some (.int .i64 (atOf L k : Nat)) := fun N => ((Blk.drewN h2 N).cell k).trans (nums_at hk)
  have hfv : ∀ N, (w.drewN N).frozen? ⟨q, k, none⟩ = false := fun N => (Blk.drewN h2 N).frozen k
  have hv : v ≤ 1099511627776 := by
    have := at_le (L.set k v) k
    rw [at_set_self hk] at this
    have := ho.all
    omega
  have HS := Lib.hid (sharedWith_ g q R S k v (k : Int) (v : Int) L w HQ.out rfl rfl hk hv)
  clear h1 h2 h4 ho HQ
  have HK := Lib.hid hk
  generalize used R (L.set k v) = u at *
  generalize atOf L k = a at *
  generalize hln : L.length = n at *
  go_enter Try.func27, Try.ntmps27
  go_wp2_with (go_at_call 24; (with_reducible refine HS.out.mono ?_); rintro e w' ⟨rfl, N, rfl⟩; have d2 := hc2 N; have d3 := hc3 N; have g3 := hf3 N; have dv := hcv N; have gv := hfv N; clear hc2 hc3 hf3 hcv hfv)
  go_end0
  exact ⟨rfl, HP.out N⟩
theorem used_plus {R k n : Nat} {L : List Nat} : used R (plus L k n) = used R (L.set k (atOf L k + n)) := rfl
set_option maxHeartbeats 1000000 in
theorem add_ (g q R S : Nat) (x y : Int) (L : List Nat) (w : World) (h : QAt w g q R S L) :
    Calls Try.prog 13 #[.pointer (some ⟨g, 0, none⟩), .int .i64 x, .int .i64 y] w fun e w' => e = .returned (.bool (fits R S L x y)) ∧ QAt w' g q R S (addOf R S L x y) ∧ Far (two g q) w w' := by
  have HQ := Lib.hid h
  rcases hh : fits R S L x y with _ | _
  · have e0 : addOf R S L x y = L := by simp [addOf, hh]
    rw [e0]
    clear h
    go_enter Try.func13, Try.ntmps13
    go_wp2_with (go_at_call 10; (with_reducible refine (fits_ g q R S _ _ L _ HQ.out).mono ?_); rintro e w' ⟨rfl, N, rfl⟩; rw [hh])
    go_ret
    exact ⟨rfl, HQ.out.drewN _, far_drewN _ _⟩
  · have h0 := hh
    simp [fits] at h0
    obtain ⟨⟨hx, hz⟩, hu⟩ := h0
    obtain ⟨k, rfl, hk⟩ := has_iff.1 hx
    obtain ⟨m, rfl, hm⟩ : ∃ m : Nat, y = m ∧ m ≤ 1073741824 := by
      simp [isz] at hz
      exact ⟨y.toNat, by omega, by omega⟩
    simp at hu
    have e0 : addOf R S L k m = L.set k (atOf L k + m) := by simp [addOf, hh, plus]
    rw [e0]
    have ho : Ok R S (L.set k (atOf L k + m)) := h.ok.plus_fits hu
    obtain ⟨h1, h2, h3, h4⟩ := h
    have hc2 : ∀ N, (w.drewN N).cell? ⟨g, 2, none⟩ = some (.slice (some ⟨q, 0, none⟩) L.length L.length) := fun N => (Blk.drewN h1 N).cell 2
    have hcv : ∀ N, (w.drewN N).cell? ⟨q, k, none⟩ = some (.int .i64 (atOf L k : Nat)) := fun N => ((Blk.drewN h2 N).cell k).trans (nums_at hk)
    have e4 := at_le L k
    have e5 := h4.all
    have ha : atOf L k ≤ 139586437120 := by omega
    have HS := Lib.hid (fun N => set_ g q R S k (atOf L k + m) (k : Int) ((atOf L k : Nat) + (m : Nat) : Int) L (w.drewN N) (HQ.out.drewN N) rfl (by omega) hk ho)
    have HK := Lib.hid hk
    have HH := Lib.hid hh
    clear h1 h2 h4 e0 e4 e5 hu hx hz hh ho
    generalize atOf L k = a at *
    generalize hln : L.length = n at *
    go_enter Try.func13, Try.ntmps13
    go_wp2_with (first | (go_at_call 10; (with_reducible refine (fits_ g q R S _ _ L _ HQ.out).mono ?_); rintro e w' ⟨rfl, N, rfl⟩; rw [HH.out]; have d2 := hc2 N; have dv := hcv N; clear hc2 hcv) | (go_at_call 27; (with_reducible refine (HS.out N).mono ?_); rintro e w' ⟨rfl, hq, hf⟩; have Q1 := Lib.hid hq; have F1 := Lib.hid hf; clear hq hf))
    go_ret
    exact ⟨rfl, Q1.out, (far_drewN N w).trans F1.out (fun _ _ e => e)⟩
set_option maxHeartbeats 1000000 in
theorem sub_ (g q R S : Nat) (x y : Int) (L : List Nat) (w : World) (h : QAt w g q R S L) :
    Calls Try.prog 15 #[.pointer (some ⟨g, 0, none⟩), .int .i64 x, .int .i64 y] w fun e w' => e = .returned (.bool (canSub L x y)) ∧ QAt w' g q R S (subOf L x y) ∧ Far (two g q) w w' := by
  have HQ := Lib.hid h
  rcases hh : has L x with _ | _
  · have e0 : canSub L x y = false := by simp [canSub, hh]
    have e1 : subOf L x y = L := by simp [subOf, e0]
    rw [e0, e1]
    clear h
    go_enter Try.func15, Try.ntmps15
    go_wp2_with (go_at_call 23; (with_reducible refine (has_ g q R S _ L _ HQ.out).mono ?_); rintro e w' ⟨rfl, rfl⟩; rw [hh])
    go_ret
    exact ⟨rfl, HQ.out, Far.refl _ _⟩
  · by_cases hy : y < 0
    · have hd : decide (y < 0) = true := by simpa using hy
      have e0 : canSub L x y = false := by simp [canSub]; omega
      have e1 : subOf L x y = L := by simp [subOf, e0]
      rw [e0, e1]
      clear h
      go_enter Try.func15, Try.ntmps15
      go_wp2_with (go_at_call 23; (with_reducible refine (has_ g q R S _ L _ HQ.out).mono ?_); rintro e w' ⟨rfl, rfl⟩; rw [hh])
      go_ret
      exact ⟨rfl, HQ.out, Far.refl _ _⟩
    · obtain ⟨k, rfl, hk⟩ := has_iff.1 hh
      obtain ⟨m, rfl⟩ : ∃ m : Nat, y = m := ⟨y.toNat, by omega⟩
      have hd : decide ((m : Int) < 0) = false := by simp
      have HH := Lib.hid hh
      have hok := h.ok
      obtain ⟨h1, h2, h3, h4⟩ := h
      have hc2 : w.cell? ⟨g, 2, none⟩ = some (.slice (some ⟨q, 0, none⟩) L.length L.length) := h1.cell 2
      have hcv : w.cell? ⟨q, k, none⟩ = some (.int .i64 (atOf L k : Nat)) := (h2.cell k).trans (nums_at hk)
      have ha : atOf L k ≤ 139586437120 := Nat.le_trans (at_le L k) h4.all
      by_cases hm : m ≤ atOf L k
      · have e0 : canSub L k m = true := by simp [canSub, hh]; omega
        have e1 : subOf L k m = L.set k (atOf L k - m) := by simp [subOf, e0, less]
        rw [e0, e1]
        have ho : Ok R S (L.set k (atOf L k - m)) := hok.less k m
        have HS := Lib.hid (set_ g q R S k (atOf L k - m) (k : Int) ((atOf L k : Nat) - (m : Nat) : Int) L w HQ.out rfl (by omega) hk ho)
        have hd2 : decide (((atOf L k : Nat) : Int) < (m : Int)) = false := by simp; omega
        have hd3 : decide (atOf L k < m) = false := by simp; omega
        clear h1 h2 h4 e0 e1 hh ho hok hy
        generalize atOf L k = a at *
        generalize hln : L.length = n at *
        go_enter Try.func15, Try.ntmps15
        go_wp2_with (first | (go_at_call 23; (with_reducible refine (has_ g q R S _ L _ HQ.out).mono ?_); rintro e w' ⟨rfl, rfl⟩; rw [HH.out]) | (go_at_call 27; (with_reducible refine HS.out.mono ?_); rintro e w' ⟨rfl, hq, hf⟩; have Q1 := Lib.hid hq; have F1 := Lib.hid hf; clear hq hf))
        go_ret
        exact ⟨rfl, Q1.out, F1.out⟩
      · have e0 : canSub L k m = false := by simp [canSub]; omega
        have e1 : subOf L k m = L := by simp [subOf, e0]
        rw [e0, e1]
        have hd2 : decide (((atOf L k : Nat) : Int) < (m : Int)) = true := by simp; omega
        have hd3 : decide (atOf L k < m) = true := by simp; omega
        clear h1 h2 h4 e0 e1 hh hok hy
        generalize atOf L k = a at *
        generalize hln : L.length = n at *
        go_enter Try.func15, Try.ntmps15
        go_wp2_with (go_at_call 23; (with_reducible refine (has_ g q R S _ L _ HQ.out).mono ?_); rintro e w' ⟨rfl, rfl⟩; rw [HH.out])
        go_ret
        exact ⟨rfl, HQ.out, Far.refl _ _⟩
set_option maxHeartbeats 1000000 in
theorem move_ (g q R S : Nat) (x z y : Int) (L : List Nat) (w : World) (h : QAt w g q R S L) :
    Calls Try.prog 17 #[.pointer (some ⟨g, 0, none⟩), .int .i64 x, .int .i64 z, .int .i64 y] w fun e w' => e = .returned (.bool (canMove L x z y)) ∧ QAt w' g q R S (moveOf L x z y) ∧ Far (two g q) w w' := by
  have HQ := Lib.hid h
  rcases hh : has L z with _ | _
  · have e0 : canMove L x z y = false := by simp [canMove, hh]
    have e1 : moveOf L x z y = L := by simp [moveOf, e0]
    rw [e0, e1]
    clear h
    go_enter Try.func17, Try.ntmps17
    go_wp2_with (go_at_call 23; (with_reducible refine (has_ g q R S _ L _ HQ.out).mono ?_); rintro e w' ⟨rfl, rfl⟩; rw [hh])
    go_ret
    exact ⟨rfl, HQ.out, Far.refl _ _⟩
  · have HH := Lib.hid hh
    rcases hs : canSub L x y with _ | _
    · have e0 : canMove L x z y = false := by simp [canMove, hs]
      have e1 : moveOf L x z y = L := by simp [moveOf, e0]
      have e2 : subOf L x y = L := by simp [subOf, hs]
      rw [e0, e1]
      have HS := Lib.hid (sub_ g q R S x y L w h)
      rw [hs, e2] at HS
      clear h hh hs e0 e1 e2
      go_enter Try.func17, Try.ntmps17
      go_wp2_with (first | (go_at_call 23; (with_reducible refine (has_ g q R S _ L _ HQ.out).mono ?_); rintro e w' ⟨rfl, rfl⟩; rw [HH.out]) | (go_at_call 15; (with_reducible refine HS.out.mono ?_); rintro e w' ⟨rfl, hq, hf⟩; have Q1 := Lib.hid hq; have F1 := Lib.hid hf; clear hq hf))
      go_ret
      exact ⟨rfl, Q1.out, F1.out⟩
    · obtain ⟨j, rfl, hj⟩ := has_iff.1 hh
      have hs' := hs
      simp [canSub] at hs'
      obtain ⟨⟨hx, hy0⟩, hy⟩ := hs'
      obtain ⟨k, rfl, hk⟩ := has_iff.1 hx
      obtain ⟨m, rfl⟩ : ∃ m : Nat, y = m := ⟨y.toNat, by omega⟩
      simp at hy
      have e0 : canMove L k j m = true := by simp [canMove, hs, hh]
      have e2 : subOf L k m = less L k m := by simp [subOf, hs]
      have e1 : moveOf L k j m = (less L k m).set j (atOf (less L k m) j + m) := by simp [moveOf, e0, plus]
      rw [e0, e1]
      have HS := Lib.hid (sub_ g q R S k m L w h)
      rw [hs, e2] at HS
      have ho : Ok R S ((less L k m).set j (atOf (less L k m) j + m)) := h.ok.move hk hy
      have hjl : j < (less L k m).length := by rw [less_length]; exact hj
      have ha : atOf (less L k m) j ≤ 139586437120 := Nat.le_trans (at_le _ j) (h.ok.less k m).all
      have hm : m ≤ 139586437120 := Nat.le_trans hy (Nat.le_trans (at_le L k) h.ok.all)
      clear h hh hs e0 e1 e2 hx hy0 hy
      generalize less L k m = L2 at *
      have HT := Lib.hid (fun w2 (h2 : QAt w2 g q R S L2) => set_ g q R S j (atOf L2 j + m) (j : Int) ((atOf L2 j : Nat) + (m : Nat) : Int) L2 w2 h2 rfl (by omega) hjl ho)
      have HC := Lib.hid (fun w2 (h2 : QAt w2 g q R S L2) => (⟨h2.1.cell 2, (h2.2.1.cell j).trans (nums_at hjl)⟩ : w2.cell? ⟨g, 2, none⟩ = some (.slice (some ⟨q, 0, none⟩) L2.length L2.length) ∧ w2.cell? ⟨q, j, none⟩ = some (.int .i64 (atOf L2 j : Nat))))
      clear ho
      generalize atOf L2 j = a at *
      generalize hln : L2.length = n at *
      go_enter Try.func17, Try.ntmps17
      go_wp2_with (first | (go_at_call 23; (with_reducible refine (has_ g q R S _ L _ HQ.out).mono ?_); rintro e w' ⟨rfl, rfl⟩; rw [HH.out]) | (go_at_call 15; (with_reducible refine HS.out.mono ?_); rintro e w2 ⟨rfl, hq, hf⟩; obtain ⟨d2, dv⟩ := HC.out w2 hq; have Q1 := Lib.hid hq; have F1 := Lib.hid hf; clear hq hf) | (go_at_call 27; (with_reducible refine (HT.out w2 Q1.out).mono ?_); rintro e w3 ⟨rfl, hq, hf⟩; have Q2 := Lib.hid hq; have F2 := Lib.hid hf; clear hq hf))
      go_ret
      exact ⟨rfl, Q2.out, F1.out.trans F2.out (fun _ _ e => e)⟩
end Go.Proofs.Ytgjicnjibhofkaa
