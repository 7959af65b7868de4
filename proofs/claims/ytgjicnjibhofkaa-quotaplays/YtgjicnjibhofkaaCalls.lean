/- The contracts of quota's calls that only read. Conditions: those of each theorem. -/
import Derived.Test.YtgjicnjibhofkaaRows
import Derived.Test.YtgjicnjibhofkaaMem
import Derived.Test.YtgjicnjibhofkaaNums
import Derived.WalkKit
import Derived.WalkSpells
import Derived.WalkLawsBesides
import Derived.ProofKit
import Derived.OpenShut
import Derived.Deep.OwnRows
import Derived.Deep.QuietTactic
import Derived.BigQuiet
import Derived.Deep.RegionWith
import Derived.RegionTactic
import Derived.ChangeAlike
import Derived.Deep.DeepCutAuto
import Derived.Lib.MinMax
namespace Go.Proofs.Ytgjicnjibhofkaa
open Go.RowKit

theorem ret_int {k : IntKind} {a b : Int} (h : a = b) : Ending.returned (.int k a) = .returned (.int k b) := by rw [h]
theorem ret_bool {a b : Bool} (h : a = b) : Ending.returned (.bool a) = .returned (.bool b) := by rw [h]
theorem Blk.drew {w : World} {g : Nat} {t : TypeId} {cs : List Value} (h : Blk w g t cs) : Blk w.drew g t cs := h
theorem Blk.drewN {w : World} {g : Nat} {t : TypeId} {cs : List Value} (h : Blk w g t cs) (n : Nat) : Blk (w.drewN n) g t cs := h
def nums (xs : List Nat) : List Value := xs.map fun x => Value.int .i64 (x : Nat)
theorem nums_length (xs : List Nat) : (nums xs).length = xs.length := by simp [nums]
theorem nums_app (a b : List Nat) : nums (a ++ b) = nums a ++ nums b := by simp [nums]
theorem nums_one (xs : List Nat) : ∀ u ∈ nums xs, u.oneCell' = true := by
  intro u hu
  obtain ⟨z, _, rfl⟩ := List.mem_map.1 hu
  rfl
theorem nums_at {xs : List Nat} {k : Nat} (h : k < xs.length) : (nums xs)[k]? = some (Value.int .i64 (atOf xs k : Nat)) := by simp [nums, atOf, List.getD_eq_getElem?_getD, h]
theorem nums_set (xs : List Nat) (k v : Nat) : (nums xs).set k (.int .i64 (v : Nat)) = nums (xs.set k v) := by simp [nums, List.map_set]

/-- The head of a quota at block g: n classes in block q, reserve R, limit S, u shared. -/
def HeadAt (w : World) (g q n R S u : Nat) : Prop := Blk w g 49 [.int .i64 (R : Nat), .int .i64 (S : Nat), .slice (some ⟨q, 0, none⟩) n n, .int .i64 (u : Nat)]
/-- A quota at block g, its classes' bytes L in block q. -/
def QAt (w : World) (g q R S : Nat) (L : List Nat) : Prop := HeadAt w g q L.length R S (used R L) ∧ Blk w q 2 (nums L) ∧ g ≠ q ∧ Ok R S L
theorem QAt.ok {w : World} {g q R S : Nat} {L : List Nat} (h : QAt w g q R S L) : Ok R S L := h.2.2.2
theorem QAt.drewN {w : World} {g q R S : Nat} {L : List Nat} (h : QAt w g q R S L) (N : Nat) : QAt (w.drewN N) g q R S L := h

set_option maxHeartbeats 400000 in
theorem beyond_ (g q n R S u b : Nat) (x : Int) (w : World) (h : HeadAt w g q n R S u) (hx : x = b) (hb : b ≤ 1099511627776) (hR : R ≤ 1073741824) :
    Calls Try.prog 28 #[.pointer (some ⟨g, 0, none⟩), .int .i64 x] w fun e w' => e = .returned (.int .i64 ((b - R : Nat) : Int)) ∧ w = w' := by
  subst hx
  have hc0 : w.cell? ⟨g, 0, none⟩ = some (.int .i64 (R : Nat)) := h.cell 0
  clear h
  go_enter Try.func28, Try.ntmps28
  go_wp2
  go_ret
  exact ⟨ret_int (by omega), rfl⟩
theorem beyond_q (g q n R S u b : Nat) (x : Int) (w : World) (N : Nat) (h : HeadAt w g q n R S u) (hx : x = b) (hb : b ≤ 1099511627776) (hR : R ≤ 1073741824) :
    Calls Try.prog 28 #[.pointer (some ⟨g, 0, none⟩), .int .i64 x] (w.drewN N) fun e w' => e = .returned (.int .i64 ((b - R : Nat) : Int)) ∧ ∃ m, w' = w.drewN m :=
  (beyond_ g q n R S u b x (w.drewN N) h hx hb hR).mono fun _ _ ⟨h1, h2⟩ => ⟨h1, N, h2.symm⟩
set_option maxHeartbeats 400000 in
theorem sharedWith_ (g q R S k v : Nat) (x y : Int) (L : List Nat) (w : World) (h : QAt w g q R S L) (hx : x = k) (hy : y = v) (hk : k < L.length) (hv : v ≤ 1099511627776) :
    Calls Try.prog 24 #[.pointer (some ⟨g, 0, none⟩), .int .i64 x, .int .i64 y] w fun e w' => e = .returned (.int .i64 (used R (L.set k v) : Nat)) ∧ ∃ N, w' = w.drewN N := by
  subst hx hy
  obtain ⟨h1, h2, h3, h4⟩ := h
  have hc2 : w.cell? ⟨g, 2, none⟩ = some (.slice (some ⟨q, 0, none⟩) L.length L.length) := h1.cell 2
  have hc3 : w.cell? ⟨g, 3, none⟩ = some (.int .i64 (used R L : Nat)) := h1.cell 3
  have hcv : w.cell? ⟨q, k, none⟩ = some (.int .i64 (atOf L k : Nat)) := (h2.cell k).trans (nums_at hk)
  have e1 := used_set (R := R) (v := v) hk
  have e2 := at_used R L k
  have e3 := used_le R L
  have e4 := at_le L k
  have e5 := h4.all
  have e6 := h4.r
  have HH := Lib.hid h1
  have HE := Lib.hid e1
  clear h1 h2 h4 e1
  generalize used R (L.set k v) = u' at *
  generalize used R L = u at *
  generalize atOf L k = a at *
  generalize total L = tot at *
  generalize L.length = n at *
  have hE : (u : Int) - ((a - R : Nat) : Int) + ((v - R : Nat) : Int) = (u' : Int) := by have := HE.out; omega
  have ha1 : a ≤ 1099511627776 := by omega
  have B1 := Lib.hid (fun N => beyond_q g q n R S u a (a : Int) w N HH.out rfl ha1 e6)
  have B2 := Lib.hid (fun N => beyond_q g q n R S u v (v : Int) w N HH.out rfl hv e6)
  have hs1 : a - R ≤ u := e2
  have hs2 : v - R ≤ 1099511627776 := by omega
  generalize a - R = p1 at *
  generalize v - R = p2 at *
  have hs3 : u ≤ 139586437120 := by omega
  clear HE e2 e3 e4 e5
  go_enter Try.func24, Try.ntmps24
  go_wp2
  go_quiet ((first | (go_at_call 28; with_reducible exact B1.out _) | (go_at_call 28; with_reducible exact B2.out _)))
  go_wp2
  go_ret
  exact ⟨ret_int (by omega), _, rfl⟩
set_option maxHeartbeats 400000 in
theorem isSize_ (x : Int) (w : World) : Calls Try.prog 22 #[.int .i64 x] w fun e w' => e = .returned (.bool (isz x)) ∧ w = w' := by
  rcases h0 : decide (0 ≤ x) with _ | _
  · go_enter Try.func22, Try.ntmps22
    go_wp2
    go_ret
    exact ⟨ret_bool (by simp [isz, h0]), rfl⟩
  · rcases h1 : decide (x ≤ 1073741824) with _ | _
    all_goals
      go_enter Try.func22, Try.ntmps22
      go_wp2
      go_ret
      exact ⟨ret_bool (by simp [isz, h0, h1]), rfl⟩
set_option maxHeartbeats 400000 in
theorem has_ (g q R S : Nat) (x : Int) (L : List Nat) (w : World) (h : QAt w g q R S L) :
    Calls Try.prog 23 #[.pointer (some ⟨g, 0, none⟩), .int .i64 x] w fun e w' => e = .returned (.bool (has L x)) ∧ w = w' := by
  have hc2 : w.cell? ⟨g, 2, none⟩ = some (.slice (some ⟨q, 0, none⟩) L.length L.length) := h.1.cell 2
  clear h
  rcases h0 : decide (0 ≤ x) with _ | _
  · have HE : Hid (false = has L x) := by show _ = _; rw [has, h0]; rfl
    go_enter Try.func23, Try.ntmps23
    go_wp2
    go_ret
    exact ⟨ret_bool HE.out, rfl⟩
  · rcases h1 : decide (x < (L.length : Int)) with _ | _
    · have HE : Hid (false = has L x) := by show _ = _; rw [has, h0, h1]; rfl
      generalize L.length = n at *
      go_enter Try.func23, Try.ntmps23
      go_wp2
      go_ret
      exact ⟨ret_bool HE.out, rfl⟩
    · have HE : Hid (true = has L x) := by show _ = _; rw [has, h0, h1]; rfl
      generalize L.length = n at *
      go_enter Try.func23, Try.ntmps23
      go_wp2
      go_ret
      exact ⟨ret_bool HE.out, rfl⟩
set_option maxHeartbeats 400000 in
theorem has_nil (x : Int) (w : World) : Calls Try.prog 23 #[.pointer none, .int .i64 x] w fun e w' => e = .returned (.bool false) ∧ w = w' := by
  go_enter Try.func23, Try.ntmps23
  go_wp2
  go_ret
  exact ⟨rfl, rfl⟩
set_option maxHeartbeats 400000 in
theorem bytes_nil (x : Int) (w : World) : Calls Try.prog 9 #[.pointer none, .int .i64 x] w fun e w' => e = .returned (.int .i64 0) ∧ w = w' := by
  go_enter Try.func9, Try.ntmps9
  go_wp2_with (go_at_call 23; (with_reducible refine (has_nil _ _).mono ?_); rintro e w' ⟨rfl, rfl⟩)
  go_ret
  exact ⟨rfl, rfl⟩
set_option maxHeartbeats 400000 in
theorem fits_nil (x y : Int) (w : World) : Calls Try.prog 10 #[.pointer none, .int .i64 x, .int .i64 y] w fun e w' => e = .returned (.bool false) ∧ w = w' := by
  go_enter Try.func10, Try.ntmps10
  go_wp2_with (go_at_call 23; (with_reducible refine (has_nil _ _).mono ?_); rintro e w' ⟨rfl, rfl⟩)
  go_ret
  exact ⟨rfl, rfl⟩
set_option maxHeartbeats 400000 in
theorem shared_ (g q R S : Nat) (L : List Nat) (w : World) (h : QAt w g q R S L) :
    Calls Try.prog 19 #[.pointer (some ⟨g, 0, none⟩)] w fun e w' => e = .returned (.int .i64 (used R L : Nat)) ∧ w = w' := by
  have hc3 : w.cell? ⟨g, 3, none⟩ = some (.int .i64 (used R L : Nat)) := h.1.cell 3
  clear h
  go_enter Try.func19, Try.ntmps19
  go_wp2
  go_ret
  exact ⟨rfl, rfl⟩
set_option maxHeartbeats 400000 in
theorem bytes_ (g q R S : Nat) (x : Int) (L : List Nat) (w : World) (h : QAt w g q R S L) :
    Calls Try.prog 9 #[.pointer (some ⟨g, 0, none⟩), .int .i64 x] w fun e w' => e = .returned (.int .i64 (bytesOf L x : Nat)) ∧ w = w' := by
  have HQ := Lib.hid h
  rcases hh : has L x with _ | _
  · have e0 : bytesOf L x = 0 := by simp [bytesOf, hh]
    rw [e0]
    clear h
    go_enter Try.func9, Try.ntmps9
    go_wp2_with (go_at_call 23; (with_reducible refine (has_ g q R S _ L _ HQ.out).mono ?_); rintro e w' ⟨rfl, rfl⟩; rw [hh])
    go_ret
    exact ⟨rfl, rfl⟩
  · obtain ⟨k, rfl, hk⟩ := has_iff.1 hh
    have e0 : bytesOf L k = atOf L k := by simp [bytesOf, hh]
    rw [e0]
    obtain ⟨h1, h2, h3, h4⟩ := h
    have hc2 : w.cell? ⟨g, 2, none⟩ = some (.slice (some ⟨q, 0, none⟩) L.length L.length) := h1.cell 2
    have hcv : w.cell? ⟨q, k, none⟩ = some (.int .i64 (atOf L k : Nat)) := (h2.cell k).trans (nums_at hk)
    clear h1 h2 h4 e0
    generalize atOf L k = a at *
    have HH := Lib.hid hh
    clear hh
    generalize L.length = n at *
    go_enter Try.func9, Try.ntmps9
    go_wp2_with (go_at_call 23; (with_reducible refine (has_ g q R S _ L _ HQ.out).mono ?_); rintro e w' ⟨rfl, rfl⟩; rw [HH.out])
    go_ret
    exact ⟨rfl, rfl⟩
set_option maxHeartbeats 1000000 in
theorem fits_ (g q R S : Nat) (x y : Int) (L : List Nat) (w : World) (h : QAt w g q R S L) :
    Calls Try.prog 10 #[.pointer (some ⟨g, 0, none⟩), .int .i64 x, .int .i64 y] w fun e w' => e = .returned (.bool (fits R S L x y)) ∧ ∃ N, w' = w.drewN N := by
  have HQ := Lib.hid h
  rcases hh : has L x with _ | _
  · have e0 : fits R S L x y = false := by simp [fits, hh]
    rw [e0]
    clear h
    go_enter Try.func10, Try.ntmps10
    go_wp2_with (go_at_call 23; (with_reducible refine (has_ g q R S _ L _ HQ.out).mono ?_); rintro e w' ⟨rfl, rfl⟩; rw [hh])
    go_ret
    exact ⟨rfl, 0, rfl⟩
  · rcases hz : isz y with _ | _
    · have e0 : fits R S L x y = false := by simp [fits, hh, hz]
      rw [e0]
      clear h
      go_enter Try.func10, Try.ntmps10
      go_wp2_with (first | (go_at_call 23; (with_reducible refine (has_ g q R S _ L _ HQ.out).mono ?_); rintro e w' ⟨rfl, rfl⟩; rw [hh]) | (go_at_call 22; (with_reducible refine (isSize_ _ _).mono ?_); rintro e w' ⟨rfl, rfl⟩; rw [hz]))
      go_ret
      exact ⟨rfl, 0, rfl⟩
    · obtain ⟨k, rfl, hk⟩ := has_iff.1 hh
      obtain ⟨m, rfl, hm⟩ : ∃ m : Nat, y = m ∧ m ≤ 1073741824 := by
        simp [isz] at hz
        exact ⟨y.toNat, by omega, by omega⟩
      have e0 : fits R S L k m = decide (used R (plus L k m) ≤ S) := by simp [fits, hh, hz]
      rw [e0]
      obtain ⟨h1, h2, h3, h4⟩ := h
      have hc1 : w.cell? ⟨g, 1, none⟩ = some (.int .i64 (S : Nat)) := h1.cell 1
      have hc2 : w.cell? ⟨g, 2, none⟩ = some (.slice (some ⟨q, 0, none⟩) L.length L.length) := h1.cell 2
      have hcv : w.cell? ⟨q, k, none⟩ = some (.int .i64 (atOf L k : Nat)) := (h2.cell k).trans (nums_at hk)
      have e4 := at_le L k
      have e5 := h4.all
      have HS : Hid (∀ N, Calls Try.prog 24 #[.pointer (some ⟨g, 0, none⟩), .int .i64 (k : Nat), .int .i64 ((atOf L k : Nat) + (m : Nat) : Int)] (w.drewN N) fun e w' => e = .returned (.int .i64 (used R (plus L k m) : Nat)) ∧ ∃ m, w' = w.drewN m) := fun N =>
        (sharedWith_ g q R S k (atOf L k + m) _ _ L (w.drewN N) HQ.out rfl (by omega) hk (by omega)).mono fun e w' ⟨h1, M, h2⟩ => ⟨h1, _, h2.trans (World.drewN_drewN _ _ _)⟩
      have ha : atOf L k ≤ 139586437120 := by omega
      clear h1 h2 h4 e0 e4 e5
      generalize atOf L k = a at *
      generalize used R (plus L k m) = u at *
      have HH := Lib.hid hh
      have HZ := Lib.hid hz
      clear hh hz
      generalize L.length = n at *
      go_enter Try.func10, Try.ntmps10
      go_wp2_with (first | (go_at_call 23; (with_reducible refine (has_ g q R S _ L _ HQ.out).mono ?_); rintro e w' ⟨rfl, rfl⟩; rw [HH.out]) | (go_at_call 22; (with_reducible refine (isSize_ _ _).mono ?_); rintro e w' ⟨rfl, rfl⟩; rw [HZ.out]))
      go_quiet ((go_at_call 24; exact HS.out _))
      go_wp2
      go_ret
      exact ⟨ret_bool (by simp), _, rfl⟩
end Go.Proofs.Ytgjicnjibhofkaa
