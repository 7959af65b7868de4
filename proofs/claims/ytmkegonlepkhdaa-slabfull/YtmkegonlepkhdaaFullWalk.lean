/- The walk of the law SlabFull: for any number of places and whichever is given back it returns true and turns nothing that was there. -/
import Derived.Test.YtmkegonlepkhdaaIns
namespace Go.Proofs.Ytmkegonlepkhdaa
open Go.RowKit

/-- Where the loop stands: k are taken, each has "x"; block s says which. -/
def FullRel (w : World) (g q f n s k : Nat) (w' : World) : Prop :=
  ∃ (vs : List (Option Value)) (fr : List Nat) (ss : List Value), SlabAt 55 57 (.string { data := #[] }) w' g q f n vs fr ∧ Blk w' s 4 ss ∧ fr.length + k = n ∧ Below w.heap.size w w' ∧
    (∀ (i : Nat) (v : Value), vs[i]? = some (some v) → v = Value.string { data := #[120] }) ∧ ss.length = n ∧ ∀ i : Nat, i ∈ fr → ss[i]? = some (Value.bool false)

theorem full_first {w w2 : World} {g q f n : Nat} (hr : SlabAt 55 57 (.string { data := #[] }) w2 g q f n (List.replicate n none) (List.range n).reverse) (hb : Below w.heap.size w w2) : FullRel w g q f n w2.heap.size 0 (w2.alloc (.cells (madeCells #[.bool false] n) 4)) := by
  refine ⟨_, _, (madeCells #[.bool false] n).toList, hr.below ((Below.refl _ _).alloc (Nat.le_refl _) _), ?_, by simp, hb.alloc hb.size _, fun i v hv => ?_, by simpa using size_madeCells #[.bool false] n, fun i hi => ?_⟩
  · simpa using Blk.new w2 4 (madeCells #[.bool false] n).toList
  · rw [List.getElem?_replicate] at hv
    split at hv <;> cases hv
  · simp at hi
    rw [toList_madeCells_one, List.getElem?_replicate, if_pos hi]
theorem full_step {w wr w3 : World} {g q f n s k i : Nat} {vs : List (Option Value)} {fr : List Nat} {ss : List Value} (h2 : Blk wr s 4 ss) (h3 : (fr ++ [i]).length + k = n) (h4 : Below w.heap.size w wr) (h5 : ∀ (i : Nat) (v : Value), vs[i]? = some (some v) → v = Value.string { data := #[120] }) (h6 : ss.length = n)
    (h7 : ∀ j : Nat, j ∈ fr ++ [i] → ss[j]? = some (Value.bool false)) (hr : SlabAt 55 57 (.string { data := #[] }) w3 g q f n (vs.set i (some (.string { data := #[120] }))) fr) (hf : Far (three g q f) wr w3)
    (a1 : w.heap.size ≤ g) (a2 : w.heap.size ≤ q) (a3 : w.heap.size ≤ f) (a4 : w.heap.size ≤ s) (s1 : s ≠ g) (s2 : s ≠ q) (s3 : s ≠ f) : FullRel w g q f n s (k + 1) (w3.setCell ⟨s, i, none⟩ (.bool true)) := by
  have hb := below_three h4 hf a1 a2 a3 h4.size
  have hB := h2.far hf (fun e => by rcases e with e | e | e <;> contradiction)
  have hlv : vs.length = n := by have := hr.len; simpa using this
  have hsz : i < n := by
    have := (List.getElem?_eq_some_iff.1 (h7 i (by simp))).1
    omega
  refine ⟨_, fr, ss.set i (.bool true), hr.far (S := fun k => k = s) ((Far.refl (fun k => k = s) w3).set_ (p := ⟨s, i, none⟩) (fun _ => rfl) _) (fun e => s1 e.symm) (fun e => s2 e.symm) (fun e => s3 e.symm), hB.set_ i _, by simp at h3; omega, hb.setCell a4 _, fun j v hv => ?_, by simpa using h6, fun j hj => ?_⟩
  · by_cases e : i = j
    · subst e
      rw [List.getElem?_set_self (by omega)] at hv
      injection hv with hv
      injection hv with hv
      exact hv.symm
    · rw [List.getElem?_set_ne e] at hv
      exact h5 j v hv
  · have e : i ≠ j := fun e => by
      subst e
      have := (hr.free i).1 hj
      rw [List.getElem?_set_self (by omega)] at this
      cases this
    rw [List.getElem?_set_ne e]
    exact h7 j (by simp [hj])

set_option maxRecDepth 100000 in
set_option maxHeartbeats 4000000 in
theorem full_any (a b : Int) (w : World) (h0 : 0 ≤ a) (h1 : a ≤ 65535) (h2 : 0 ≤ b) (h3 : b ≤ 65535) :
    Calls Try.prog 4 #[.int .u16 a, .int .u16 b] w fun e w' => e = .returned (.bool true) ∧ Below w.heap.size w w' := by
  obtain ⟨n, hn⟩ : ∃ n : Nat, 1 + a % 300 = n := ⟨(1 + a % 300).toNat, by omega⟩
  have hn1 : 1 ≤ n ∧ n ≤ 300 := by omega
  have hmk := fun W => run_make_row' (P := Try.prog) 30 4 (.bool false) 1 Try.underlying30 (by kernel_rfl) rfl .i64 .i64 n (by omega) (by omega) W
  go_enter Try.func4, Try.ntmps4
  go_wp2_with (first | (go_at_call 7; (with_reducible refine (awake_any _).mono ?_); rintro e w1 ⟨rfl, hb1⟩; have W1 := Lib.hid hb1; clear hb1)  | (go_at_call 15; (with_reducible refine (new_S n _ _ (by omega) hn1.1 (by omega)).mono ?_); rintro e w2 ⟨g, q, f, rfl, hr, ha, hb2⟩; have R2 := Lib.hid hr; have HA := Lib.hid ha; have W2 : Hid (Below w.heap.size w w2) := W1.out.trans (hb2.mono W1.out.size); clear hr ha hb2))
  have F0 := Lib.hid (full_first R2.out W2.out)
  have hlt := R2.out.lt
  have hsz1 := W1.out.size
  have hsz2 := W2.out.size
  obtain ⟨a1, a2, a3, _⟩ := HA.out
  have a1' : w.heap.size ≤ g := by omega
  have a2' : w.heap.size ≤ q := by omega
  have a3' : w.heap.size ≤ f := by omega
  generalize hs : w2.heap.size = s at *
  have s1 : s ≠ g := by omega
  have s2 : s ≠ q := by omega
  have s3 : s ≠ f := by omega
  clear hmk hn R2 HA W2 W1 hs hlt hsz1 a1 a2 a3
  go_loopw [9, 10, 33] (fun _ _ i w' => ∃ k : Nat, k ≤ n ∧ i = .int .i64 k ∧ FullRel w g q f n s k w') (fun _ _ i _ => n - (intOf i).toNat)
  case atStart => exact ⟨0, by omega, rfl, F0.out⟩
  case round =>
    obtain ⟨k, hk, rfl, vs, fr, ss, r1, r2, r3, r4, r5, r6, r7⟩ := hrel
    by_cases hlt : k < n
    · have hd : decide ((k : Int) < (n : Int)) = true := by simp; omega
      obtain ⟨fr', i, rfl, hfr⟩ := last_of (m := n - k - 1) (fr := fr) (by omega)
      have hi : i < n := by have := (List.getElem?_eq_some_iff.1 (r7 i (by simp))).1; omega
      have HFS := Lib.hid (fun w3 hr hf => full_step (w3 := w3) r2 r3 r4 r5 r6 r7 hr hf a1' a2' a3' hsz2 s1 s2 s3)
      have hsi : ss[i]? = some (Value.bool false) := r7 i (by simp)
      have R1 := Lib.hid r1
      have R2 := Lib.hid r2
      have NS : Hid (¬ three g q f s) := fun e => by rcases e with e | e | e <;> contradiction
      have HSI := Lib.hid hsi
      clear r1 r2 r4 r5 r7 hsi
      have hd2 : decide ((n : Int) ≤ (i : Int)) = false := by simp; omega
      go_wp2_with (first | (go_at_call 16; (with_reducible refine (take_S g q f n i _ _ _ _ R1.out).mono ?_); rintro e w3 ⟨rfl, hr, hf⟩; have HN := Lib.hid (HFS.out w3 hr hf); have hci : w3.cell? ⟨s, i, none⟩ = some (.bool false) := ((R2.out.far hf NS.out).cell i).trans HSI.out; have hfi := (R2.out.far hf NS.out).frozen i; clear hr hf))
      go_roundw
      case rel => exact ⟨k + 1, by omega, by go_num, HN.out⟩
      case measure => simp [intOf]; omega
    · obtain rfl : k = n := by omega
      have hd : decide ((k : Int) < (k : Int)) = false := by simp
      obtain rfl : fr = [] := List.length_eq_zero_iff.1 (by omega)
      obtain ⟨p, hp⟩ : ∃ p : Nat, b % (k : Int) = p := ⟨(b % (k : Int)).toNat, by have := Int.emod_nonneg b (b := (k : Int)) (by omega); omega⟩
      have hpk : p < k := by have := Int.emod_lt_of_pos b (b := (k : Int)) (by omega); omega
      have HP : Hid (vs[p]? = some (some (.string { data := #[120] }))) := by
        obtain ⟨v, hv⟩ := r1.full hpk
        rw [r5 p v hv] at hv
        exact hv
      have hlv := r1.len
      have HQ : Hid (((vs.set p none).set p (some (.string { data := #[122] })))[p]? = some (some (.string { data := #[122] }))) := List.getElem?_set_self (by simp; omega)
      have R1 := Lib.hid r1
      have R4 := Lib.hid r4
      clear r1 r2 r4 r5 r6 r7 F0 hlv
      have hk0 : (k : Int) ≠ 0 := by omega
      go_wp2_with (first | (go_at_call 16; (with_reducible refine (takeno_S g q f k _ _ _ R1.out).mono ?_); rintro e w' ⟨rfl, rfl⟩)  | (go_at_call 17; (with_reducible refine (give_S g q f k p _ _ _ _ _ R1.out (by omega) HP.out).mono ?_); rintro e w3 ⟨rfl, hr3, hf3⟩; have R3 := Lib.hid hr3; have F3 := Lib.hid hf3; clear hr3 hf3) | (go_at_call 16; (with_reducible refine (take_S g q f k p _ _ [] _ R3.out).mono ?_); rintro e w5 ⟨rfl, hr5, hf5⟩; have R5 := Lib.hid hr5; have F5 := Lib.hid hf5; clear hr5 hf5) | (go_at_call 18; (with_reducible refine (get_S g q f k p _ _ _ _ _ R5.out rfl HQ.out).mono ?_); rintro e w' ⟨rfl, rfl⟩) | (go_at_call 19; (with_reducible refine (freein_S g q f k 0 _ _ _ R5.out rfl).mono ?_); rintro e w' ⟨rfl, rfl⟩))
      go_ret
      have W3 := below_three R4.out F3.out a1' a2' a3' R4.out.size
      exact ⟨rfl, below_three W3 F5.out a1' a2' a3' W3.size⟩
end Go.Proofs.Ytmkegonlepkhdaa
