/- The document's answer in memory: a struct of a slice of numbers and two numbers; the contracts of its New, Has, Bytes, Used and With. Conditions: those of each theorem. -/
import Derived.Test.YtgjicnjibhofkaaNews
import Derived.Deep.RegionHeld3
import Derived.Deep.AppendLies
namespace Go.Proofs.Ytgjicnjibhofkaa
open Go.RowKit

/-- The slice at A reads as the numbers L, in a block that b lets in. -/
def RefAt (b : Nat → Prop) (w : World) (A : Option Addr) (L : List Nat) : Prop :=
  Vals w A L.length (nums L) ∧ ∀ ad, A = some ad → b ad.block ∧ ad.block < w.heap.size
section
variable {b : Nat → Prop} {w w' : World} {A : Option Addr} {L : List Nat}
theorem RefAt.below (h : RefAt b w A L) (hb : Below w.heap.size w w') : RefAt b w' A L := ⟨h.1.below hb, fun ad e => ⟨(h.2 ad e).1, Nat.lt_of_lt_of_le (h.2 ad e).2 hb.size⟩⟩
theorem RefAt.far {S : Nat → Prop} (h : RefAt b w A L) (hf : Far S w w') (hs : ∀ k, b k → ¬ S k) : RefAt b w' A L := ⟨h.1.far hf (fun ad e => hs _ (h.2 ad e).1), fun ad e => ⟨(h.2 ad e).1, Nat.lt_of_lt_of_le (h.2 ad e).2 hf.size⟩⟩
theorem RefAt.weak {b' : Nat → Prop} (h : RefAt b w A L) (hs : ∀ k, k < w.heap.size → b k → b' k) : RefAt b' w A L := ⟨h.1, fun ad e => ⟨hs _ (h.2 ad e).2 (h.2 ad e).1, (h.2 ad e).2⟩⟩
theorem RefAt.at_ (h : RefAt b w A L) {k : Nat} (hk : k < L.length) : ∃ ad : Addr, A = some ad ∧ w.cell? (ad.add k) = some (.int .i64 (atOf L k : Nat)) := h.1.at_ (nums_at hk)
end
theorem cell_alloc {w : World} {a : Addr} {v : Value} (h : w.cell? a = some v) (o : Obj) : (w.alloc o).cell? a = some v :=
  (World.cell?_of_block (Below.heap_alloc w o _ (World.block_lt_of_cell? w _ h))).trans h
/-- The document's quota as a value. -/
abbrev doc (A : Option Addr) (n c R S : Nat) : Value := .agg #[.slice A n c, .int .i64 (R : Nat), .int .i64 (S : Nat)]
abbrev boxOf (A : Option Addr) (n c R S : Nat) : Obj := .cells #[.slice A n c, .int .i64 (R : Nat), .int .i64 (S : Nat)] 32
/-- It stands in block h. -/
def BoxAt (h : Nat) (A : Option Addr) (n c R S : Nat) (W : World) : Prop := Blk W h 32 [.slice A n c, .int .i64 (R : Nat), .int .i64 (S : Nat)]
theorem BoxAt.below {h : Nat} {A : Option Addr} {n c R S : Nat} {w W : World} (hb : BoxAt h A n c R S w) (hB : Below w.heap.size w W) : BoxAt h A n c R S W := Blk.far hb (Far.of_below hB nobody) (fun e => e)
theorem BoxAt.cells {h : Nat} {A : Option Addr} {n c R S : Nat} {W : World} (hb : BoxAt h A n c R S W) : W.cell? ⟨h, 0, none⟩ = some (.slice A n c) ∧ W.cell? ⟨h, 1, none⟩ = some (.int .i64 (R : Nat)) ∧ W.cell? ⟨h, 2, none⟩ = some (.int .i64 (S : Nat)) := ⟨hb.cell 0, hb.cell 1, hb.cell 2⟩
theorem BoxAt.new (w : World) (A : Option Addr) (n c R S : Nat) : BoxAt w.heap.size A n c R S (w.alloc (boxOf A n c R S)) := Blk.new w 32 _
theorem below_one (w : World) (o : Obj) : Below w.heap.size w (w.alloc o) := (Below.refl _ _).alloc (Nat.le_refl _) _

set_option maxHeartbeats 400000 in
theorem refNew_ (n R S : Nat) (x y z : Int) (w : World) (hx : x = n) (hy : y = R) (hz : z = S) (hn : n ≤ 129) :
    Calls Try.prog 11 #[.int .i64 x, .int .i64 y, .int .i64 z] w fun e w' => (∃ A c, e = .returned (doc A n c R S) ∧ RefAt (fun k => w.heap.size ≤ k) w' A (List.replicate n 0)) ∧ Below w.heap.size w w' := by
  subst hx hy hz
  have hmk := fun W => run_make_row' (P := Try.prog) 30 2 (.int .i64 0) 8 Try.underlying30 info2 rfl .i64 .i64 n (by omega) (by omega) W
  rw [made_nums] at hmk
  go_enter Try.func11, Try.ntmps11
  go_wp2
  refine bodyPost_ret (v := .agg #[.slice (some ⟨w.heap.size + 1, 0, none⟩) n n, .int .i64 (R : Nat), .int .i64 (S : Nat)]) (by simp [results, Try.results11, go_sem]) rfl ⟨⟨_, _, rfl, ?_⟩, ((Below.refl _ _).alloc (Nat.le_refl _) _).alloc (by simp) _⟩
  have hB := Blk.new (w.alloc (boxOf (some ⟨w.heap.size + 1, 0, none⟩) n n R S)) 2 (nums (List.replicate n 0))
  have hV := Vals.of_blk (n := (List.replicate n 0).length) hB (nums_length _)
  refine ⟨by simpa using hV, ?_⟩
  rintro ad e
  injection e with e
  subst e
  exact ⟨Nat.le_succ _, by simp⟩
set_option maxHeartbeats 400000 in
theorem refHas_ (n c R S : Nat) (A : Option Addr) (x : Int) (L : List Nat) (w : World) (hn : L.length = n) :
    Calls Try.prog 25 #[doc A n c R S, .int .i64 x] w fun e w' => e = .returned (.bool (has L x)) ∧ Below w.heap.size w w' := by
  rcases h0 : decide (0 ≤ x) with _ | _
  · have HE : Hid (false = has L x) := by show _ = _; rw [has, h0]; rfl
    go_enter Try.func25, Try.ntmps25
    go_wp2
    go_ret
    exact ⟨ret_bool HE.out, below_one _ _⟩
  · rcases h1 : decide (x < (n : Int)) with _ | _
    · have HE : Hid (false = has L x) := by show _ = _; rw [has, h0, hn, h1]; rfl
      go_enter Try.func25, Try.ntmps25
      go_wp2
      go_ret
      exact ⟨ret_bool HE.out, below_one _ _⟩
    · have HE : Hid (true = has L x) := by show _ = _; rw [has, h0, hn, h1]; rfl
      go_enter Try.func25, Try.ntmps25
      go_wp2
      go_ret
      exact ⟨ret_bool HE.out, below_one _ _⟩
set_option maxHeartbeats 1000000 in
theorem refBytes_ (b : Nat → Prop) (n c R S : Nat) (A : Option Addr) (x : Int) (L : List Nat) (w : World) (h : RefAt b w A L) (hn : L.length = n) :
    Calls Try.prog 21 #[doc A n c R S, .int .i64 x] w fun e w' => e = .returned (.int .i64 (bytesOf L x : Nat)) ∧ Below w.heap.size w w' := by
  have HB := Lib.hid (BoxAt.new w A n c R S)
  have HW := Lib.hid (below_one w (boxOf A n c R S))
  have HN := Lib.hid hn
  rcases hh : has L x with _ | _
  · have e0 : bytesOf L x = 0 := by simp [bytesOf, hh]
    rw [e0]
    clear h hn e0
    go_enter Try.func21, Try.ntmps21
    go_wp2_with (go_at_call 25; (with_reducible refine (refHas_ n c R S A _ L _ HN.out).mono ?_); rintro e w3 ⟨rfl, hb3⟩; rw [hh]; have W3 : Hid (Below w.heap.size w w3) := HW.out.trans (hb3.mono HW.out.size); clear hb3)
    go_ret
    exact ⟨rfl, W3.out⟩
  · obtain ⟨k, rfl, hk⟩ := has_iff.1 hh
    have e0 : bytesOf L k = atOf L k := by simp [bytesOf, hh]
    rw [e0]
    obtain ⟨ad, rfl, hc⟩ := h.at_ hk
    rw [hn] at hk
    have HC := Lib.hid hc
    have HH := Lib.hid hh
    clear h hn e0 hc hh
    generalize atOf L k = a at *
    go_enter Try.func21, Try.ntmps21
    go_wp2_with (go_at_call 25; (with_reducible refine (refHas_ n c R S (some ad) _ L _ HN.out).mono ?_); rintro e w3 ⟨rfl, hb3⟩; rw [HH.out]; have W3 : Hid (Below w.heap.size w w3) := HW.out.trans (hb3.mono HW.out.size); obtain ⟨q0, q1, q2⟩ := (HB.out.below hb3).cells; have qc : w3.cell? (ad.add k) = some (.int .i64 (a : Nat)) := (W3.out.cell (World.block_lt_of_cell? w _ HC.out)).trans HC.out; clear hb3)
    go_ret
    exact ⟨rfl, W3.out⟩
theorem used_take {R j : Nat} {L : List Nat} (h : j < L.length) : used R (L.take (j + 1)) = used R (L.take j) + (atOf L j - R) := by
  induction L generalizing j with
  | nil => simp at h
  | cons x xs ih =>
    rcases j with _ | j
    · simp [used, atOf]
    · have := @ih j (by simpa using h)
      simp [used, atOf] at this ⊢
      omega
theorem used_take_le (R j : Nat) (L : List Nat) : used R (L.take j) ≤ used R L := by
  induction L generalizing j with
  | nil => simp [used]
  | cons x xs ih =>
    rcases j with _ | j
    · simp [used]
    · have := ih j
      simp [used] at this ⊢
      omega
/-- Where Used's loop stands. -/
def UsedRel (w : World) (A : Option Addr) (n c R S : Nat) (W : World) : Prop := BoxAt w.heap.size A n c R S W ∧ Below w.heap.size w W
theorem UsedRel.drewN {w : World} {A : Option Addr} {n c R S : Nat} {W : World} (h : UsedRel w A n c R S W) (N : Nat) : UsedRel w A n c R S (W.drewN N) := ⟨h.1, below_drewN h.2 N⟩
set_option maxHeartbeats 1000000 in
theorem refUsed_ (b : Nat → Prop) (n c R S : Nat) (A : Option Addr) (L : List Nat) (w : World) (h : RefAt b w A L) (hn : L.length = n) (hn2 : n ≤ 129) (hT : total L ≤ 1099511627776) (hR : R ≤ 1073741824) :
    Calls Try.prog 20 #[doc A n c R S] w fun e w' => e = .returned (.int .i64 (used R L : Nat)) ∧ Below w.heap.size w w' := by
  have H0 : Hid (UsedRel w A n c R S (w.alloc (boxOf A n c R S))) := ⟨BoxAt.new w A n c R S, below_one _ _⟩
  have HV := Lib.hid (fun j (hj : j < n) => h.at_ (k := j) (by omega))
  have HU := Lib.hid (fun j (hj : j < n) => used_take (R := R) (j := j) (L := L) (by omega))
  have HL := Lib.hid (fun j => Nat.le_trans (used_take_le R j L) (Nat.le_trans (used_le R L) hT))
  have HA := Lib.hid (fun j => Nat.le_trans (at_le L j) hT)
  have HE : Hid (used R (L.take n) = used R L) := by show _ = _; rw [← hn, List.take_length]
  clear h hn hT
  go_enter Try.func20, Try.ntmps20
  go_wp2
  go_loopw [3, 4, 8] (fun o _ i w' => ∃ j : Nat, j ≤ n ∧ i = .int .i64 j ∧ o = .int .i64 (used R (L.take j) : Nat) ∧ UsedRel w A n c R S w') (fun _ _ i _ => n - (intOf i).toNat)
  case atStart => exact ⟨0, by omega, rfl, by simp [used], H0.out⟩
  case round =>
    clear H0
    obtain ⟨j, hj, rfl, rfl, hr⟩ := hrel
    have HR := Lib.hid hr
    obtain ⟨q0, q1, q2⟩ := hr.1.cells
    clear hr
    by_cases hlt : j < n
    · have hd : decide ((j : Int) < (n : Int)) = true := by simp; omega
      have hd1 : decide (j < n) = true := by simpa using hlt
      obtain ⟨ad, rfl, hc⟩ := HV.out j hlt
      have qc : ∀ N, (wr.drewN N).cell? (ad.add j) = some (.int .i64 (atOf L j : Nat)) := fun N => (HR.out.2.cell (World.block_lt_of_cell? w _ hc)).trans hc
      have qa0 : ∀ N, (wr.drewN N).cell? ⟨w.heap.size, 0, none⟩ = some (.slice (some ad) n c) := fun _ => q0
      have qa1 : ∀ N, (wr.drewN N).cell? ⟨w.heap.size, 1, none⟩ = some (.int .i64 (R : Nat)) := fun _ => q1
      have hu := HU.out j hlt
      have hl := HL.out j
      have hl2 := HL.out (j + 1)
      have ha := HA.out j
      have HU2 := Lib.hid hu
      clear hu hc
      generalize used R (L.take j) = u at *
      generalize atOf L j = a at *
      clear q0 q1 q2
      have qc0 := qc 0
      have qa00 := qa0 0
      have qa10 := qa1 0
      by_cases hgt : R < a
      · have hd2 : decide ((R : Int) < (a : Int)) = true := by simp; omega
        have hd3 : decide (R < a) = true := by simpa using hgt
        go_upto_region 5 with fail
        go_quiet (fail)
        go_upto_region 6 with fail
        have qc1 := qc nq
        have qa01 := qa0 nq
        have qa11 := qa1 nq
        have HX := Lib.hid (HR.out.drewN nq)
        generalize wr.drewN nq = wx at *
        go_quiet (fail)
        go_wp2_with fail
        go_roundw
        case rel => exact ⟨j + 1, by omega, by go_num, by rw [HU2.out]; go_num, HX.out.drewN _⟩
        case measure => simp [intOf]; omega
      · have hd2 : decide ((R : Int) < (a : Int)) = false := by simp; omega
        have hd3 : decide (R < a) = false := by simpa using hgt
        go_upto_region 5 with fail
        go_quiet (fail)
        go_wp2_with fail
        go_roundw
        case rel => exact ⟨j + 1, by omega, by go_num, by rw [HU2.out]; go_num, HR.out.drewN _⟩
        case measure => simp [intOf]; omega
    · obtain rfl : j = n := by omega
      have hd : decide ((j : Int) < (j : Int)) = false := by simp
      rw [HE.out]
      go_wp2_with fail
      go_ret
      exact ⟨rfl, HR.out.2⟩
end Go.Proofs.Ytgjicnjibhofkaa
