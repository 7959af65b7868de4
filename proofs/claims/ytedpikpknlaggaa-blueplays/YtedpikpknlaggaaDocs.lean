/- The document's levels of bins in memory; the contracts of its Flows, of its sum, and of the law's tuned. Conditions: those of each theorem. -/
import Derived.Test.YtedpikpknlaggaaAwake
namespace Go.Proofs.Ytedpikpknlaggaa
open Go.RowKit

/-- The slice of levels at A reads as the bins B; all in blocks that b lets in. -/
def DocAt (b : Nat → Prop) (w : World) (A : Option Addr) (n m : Nat) (B : Bins) : Prop :=
  ∃ (s : Nat) (q cp : Nat → Nat), A = some ⟨s, 0, none⟩ ∧ b s ∧ ∀ l, l < n → w.cell? ⟨s, l, none⟩ = some (.slice (some ⟨q l, 0, none⟩) m (cp l)) ∧ b (q l) ∧ ∀ i, i < m * 3 → w.cell? ⟨q l, i, none⟩ = (cel true (B l) m)[i]?
section
variable {b b' : Nat → Prop} {w w' : World} {A : Option Addr} {n m : Nat} {B : Bins}
theorem cell_some {w : World} {a : Addr} {v : Option Value} (h : w.cell? a = v) (hv : v.isSome = true) : a.block < w.heap.size := by
  obtain ⟨u, hu⟩ := Option.isSome_iff_exists.1 hv
  exact World.block_lt_of_cell? w a (h.trans hu)
theorem cel_is {r : Bool} {f : Nat → Bin} {m i : Nat} (h : i < m * 3) : ((cel r f m)[i]?).isSome = true := by
  rw [List.getElem?_eq_getElem (by rw [cel_length]; exact h)]
  rfl
theorem DocAt.far {S : Nat → Prop} (h : DocAt b w A n m B) (hf : Far S w w') (hs : ∀ k, b k → ¬ S k) : DocAt b w' A n m B := by
  obtain ⟨s, q, cp, rfl, h1, h2⟩ := h
  refine ⟨s, q, cp, rfl, h1, fun l hl => ?_⟩
  obtain ⟨h3, h4, h5⟩ := h2 l hl
  exact ⟨(World.cell?_of_block (hf.block _ (World.block_lt_of_cell? w _ h3) (hs _ h1))).trans h3, h4, fun i hi => (World.cell?_of_block (hf.block _ (cell_some (h5 i hi) (cel_is hi)) (hs _ h4))).trans (h5 i hi)⟩
theorem DocAt.below (h : DocAt b w A n m B) (hb : Below w.heap.size w w') : DocAt b w' A n m B := h.far (Far.of_below hb nobody) (fun _ _ e => e)
theorem DocAt.weak (h : DocAt b w A n m B) (hs : ∀ k, b k → b' k) : DocAt b' w A n m B := by
  obtain ⟨s, q, cp, rfl, h1, h2⟩ := h
  exact ⟨s, q, cp, rfl, hs _ h1, fun l hl => ⟨(h2 l hl).1, hs _ (h2 l hl).2.1, (h2 l hl).2.2⟩⟩
theorem DocAt.congr {C : Bins} (h : DocAt b w A n m B) (he : ∀ l k, l < n → k < m → B l k = C l k) : DocAt b w A n m C := by
  obtain ⟨s, q, cp, rfl, h1, h2⟩ := h
  refine ⟨s, q, cp, rfl, h1, fun l hl => ⟨(h2 l hl).1, (h2 l hl).2.1, fun i hi => ?_⟩⟩
  rw [← cel_congr (fun k hk => he l k hl hk)]
  exact (h2 l hl).2.2 i hi
/-- What a walk reads. -/
theorem DocAt.reads (h : DocAt b w A n m B) : ∃ (s : Nat) (q cp : Nat → Nat), A = some ⟨s, 0, none⟩ ∧ ∀ W, Below w.heap.size w W → (∀ l, l < n → W.cell? ⟨s, l, none⟩ = some (.slice (some ⟨q l, 0, none⟩) m (cp l))) ∧
    ∀ l k, l < n → k < m → W.cell? ⟨q l, k * 3, none⟩ = some (.int .i64 ((B l k).b : Nat)) ∧ W.cell? ⟨q l, k * 3 + 1, none⟩ = some (.int .i64 ((B l k).c : Nat)) ∧ W.cell? ⟨q l, k * 3 + 2, none⟩ = some (.int .i64 ((B l k).p : Nat)) := by
  obtain ⟨s, q, cp, rfl, h1, h2⟩ := h
  refine ⟨s, q, cp, rfl, fun W hW => ⟨fun l hl => (hW.cell (World.block_lt_of_cell? w _ (h2 l hl).1)).trans (h2 l hl).1, fun l k hl hk => ?_⟩⟩
  have h3 := (h2 l hl).2.2
  have g : ∀ i, i < m * 3 → W.cell? ⟨q l, i, none⟩ = (cel true (B l) m)[i]? := fun i hi => (hW.cell (cell_some (h3 i hi) (cel_is hi))).trans (h3 i hi)
  exact ⟨(g _ (by omega)).trans (cel_b hk), (g _ (by omega)).trans (rel_1 hk), (g _ (by omega)).trans (rel_2 hk)⟩
end
/-- The document's value. -/
abbrev dv (A : Option Addr) (c : Nat) (V : Blu) : Value := .agg #[.slice A V.n c, .int .i64 (V.t : Nat), .int .i64 (V.h : Nat), .int .i64 (V.u : Nat), .int .i64 (V.d : Nat)]
abbrev dcs (A : Option Addr) (n c t h u d : Nat) : List Value := [.slice A n c, .int .i64 (t : Nat), .int .i64 (h : Nat), .int .i64 (u : Nat), .int .i64 (d : Nat)]
abbrev dbox (A : Option Addr) (n c t h u d : Nat) : Obj := .cells #[.slice A n c, .int .i64 (t : Nat), .int .i64 (h : Nat), .int .i64 (u : Nat), .int .i64 (d : Nat)] 36
abbrev dval (A : Option Addr) (n c t h u d : Nat) : Value := .agg #[.slice A n c, .int .i64 (t : Nat), .int .i64 (h : Nat), .int .i64 (u : Nat), .int .i64 (d : Nat)]
theorem below_one (w : World) (o : Obj) : Below w.heap.size w (w.alloc o) := (Below.refl _ _).alloc (Nat.le_refl _) _

/-- Are these a flow's, so far? -/
def flo (n m nb : Nat) (xs : List Int) (k : Nat) : Bool := decide (nb = n ∧ ∀ j, j < k → hasV n m (j : Nat) (xs.getD j 0) = true)
theorem flo_end {n m nb : Nat} {xs : List Int} (h : xs.length = nb) : flo n m nb xs nb = flow n m xs := by
  rw [Bool.eq_iff_iff, flow_iff, flo, decide_eq_true_eq, h]
  constructor
  · rintro ⟨rfl, h2⟩
    exact ⟨rfl, h2⟩
  · rintro ⟨rfl, h2⟩
    exact ⟨rfl, h2⟩
theorem flo_no {n m nb k : Nat} {xs : List Int} (h : flo n m nb xs k = false) : flo n m nb xs (k + 1) = false := by
  rw [flo, decide_eq_false_iff_not] at h ⊢
  exact fun ⟨h1, h2⟩ => h ⟨h1, fun j hj => h2 j (by omega)⟩
theorem flo_step {n m nb k : Nat} {xs : List Int} (h : flo n m nb xs k = true) : flo n m nb xs (k + 1) = hasV n m (k : Nat) (xs.getD k 0) := by
  rw [flo, decide_eq_true_eq] at h
  rw [Bool.eq_iff_iff, flo, decide_eq_true_eq]
  constructor
  · exact fun h2 => h2.2 k (by omega)
  · exact fun h2 => ⟨h.1, fun j hj => by
      rcases (by omega : j < k ∨ j = k) with h3 | rfl
      · exact h.2 j h3
      · exact h2⟩
theorem flo_n {n m nb k : Nat} {xs : List Int} (h : flo n m nb xs k = true) : nb = n := by
  rw [flo, decide_eq_true_eq] at h
  exact h.1
/-- Where Flows stands. -/
structure FloRel (w : World) (A : Option Addr) (n c t h u d : Nat) (W : World) : Prop where
  box : Blk W w.heap.size 36 (dcs A n c t h u d)
  be : Below w.heap.size w W
theorem FloRel.start (w : World) (A : Option Addr) (n c t h u d : Nat) : FloRel w A n c t h u d (w.alloc (dbox A n c t h u d)) := ⟨Blk.new w 36 _, below_one _ _⟩
theorem FloRel.drewN {w : World} {A : Option Addr} {n c t h u d : Nat} {W : World} (x : FloRel w A n c t h u d W) (N : Nat) : FloRel w A n c t h u d (W.drewN N) := ⟨x.box, x.be.trans ⟨rfl, rfl, rfl, Nat.le_refl _, fun _ _ => rfl⟩⟩
set_option maxHeartbeats 2000000 in
theorem refFlows_ (b : Nat → Prop) (A : Option Addr) (n m c t h u d : Nat) (B : Bins) (P : Option Addr) (nb cb : Nat) (xs : List Int) (w : World) (hd : DocAt b w A n m B) (hi : Ints w P nb xs) (hnb : nb ≤ 1000000) (hn : 1 ≤ n ∧ n ≤ 4) :
    Calls Try.prog 14 #[dval A n c t h u d, .slice P nb cb] w fun e w' => e = .returned (.bool (flow n m xs)) ∧ Below w.heap.size w w' := by
  have H0 := Lib.hid (FloRel.start w A n c t h u d)
  have HL := Lib.hid hi.1
  have HI := Lib.hid hi
  obtain ⟨s, q, cp, rfl, hr⟩ := hd.reads
  have HR := Lib.hid (fun W hW => (hr W hW).1)
  clear hd hi hr
  have HE : Hid (flo n m nb xs nb = flow n m xs) := flo_end HL.out
  have HQ : Hid ((decide (nb = n) && decide (0 < nb)) = flo n m nb xs 0) := by
    show _ = _
    rw [Bool.eq_iff_iff, Bool.and_eq_true, flo, decide_eq_true_eq, decide_eq_true_eq, decide_eq_true_eq]
    exact ⟨fun h => ⟨h.1, fun j hj => absurd hj (by omega)⟩, fun h => ⟨h.1, by omega⟩⟩
  go_enter Try.func14, Try.ntmps14
  go_upto_region 1 with fail
  go_cut [5] from 7 to 17 (fun o wx => o = .bool (flo n m nb xs 0) ∧ FloRel w (some ⟨s, 0, none⟩) n c t h u d wx)
  case first =>
    have c0 := H0.out.box.cell 0
    by_cases h1 : nb = n
    · have e1 : ((nb : Int) == (n : Int)) = true := by simp; omega
      have e1' : (nb == n) = true := by simpa using h1
      have e2 : decide ((0 : Int) < (nb : Int)) = true := by simp; omega
      have e2' : decide (0 < nb) = true := by simp; omega
      have hq : Hid (true = flo n m nb xs 0) := by have := HQ.out; rw [e2', decide_eq_true h1] at this; exact this
      clear h1
      go_wp2_with fail
      go_meet
      case rel => exact ⟨congrArg Value.bool hq.out, H0.out⟩
    · have e1 : ((nb : Int) == (n : Int)) = false := by simp; omega
      have e1' : (nb == n) = false := by simpa using h1
      have hq : Hid (false = flo n m nb xs 0) := by have := HQ.out; rw [decide_eq_false h1] at this; exact this
      clear h1
      go_wp2_with fail
      go_meet
      case rel => exact ⟨congrArg Value.bool hq.out, H0.out⟩
  case rest =>
    obtain ⟨rfl, hr⟩ := hcut
    have H1 := Lib.hid hr
    clear hr H0 HQ
    go_wp2_with fail
    go_loopw [5, 6, 20] (fun o _ i w' => ∃ k : Nat, k ≤ nb ∧ i = .int .i64 k ∧ o = .bool (flo n m nb xs k) ∧ FloRel w (some ⟨s, 0, none⟩) n c t h u d w') (fun _ _ i _ => nb - (intOf i).toNat)
    case atStart => exact ⟨0, by omega, rfl, rfl, H1.out⟩
    case round =>
      clear H1
      obtain ⟨k, hk, rfl, rfl, hr⟩ := hrel
      have H2 := Lib.hid hr
      clear hr
      by_cases hlt : k < nb
      · have hd1 : decide ((k : Int) < (nb : Int)) = true := by simp; omega
        rcases hf : flo n m nb xs k with _ | _
        · have HG := Lib.hid (flo_no hf)
          go_upto_region 5 with fail
          go_quiet (fail)
          go_wp2_with fail
          go_roundw
          case rel => exact ⟨k + 1, by omega, by go_num, congrArg Value.bool HG.out.symm, H2.out.drewN _⟩
          case measure => simp [intOf]; omega
        · have hnn := flo_n hf
          have HG := Lib.hid (flo_step hf)
          obtain ⟨ad, rfl, hx⟩ := HI.out.at_ hlt
          have hlv := (HR.out wr H2.out.be) k (by omega)
          have c0 := H2.out.box.cell 0
          have hx' := (H2.out.be.cell (World.block_lt_of_cell? w _ hx)).trans hx
          have d0 : ∀ N, (wr.drewN N).cell? ⟨w.heap.size, 0, none⟩ = some (.slice (some ⟨s, 0, none⟩) n c) := fun _ => c0
          have d1 : ∀ N, (wr.drewN N).cell? (ad.add k) = some (.int .i64 (xs.getD k 0)) := fun _ => hx'
          have d2 : ∀ N, (wr.drewN N).cell? ⟨s, k, none⟩ = some (.slice (some ⟨q k, 0, none⟩) m (cp k)) := fun _ => hlv
          have hkn : k < n := by omega
          have e1 : decide ((k : Int) < (n : Int)) = true := by simp; omega
          have e1' : decide (k < n) = true := by simpa using hkn
          have HG2 : Hid (hasV n m (k : Nat) (xs.getD k 0) = (decide (0 ≤ xs.getD k 0) && decide (xs.getD k 0 < (m : Int)))) := by
            show _ = _
            have a1 : decide ((0 : Int) ≤ (k : Int)) = true := by simp
            simp only [hasV, e1, a1, Bool.true_and]
          clear c0 hx hx' hlv
          generalize xs.getD k 0 = z at *
          rcases e2 : decide (0 ≤ z) with _ | _
          · have HV : Hid (false = flo n m nb xs (k + 1)) := by have := HG2.out; rw [e2, ← HG.out] at this; exact this.symm
            go_upto_region 5 with fail
            go_quiet (fail)
            go_wp2_with fail
            go_roundw
            case rel => exact ⟨k + 1, by omega, by go_num, congrArg Value.bool HV.out, H2.out.drewN _⟩
            case measure => simp [intOf]; omega
          · rcases e3 : decide (z < (m : Int)) with _ | _
            all_goals
              have HV := HG2.out
              rw [e2, e3, ← HG.out] at HV
              have HV2 := Lib.hid HV.symm
              clear HV
              go_upto_region 5 with fail
              go_quiet (fail)
              go_wp2_with fail
              go_roundw
              case rel => exact ⟨k + 1, by omega, by go_num, congrArg Value.bool HV2.out, H2.out.drewN _⟩
              case measure => simp [intOf]; omega
      · obtain rfl : k = nb := by omega
        have hd1 : decide ((k : Int) < (k : Int)) = false := by simp
        rw [HE.out]
        go_wp2_with fail
        go_ret
        exact ⟨rfl, H2.out.be⟩
end Go.Proofs.Ytedpikpknlaggaa
