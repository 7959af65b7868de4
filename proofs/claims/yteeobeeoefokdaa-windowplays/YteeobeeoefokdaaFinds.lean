/- The contracts of sketch's calls that look for a slot, and of the document's Find. Conditions: those of each theorem. -/
import Derived.Test.YteeobeeoefokdaaEqs
import Derived.Test.YteeobeeoefokdaaSks
namespace Go.Proofs.Yteeobeeoefokdaa
open Go.RowKit

/-- What a call that answers a number leaves. -/
def NumOut (w : World) (z : Int) (e : Ending) (w' : World) : Prop := e = .returned (.int .i64 z) ∧ Below w.heap.size w w'
theorem num_out {w w' : World} {z z' : Int} (h : z = z') (hb : Below w.heap.size w w') : NumOut w z' (.returned (.int .i64 z)) w' := ⟨by rw [h], hb⟩

set_option maxHeartbeats 400000 in
theorem test_ (h : Nat) (p : Pre) (s : Slo) (w : World) (hb : Blk w h 31 p.cs) (hp : p.Ok) (hs : s.Ok) :
    Calls Try.prog 34 #[.agg s.cs.toArray, .pointer (some ⟨h, 0, none⟩)] w fun e w' => e = .returned (.bool (decide (s.p = p))) ∧ Below w.heap.size w w' := by
  have HP : Hid ((w.alloc (.cells s.cs.toArray 52)).rangeAt h 0 p.cs) := whole_at (hb.alloc _)
  have HS : Hid ((w.alloc (.cells s.cs.toArray 52)).rangeAt w.heap.size 0 s.p.cs) := range_pre (whole_at (Blk.new w 52 _))
  have HE := Lib.hid (eq_pre hs.p hp)
  have HB : Hid (Below w.heap.size w (w.alloc (.cells s.cs.toArray 52))) := (Below.refl _ w).alloc (Nat.le_refl _) _
  clear hb hp hs
  go_enter Try.func34, Try.ntmps34
  go_wp2_with (first | (refine wpList_pre (by rfl) (.tmp 4) rfl _ _ rfl s.p HS.out ?_) | (refine wpList_pre (by rfl) (.tmp 1) rfl _ _ rfl p HP.out ?_) | (refine wpList_eql (by rfl) 31 (by kernel_rfl) (.tmp 5) (.tmp 6) 31 rfl _ _ rfl rfl _ (HE.out _) ?_))
  go_ret
  exact ⟨rfl, HB.out⟩

set_option maxHeartbeats 1000000 in
theorem index_ (q M h : Nat) (p : Pre) (L : List Slo) (w : World) (hr : Rw w 52 q M L) (hb : Blk w h 31 p.cs) (hp : p.Ok) (ho : Oks L) (hl : L.length ≤ 1000) :
    Calls Try.prog 33 #[.slice (some ⟨q, 0, none⟩) (L.length : Nat) M, .func (.func 34) #[] #[.pointer (some ⟨h, 0, none⟩)]] w (NumOut w (fnd L p)) := by
  have HR := Lib.hid hr
  have HB := Lib.hid hb
  have HP := Lib.hid hp
  have HO := Lib.hid ho
  have HI := Lib.hid (idx_le (L := L) (p := p))
  have W0 := Lib.hid (Below.refl w.heap.size w)
  obtain ⟨n, hn⟩ : ∃ n, L.length = n := ⟨_, rfl⟩
  have HN := Lib.hid hn
  rw [hn] at hl ⊢
  clear hr hb hp ho hn
  go_enter Try.func33, Try.ntmps33
  go_wp2_with fail
  go_loopw [5, 8] (fun _ i w' => ∃ k : Nat, k ≤ n ∧ i = .int .i64 k ∧ k ≤ idx L p ∧ Below w.heap.size w w') (fun _ i _ => n - (intOf i).toNat)
  case atStart => exact ⟨0, by omega, rfl, by omega, W0.out⟩
  case round =>
    clear W0
    obtain ⟨k, hk, rfl, hki, hbe⟩ := hrel
    have W1 := Lib.hid hbe
    clear hbe
    by_cases hlt : k < n
    · have HK : Hid (k < L.length) := by show _; rw [HN.out]; exact hlt
      have HS : Hid (wr.rangeAt q (k * 10) (at_ L k).cs) := (HR.out.below W1.out).slot (at_some HK.out)
      have HT := Lib.hid (fun W (hW : Below w.heap.size w W) => test_ h p (at_ L k) W (HB.out.below hW) HP.out (HO.out.at_ HK.out))
      rcases hd : decide ((at_ L k).p = p) with _ | _
      · rw [hd] at HT
        go_wp2_with (first | (refine wpList_slo (by rfl) (.tmp 14) rfl _ _ rfl _ HS.out ?_) | (go_at_call 34; (with_reducible refine (HT.out _ W1.out).mono ?_); rintro e w2 ⟨rfl, hb2⟩; have W2 : Hid (Below w.heap.size w w2) := W1.out.trans (hb2.mono W1.out.size); clear hb2))
        go_roundw
        case rel => exact ⟨k + 1, by omega, by go_num, by
          rcases Nat.lt_or_ge k (idx L p) with h1 | h1
          · exact h1
          · exfalso
            obtain rfl : k = idx L p := by omega
            exact absurd (idx_at HK.out) (of_decide_eq_false hd), W2.out⟩
        case measure => simp [intOf]; omega
      · rw [hd] at HT
        have HV : Hid (Value.int .i64 (k : Nat) = .int .i64 (fnd L p)) := by
          show _ = _
          have e : idx L p = k := by
            rcases Nat.lt_or_ge k (idx L p) with h1 | h1
            · exact absurd (of_decide_eq_true hd) (idx_not h1)
            · omega
          have hh : has L p = true := has_iff.2 (by rw [e]; exact HK.out)
          simp [fnd, hh, e]
        go_wp2_with (first | (refine wpList_slo (by rfl) (.tmp 14) rfl _ _ rfl _ HS.out ?_) | (go_at_call 34; (with_reducible refine (HT.out _ W1.out).mono ?_); rintro e w2 ⟨rfl, hb2⟩; have W2 : Hid (Below w.heap.size w w2) := W1.out.trans (hb2.mono W1.out.size); clear hb2))
        go_ret
        exact ⟨congrArg Ending.returned HV.out, W2.out⟩
    · have HV : Hid (Value.int .i64 (-1) = .int .i64 (fnd L p)) := by
        show _ = _
        have hh : has L p = false := by
          have := HN.out
          simp [has]
          omega
        simp [fnd, hh]
      go_wp2
      go_ret
      exact ⟨congrArg Ending.returned HV.out, W1.out⟩

/-- A sketch at block g, its slots L in block q, room for M, the total T. -/
def SAt (w : World) (g q M : Nat) (L : List Slo) (T : Int) : Prop :=
  Blk w g 67 [.slice (some ⟨q, 0, none⟩) (L.length : Nat) M, .int .i64 (M : Nat), .int .i64 T] ∧ Rw w 52 q M L ∧ g ≠ q ∧ (1 ≤ M ∧ M ≤ 64 ∧ Oks L ∧ num T)
section
variable {w w' : World} {g q M : Nat} {L : List Slo} {T : Int}
def two (g q : Nat) : Nat → Prop := fun k => k = g ∨ k = q
theorem SAt.far {S : Nat → Prop} (h : SAt w g q M L T) (hf : Far S w w') (h1 : ¬ S g) (h2 : ¬ S q) : SAt w' g q M L T := ⟨h.1.far hf h1, h.2.1.far hf h2, h.2.2⟩
theorem SAt.below (h : SAt w g q M L T) (hb : Below w.heap.size w w') : SAt w' g q M L T := h.far (Far.of_below hb nobody) (fun e => e) (fun e => e)
theorem SAt.drew (h : SAt w g q M L T) : SAt w.drew g q M L T := h
theorem SAt.drewN (h : SAt w g q M L T) (n : Nat) : SAt (w.drewN n) g q M L T := h
theorem SAt.lt (h : SAt w g q M L T) : g < w.heap.size ∧ q < w.heap.size := ⟨h.1.lt, h.2.1.lt⟩
theorem SAt.cells (h : SAt w g q M L T) : w.cell? ⟨g, 0, none⟩ = some (.slice (some ⟨q, 0, none⟩) (L.length : Nat) M) ∧ w.cell? ⟨g, 1, none⟩ = some (.int .i64 (M : Nat)) ∧ w.cell? ⟨g, 2, none⟩ = some (.int .i64 T) ∧ w.frozen? ⟨g, 0, none⟩ = false ∧ w.frozen? ⟨g, 2, none⟩ = false :=
  ⟨h.1.cell 0, h.1.cell 1, h.1.cell 2, h.1.frozen 0, h.1.frozen 2⟩
theorem SAt.few (h : SAt w g q M L T) : L.length ≤ M ∧ 1 ≤ M ∧ M ≤ 64 := ⟨h.2.1.1, h.2.2.2.1, h.2.2.2.2.1⟩
theorem SAt.oks (h : SAt w g q M L T) : Oks L := h.2.2.2.2.2.1
theorem SAt.tot (h : SAt w g q M L T) : num T := h.2.2.2.2.2.2
theorem SAt.row (h : SAt w g q M L T) : Rw w 52 q M L := h.2.1
end

set_option maxHeartbeats 400000 in
theorem find_nil (p : Pre) (w : World) : Calls Try.prog 30 #[.pointer none, .agg p.cs.toArray] w (NumOut w (-1)) := by
  have HB : Hid (Below w.heap.size w (w.alloc (.cells p.cs.toArray 31))) := (Below.refl _ w).alloc (Nat.le_refl _) _
  go_enter Try.func30, Try.ntmps30
  go_wp2
  go_ret
  exact ⟨rfl, HB.out⟩
set_option maxHeartbeats 400000 in
theorem find_ (g q M : Nat) (L : List Slo) (T : Int) (p : Pre) (w : World) (h : SAt w g q M L T) (hp : p.Ok) : Calls Try.prog 30 #[.pointer (some ⟨g, 0, none⟩), .agg p.cs.toArray] w (NumOut w (fnd L p)) := by
  have HB : Hid (Below w.heap.size w (w.alloc (.cells p.cs.toArray 31))) := (Below.refl _ w).alloc (Nat.le_refl _) _
  have h2 := h.below HB.out
  have hf := h.few
  have HX := Lib.hid (index_ q M w.heap.size p L _ h2.row (Blk.new w 31 p.cs) hp h.oks (by omega))
  obtain ⟨c0, _⟩ := h2.cells
  clear h h2 hp
  go_enter Try.func30, Try.ntmps30
  go_wp2_with (go_at_call 33; (with_reducible refine HX.out.mono ?_); rintro e w2 ⟨rfl, hb2⟩; have W2 : Hid (Below w.heap.size w w2) := HB.out.trans (hb2.mono HB.out.size); clear hb2)
  go_ret
  exact ⟨rfl, W2.out⟩
end Go.Proofs.Yteeobeeoefokdaa
