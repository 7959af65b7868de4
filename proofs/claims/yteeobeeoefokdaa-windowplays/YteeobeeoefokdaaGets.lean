/- The contracts of sketch's Get, Slots, Total, Reset and least. Conditions: those of each theorem. -/
import Derived.Test.YteeobeeoefokdaaFinds
namespace Go.Proofs.Yteeobeeoefokdaa
open Go.RowKit

def GetOut (w : World) (L : List Slo) (p : Pre) (e : Ending) (w' : World) : Prop := e = .returned (.tuple #[.agg (get L p).cs.toArray, .bool (has L p)]) ∧ Below w.heap.size w w'
abbrev zero32 : Obj := .cells #[.bool false, .int .u8 0, .int .u8 0, .int .u8 0, .int .u8 0, .int .u8 0, .int .u8 0, .int .u8 0, .int .i64 0, .int .i64 0] 52
/-- Two new blocks: a prefix and a slot. -/
theorem two_new (p : Pre) (w : World) : Blk ((w.alloc (.cells p.cs.toArray 31)).alloc zero32) w.heap.size 31 p.cs ∧ Blk ((w.alloc (.cells p.cs.toArray 31)).alloc zero32) (w.heap.size + 1) 52 slo0.cs ∧ Below w.heap.size w ((w.alloc (.cells p.cs.toArray 31)).alloc zero32) := by
  refine ⟨(Blk.new w 31 _).alloc _, ?_, ((Below.refl _ w).alloc (Nat.le_refl _) _).alloc (by simp) _⟩
  have := Blk.new (w.alloc (.cells p.cs.toArray 31)) 52 slo0.cs
  rwa [show (w.alloc (.cells p.cs.toArray 31)).heap.size = w.heap.size + 1 by simp] at this

set_option maxHeartbeats 400000 in
theorem least_ (g q M : Nat) (L : List Slo) (T : Int) (w : World) (h : SAt w g q M L T) (h0 : 0 < L.length) : Calls Try.prog 31 #[.pointer (some ⟨g, 0, none⟩)] w (NumOut w (low L L.length : Nat)) := by
  have H := Lib.hid h
  have hf := h.few
  have hc := h.cells.1
  have W0 := Lib.hid (Below.refl w.heap.size w)
  have HLL := Lib.hid (low_lt h0)
  have HN : Hid (∀ k, k ≤ L.length → k ≤ L.length) := fun _ h => h
  obtain ⟨n, hn⟩ : ∃ n, L.length = n := ⟨_, rfl⟩
  rw [hn] at hf hc h0 HLL ⊢
  have HN := Lib.hid hn
  clear h hn
  go_enter Try.func31, Try.ntmps31
  go_wp2_with fail
  go_loopw [3, 4, 5, 11] (fun b _ _ i w' => ∃ k : Nat, k ≤ n ∧ i = .int .i64 k ∧ b = .int .i64 (low L k : Nat) ∧ Below w.heap.size w w') (fun _ _ _ i _ => n - (intOf i).toNat)
  case atStart => exact ⟨0, by omega, rfl, rfl, W0.out⟩
  case round =>
    clear W0
    obtain ⟨k, hk, rfl, rfl, hbe⟩ := hrel
    have W1 := Lib.hid hbe
    clear hbe
    by_cases hlt : k < n
    · have hm := HLL.out k (by omega)
      have hm1 : low L k < L.length := by rw [HN.out]; exact hm
      have hm2 : k < L.length := by rw [HN.out]; exact hlt
      have hstep : low L (k + 1) = if (at_ L k).c < (at_ L (low L k)).c then k else low L k := rfl
      have HR := Lib.hid (fun W (hW : Below w.heap.size w W) => (H.out.below hW).row)
      have HS : Hid (wr.rangeAt q (k * 10) (at_ L k).cs) := (HR.out _ W1.out).slot (at_some hm2)
      have HC := Lib.hid (fun W (hW : Below w.heap.size w W) => (HR.out _ hW).cnt (at_some hm1))
      have HG := Lib.hid (fun W (hW : Below w.heap.size w W) => (H.out.below hW).cells.1)
      rw [HN.out] at HG
      generalize low L k = m at *
      have HV : ∀ W, Blk W wr.heap.size 52 (at_ L k).cs → W.cell? ⟨wr.heap.size, 8, none⟩ = some (.int .i64 (at_ L k).c) := fun W h => h.cell 8
      have HV := Lib.hid HV
      have HSTEP := Lib.hid hstep
      generalize (at_ L k) = s at *
      generalize (at_ L m).c = x at *
      clear hstep hm1 hm2
      go_upto_region 5 with (first | (refine wpList_slo (by rfl) (.tmp 14) rfl _ _ rfl s HS.out ?_) | (refine wpList_new rfl (.tmp 5) (.tmp 15) rfl wr s rfl rfl ?_; intro w2 K2 hb2; have W2 : Hid (Below w.heap.size w w2) := W1.out.trans (hb2.out.mono W1.out.size); have hc1 := HV.out _ K2.out; have hc2 := HC.out _ W2.out; have hc3 := HG.out _ W2.out; clear hb2))
      rcases hd : decide (s.c < x) with _ | _
      · have HSR : Hid (Value.int .i64 (m : Nat) = .int .i64 (low L (k + 1) : Nat)) := by show _ = _; rw [HSTEP.out, if_neg (of_decide_eq_false hd)]
        go_quiet (fail)
        go_wp2
        go_roundw
        case rel => exact ⟨k + 1, by omega, by go_num, HSR.out, below_drewN W2.out _⟩
        case measure => simp [intOf]; omega
      · have HSR : Hid (Value.int .i64 (k : Nat) = .int .i64 (low L (k + 1) : Nat)) := by show _ = _; rw [HSTEP.out, if_pos (of_decide_eq_true hd)]
        go_quiet (fail)
        go_wp2
        go_roundw
        case rel => exact ⟨k + 1, by omega, by go_num, HSR.out, below_drewN W2.out _⟩
        case measure => simp [intOf]; omega
    · obtain rfl : k = n := by omega
      go_wp2
      go_ret
      exact ⟨rfl, W1.out⟩

set_option maxHeartbeats 400000 in
theorem reset_ (g q M : Nat) (L : List Slo) (T : Int) (w : World) (h : SAt w g q M L T) : Calls Try.prog 23 #[.pointer (some ⟨g, 0, none⟩)] w fun e w' => e = .returned (.tuple #[]) ∧ SAt w' g q M [] 0 ∧ Far (two g q) w w' := by
  have H := Lib.hid h
  obtain ⟨c0, c1, c2, f0, f2⟩ := h.cells
  have hf := h.few
  clear h
  obtain ⟨n, hn⟩ : ∃ n, L.length = n := ⟨_, rfl⟩
  rw [hn] at c0 hf
  clear hn
  go_enter Try.func23, Try.ntmps23
  go_wp2
  go_end0
  refine ⟨rfl, ?_, ?_⟩
  · have h1 := (H.out.1.set_ 0 (.slice (some ⟨q, 0, none⟩) (0 : Nat) M)).set_ 2 (.int .i64 0)
    refine ⟨?_, ?_, H.out.2.2.1, hf.2.1, hf.2.2, (fun _ h => absurd h (by simp)), by decide⟩
    · simpa using h1
    · exact (H.out.row.far (S := only g) ((((Far.refl (only g) w).set_ (p := ⟨g, 0, none⟩) (fun _ => rfl) _).set_ (p := ⟨g, 2, none⟩) (fun _ => rfl) _)) (fun e => H.out.2.2.1 (Eq.symm e))).none_
  · exact (((Far.refl (two g q) w).set_ (p := ⟨g, 0, none⟩) (fun _ => .inl rfl) _).set_ (p := ⟨g, 2, none⟩) (fun _ => .inl rfl) _)

/-- What Slots answers: a row of its own. -/
def RowOut (w : World) (L : List Slo) (e : Ending) (w' : World) : Prop :=
  ∃ A c, e = .returned (.slice A (L.length : Nat) c) ∧ Below w.heap.size w w' ∧ ((A = none ∧ L = []) ∨ ∃ q, A = some ⟨q, 0, none⟩ ∧ w.heap.size ≤ q ∧ Rw w' 52 q c L)
set_option maxHeartbeats 400000 in
theorem slots_nil (w : World) : Calls Try.prog 21 #[.pointer none] w (RowOut w []) := by
  go_enter Try.func21, Try.ntmps21
  go_wp2
  go_ret
  exact ⟨none, 0, rfl, Below.refl _ _, .inl ⟨rfl, rfl⟩⟩
/-- append onto nothing, of slots. -/
theorem run_append_none (t : TypeId) (tt ty : TypeId) (ht : Try.prog.underlying tt = some (.slice t)) (z : Value) (bytes : Nat) (hi : (Try.prog.info? t).map (fun i => (i.zero, i.size, i.bytes)) = some (some z, 10, bytes)) (hz : z.cells.size = 10) (hby : bytes ≤ 1000)
    (w : World) (q c : Nat) (L : List Slo) (u : TypeId) (h : Rw w u q c L) (hl : L.length ≤ 1000) :
    ∃ A c', ∃ w', (Builtin.append_ #[tt, tt] ty #[.slice none 0 0, .slice (some ⟨q, 0, none⟩) (L.length : Nat) c]).run Try.prog w = .ok (.slice A (L.length : Nat) c') w' ∧ Below w.heap.size w w' ∧ ((A = none ∧ L = []) ∨ ∃ q', A = some ⟨q', 0, none⟩ ∧ w.heap.size ≤ q' ∧ Rw w' t q' c' L) := by
  obtain ⟨i, hi0, hz0, hz1, hz2⟩ := info_parts hi
  obtain ⟨v', w', hrun, hown, hg, h5, h6⟩ := run_append_own_at (P := Try.prog) w w.heap.size tt ty t i z 10 bytes ht hi0 hz0 hz1 hz2 hz (by decide) (.slice none 0 0) 0 [] ⟨rfl, .inl ⟨rfl, rfl⟩⟩ ⟨q, 0, none⟩ L.length c (flat L) (flat_length L) (fun j u hj => by
    obtain ⟨_, R, hb, _⟩ := h
    rw [Addr.add_mid, hb.cell, Nat.zero_add, List.getElem?_append_left (List.getElem?_eq_some_iff.1 hj).1]
    exact hj) (fun u hu => by
      obtain ⟨s, _, hs⟩ := List.mem_flatMap.1 hu
      exact slo_each s u hs) (by unfold maxLen; omega) (by
        have : (0 + L.length) * bytes ≤ 1000 * 1000 := Nat.mul_le_mul (by omega) hby
        omega) (Nat.le_refl _)
  rw [Nat.zero_add, List.nil_append] at hown
  have hbe : Below w.heap.size w w' := ⟨hg.os, hg.tape, hg.output, hg.size, fun k hk => hg.block k hk (by simp [Value.ownBlock])⟩
  rcases hown.2 with ⟨rfl, h0⟩ | ⟨g', cap, cur, rfl, hb, _⟩
  · have : L = [] := List.length_eq_zero_iff.1 h0
    subst this
    exact ⟨none, 0, w', hrun, hbe, .inl ⟨rfl, rfl⟩⟩
  · exact ⟨_, cap, w', hrun, hbe, .inr ⟨g', rfl, hb, Rw.of_row hown rfl⟩⟩
set_option maxHeartbeats 400000 in
theorem slots_ (g q M : Nat) (L : List Slo) (T : Int) (w : World) (h : SAt w g q M L T) : Calls Try.prog 21 #[.pointer (some ⟨g, 0, none⟩)] w (RowOut w L) := by
  obtain ⟨c0, _⟩ := h.cells
  have hf := h.few
  obtain ⟨A, c', w2, hrun, hbe, hr⟩ := run_append_none 52 32 32 Try.underlying32 (.agg slo0.cs.toArray) 24 (by kernel_rfl) rfl (by omega) w q M L 52 h.row (by omega)
  have HR : Hid ((A = none ∧ L = []) ∨ ∃ q', A = some ⟨q', 0, none⟩ ∧ w.heap.size ≤ q' ∧ Rw w2 52 q' c' L) := hr
  have HB := Lib.hid hbe
  clear h hr hbe
  go_enter Try.func21, Try.ntmps21
  go_wp2_with (at_builtin; refine wpList_app rfl 32 (.const (.slice none 0 0)) (.tmp 8) rfl _ _ _ rfl rfl hrun ?_)
  go_ret
  exact ⟨A, c', rfl, HB.out, HR.out⟩
end Go.Proofs.Yteeobeeoefokdaa
