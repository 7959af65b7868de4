/- The contract of the program's Sum. Conditions: those of each theorem. -/
import Derived.Test.YtfhlgmmfknfamaaKdSummBegin
import Derived.Deep.WholeRow
namespace Go.Proofs.Ytfhlgmmfknfamaa.kd.summ
open Go.RowKit

/-- The slice at A of n slices reads as the parts ps. -/
def PartsAt (w : World) (A : Option Addr) (n : Nat) (ps : List (List Nat)) : Prop :=
  ps.length = n ∧ ∀ i, i < n → ∃ ad B c, A = some ad ∧ w.cell? (ad.add i) = some (.slice B (ps.getD i []).length c) ∧ Vals w B (ps.getD i []).length (cel (ps.getD i []))
theorem PartsAt.below {w w' : World} {A : Option Addr} {n : Nat} {ps : List (List Nat)} (h : PartsAt w A n ps) (hb : Below w.heap.size w w') : PartsAt w' A n ps := by
  refine ⟨h.1, fun i hi => ?_⟩
  obtain ⟨ad, B, c, e, hc, hv⟩ := h.2 i hi
  exact ⟨ad, B, c, e, (hb.cell (World.block_lt_of_cell? w _ hc)).trans hc, hv.below hb⟩
theorem flatten_snoc {ps : List (List Nat)} {i : Nat} (h : i < ps.length) : (ps.take i).flatten ++ ps.getD i [] = (ps.take (i + 1)).flatten := by
  rw [List.take_succ_eq_append_getElem h, List.flatten_append, List.getD_eq_getElem?_getD, List.getElem?_eq_getElem h]
  simp
/-- All of them short, of bytes. -/
def Small (ps : List (List Nat)) : Prop := ∀ p ∈ ps, Octs p ∧ p.length ≤ 1000
theorem Small.at_ {ps : List (List Nat)} (h : Small ps) (i : Nat) : Octs (ps.getD i []) ∧ (ps.getD i []).length ≤ 1000 := by
  rw [List.getD_eq_getElem?_getD]
  by_cases hi : i < ps.length
  · rw [List.getElem?_eq_getElem hi]; exact h _ (List.getElem_mem hi)
  · rw [List.getElem?_eq_none (by omega)]; exact ⟨Octs.nil, by simp⟩
theorem Small.flat {ps : List (List Nat)} (h : Small ps) : Octs ps.flatten := fun b hb => by
  obtain ⟨p, hp, hb⟩ := List.mem_flatten.1 hb
  exact (h p hp).1 b hb
theorem Small.take {ps : List (List Nat)} (h : Small ps) (i : Nat) : Small (ps.take i) := fun p hp => h p (List.mem_of_mem_take hp)

theorem key_size {k : List Nat} (h16 : k.length = 16) : (Try.prog.info? 22).map (·.size) = some (cel k).toArray.size := by
  rw [show (cel k).toArray.size = 16 by simp [cel_length, h16]]
  kernel_rfl
/-- A key out of its block. -/
theorem wpList_key {ops : Array Oper} {rest : List Oper} {o : Oper} {a : Act} {w : World} {Q : Exit → Act → World → Prop} (hgd : o.guard = none) (x : Operand) (ho : o.op = .load 22 x)
    (g : Nat) (hx : a.eval x = .pointer (some ⟨g, 0, none⟩)) (k : List Nat) (hb : Blk w g 22 (cel k)) (h16 : k.length = 16)
    (h : wpList Try.prog ops Q rest (a.put o.dst (.agg (cel k).toArray)) w) : wpList Try.prog ops Q (o :: rest) a w :=
  wpList_load_row hgd 22 x ho g hx 22 (cel k).toArray (0, 0) _ hb Try.underlying22 rfl (key_size h16) h

theorem store_st (a b c d : Nat) (x : World) : (storeCells ⟨x.heap.size, 0, none⟩ (stCells a b c d 0 0)).run Try.prog (x.alloc (.cells #[.int .u64 0, .int .u64 0, .int .u64 0, .int .u64 0, .int .u64 0, .int .u8 0] 81)) = .ok () (x.alloc (.cells (stCells a b c d 0 0).toArray 81)) :=
  run_storeCells_new (P := Try.prog) x 81 _ (stCells a b c d 0 0).toArray (by kernel_rfl) rfl (by simp [stCells, Value.oneCell'])
/-- Where the loops stand. -/
structure SumRel (w : World) (g : Nat) (v : V4) (l : List Nat) (w' : World) : Prop where
  st : StAt w' g (stV v l) (stW l) (stC l)
  be : Below w.heap.size w w'
theorem SumRel.took {w w1 w2 : World} {g : Nat} {v : V4} {l l' : List Nat} (h : SumRel w g v l w1) (hg : w.heap.size ≤ g) (ht : Taken g v l' w1 w2) : SumRel w g v l' w2 :=
  ⟨ht.at_, h.be.trans (ht.far.below h.be.size (fun k hk e => by have : k = g := e; omega))⟩

set_option maxRecDepth 100000 in
set_option maxHeartbeats 2000000 in
theorem sum_is (k : List Nat) (A : Option Addr) (n c : Nat) (ps : List (List Nat)) (w : World) (hk : Octs k) (h16 : k.length = 16) (h : PartsAt w A n ps) (hn : n ≤ 1000) (hs : Small ps) :
    Calls Try.prog 40 #[.agg (cel k).toArray, .slice A n c] w fun e w' => e = .returned (.int .u64 (sip k ps.flatten : Nat)) ∧ Below w.heap.size w w' := by
  have V0 := Lib.hid (begV_ok hk h16)
  have W0 : Hid (Below w.heap.size w (w.alloc (.cells (cel k).toArray 22))) := (Below.refl _ w).alloc (Nat.le_refl _) _
  have HS : Hid (sumOf (begV k) ps.flatten = sip k ps.flatten) := rfl
  generalize sip k ps.flatten = s at *
  have B0 := Lib.hid (Blk.new w 22 (cel k))
  have H16 := Lib.hid h16
  have HK := Lib.hid hk
  have HP := Lib.hid h
  clear h h16 hk
  go_enter Try.func40, Try.ntmps40
  go_wp2_with (first | (refine wpList_key rfl (.tmp 2) rfl w.heap.size rfl k B0.out H16.out ?_) | (go_at_call 44; (with_reducible refine (begin_is k _ HK.out H16.out).mono ?_); rintro e w1 ⟨rfl, hb1⟩; have W1 : Hid (Below w.heap.size w w1) := W0.out.trans (hb1.mono (by simp)); clear hb1; have hst := store_st (begV k).a (begV k).b (begV k).c (begV k).d w1))
  have R1 : Hid (SumRel w w1.heap.size (begV k) [] (w1.alloc (.cells (stCells (begV k).a (begV k).b (begV k).c (begV k).d 0 0).toArray 81))) := ⟨Blk.new w1 81 _, W1.out.alloc W1.out.size _⟩
  have hg : w.heap.size ≤ w1.heap.size := W1.out.size
  clear hst W0 W1 B0 HK H16
  generalize w1.alloc (.cells (stCells (begV k).a (begV k).b (begV k).c (begV k).d 0 0).toArray 81) = w2 at *
  generalize w1.heap.size = g at *
  generalize begV k = v at *
  go_loopw [7, 9, 14] (fun _ _ y w' => ∃ i : Nat, y = .int .i64 i ∧ i ≤ n ∧ SumRel w g v (ps.take i).flatten w') (fun _ _ y _ => n - (intOf y).toNat)
  case atStart => exact ⟨0, rfl, by omega, R1.out⟩
  case round =>
    obtain ⟨i, rfl, hi, hr⟩ := hrel
    have HR := Lib.hid hr
    clear hr
    by_cases hlt : i < n
    · have hd : decide ((i : Int) < (n : Int)) = true := by simp; omega
      have hd2 : decide (i < n) = true := by simpa using hlt
      obtain ⟨ad, B, cp, rfl, hc, hv⟩ := HP.out.2 i hlt
      have hc1 := (HR.out.be.cell (World.block_lt_of_cell? w _ hc)).trans hc
      have HV := Lib.hid hv
      have HF := Lib.hid (flatten_snoc (ps := ps) (i := i) (by rw [HP.out.1]; exact hlt))
      have HO := Lib.hid (hs.at_ i).1
      have hpl := (hs.at_ i).2
      have HL := Lib.hid (hs.take i).flat
      clear hc hv
      generalize ps.getD i [] = p at *
      generalize (ps.take i).flatten = l at *
      generalize hm : p.length = m at *
      have HM := Lib.hid hm
      clear hm
      go_wp2_with fail
      go_loopw [9, 20] (fun _ y w' => ∃ j : Nat, y = .int .i64 j ∧ j ≤ m ∧ SumRel w g v (l ++ p.take j) w') (fun _ y _ => m - (intOf y).toNat)
      case atStart => exact ⟨0, rfl, by omega, by simpa using HR.out⟩
      case round =>
        obtain ⟨j, rfl, hj, hr⟩ := hrel
        have HR2 := Lib.hid hr
        clear hr
        by_cases hlt2 : j < m
        · have hd3 : decide ((j : Int) < (m : Int)) = true := by simp; omega
          have hd4 : decide (j < m) = true := by simpa using hlt2
          obtain ⟨ad2, rfl, hc2⟩ := HV.out.at_ (cel_at (bs := p) (k := j) (by rw [HM.out]; exact hlt2))
          have hc3 := (HR2.out.be.cell (World.block_lt_of_cell? w _ hc2)).trans hc2
          have HS2 := Lib.hid (take_snoc (bs := p) (k := j) (by rw [HM.out]; exact hlt2))
          have hb := HO.out.at_ j
          have HO2 := Lib.hid (HL.out.app (HO.out.take j))
          generalize p.getD j 0 = b at *
          clear hc2
          go_wp2_with (go_at_call 45; (with_reducible refine (take_is g v _ b _ HR2.out.st V0.out HO2.out hb).mono ?_); rintro e w3 ⟨rfl, ht⟩; have T3 := Lib.hid (HR2.out.took hg ht); clear ht)
          go_roundw
          case rel => exact ⟨j + 1, by go_num, by omega, by rw [← HS2.out, ← List.append_assoc]; exact T3.out⟩
          case measure => simp [intOf]; omega
        · have hd3 : decide ((j : Int) < (m : Int)) = false := by simp; omega
          have hd4 : decide (j < m) = false := by simpa using hlt2
          have HR3 : Hid (SumRel w g v (l ++ p) wr) := by have := HR2.out; rw [List.take_of_length_le (by rw [HM.out]; omega)] at this; exact this
          go_wp2_with fail
          go_roundw
          case rel => exact ⟨i + 1, by go_num, by omega, by rw [← HF.out]; exact HR3.out⟩
          case measure => simp [intOf]; omega
    · have hd : decide ((i : Int) < (n : Int)) = false := by simp; omega
      have hd2 : decide (i < n) = false := by simpa using hlt
      have HR3 : Hid (SumRel w g v ps.flatten wr) := by have := HR.out; rw [List.take_of_length_le (by rw [HP.out.1]; omega)] at this; exact this
      have HO := Lib.hid hs.flat
      go_wp2_with (go_at_call 46; (with_reducible refine (end_is g v ps.flatten _ HR3.out.st V0.out HO.out).mono ?_); rintro e w3 ⟨rfl, hf⟩; have F3 := Lib.hid hf; clear hf)
      go_ret
      rw [HS.out]
      exact ⟨rfl, HR3.out.be.trans (F3.out.below HR3.out.be.size (fun k hk e => by have : k = g := e; omega))⟩
end Go.Proofs.Ytfhlgmmfknfamaa.kd.summ
