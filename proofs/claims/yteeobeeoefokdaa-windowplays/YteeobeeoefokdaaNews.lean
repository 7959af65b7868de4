/- The contracts of sketch's Add and New. Conditions: those of each theorem. -/
import Derived.Test.YteeobeeoefokdaaPuts
namespace Go.Proofs.Yteeobeeoefokdaa
open Go.RowKit

theorem addK_sum (c n : Int) : sumF 0 [c, n] = addK c n := sumF_two c n
theorem SAt.tot_ {w : World} {g q M : Nat} {L : List Slo} {T : Int} (h : SAt w g q M L T) {T' : Int} (hn : num T') : SAt (w.setCell ⟨g, 2, none⟩ (.int .i64 T')) g q M L T' := by
  refine ⟨?_, h.row.far (S := only g) ((Far.refl (only g) w).set_ (p := ⟨g, 2, none⟩) (fun _ => rfl) _) (fun e => h.2.2.1 (Eq.symm e)), h.2.2.1, h.2.2.2.1, h.2.2.2.2.1, h.oks, hn⟩
  simpa using h.1.set_ 2 (.int .i64 T')
theorem SAt.inc_ {w : World} {g q M : Nat} {L : List Slo} {T : Int} (h : SAt w g q M L T) {k : Nat} (hk : k < L.length) (n : Int) :
    SAt (w.setCell ⟨q, k * 10 + 8, none⟩ (.int .i64 (addK (at_ L k).c n))) g q M (inc L k n) T := by
  refine ⟨?_, h.row.putCnt (at_some hk) _, h.2.2.1, h.2.2.2.1, h.2.2.2.2.1, h.oks.inc_, h.tot⟩
  rw [inc_length]
  exact h.1.other (p := ⟨q, k * 10 + 8, none⟩) h.2.2.1 _
theorem add2_k (a b : Int) (w : World) : Calls Try.prog 24 #[.slice (some ⟨w.heap.size, 0, none⟩) 2 2] (w.alloc (.cells #[.int .i64 a, .int .i64 b] 2)) fun e w' => e = .returned (.int .i64 (addK a b)) ∧ Below w.heap.size w w' :=
  (add2_any a b w w.heap.size 2 rfl).mono fun e w' ⟨h1, h2⟩ => ⟨by rw [h1, addK_sum], h2 ▸ (Below.refl _ w).alloc (Nat.le_refl _) _⟩
/-- What Add leaves. -/
def AddOut (g q M : Nat) (L' : List Slo) (T' : Int) (s : Slo) (w : World) (e : Ending) (w' : World) : Prop :=
  e = .returned (.agg s.cs.toArray) ∧ SAt w' g q M L' T' ∧ Far (two g q) w w'
set_option maxHeartbeats 400000 in
theorem add_nil (p : Pre) (n : Int) (w : World) : Calls Try.prog 20 #[.pointer none, .agg p.cs.toArray, .int .i64 n] w fun e w' => e = .returned (.agg slo0.cs.toArray) ∧ Below w.heap.size w w' := by
  obtain ⟨n1, n2, n3⟩ := two_new p w
  have N2 := Lib.hid n2
  have B1 := Lib.hid n3
  clear n1 n2 n3
  go_enter Try.func20, Try.ntmps20
  go_wp2_with (first | (refine wpList_build rfl 52 [] rfl [] rfl slo0.cs (run_slo0 _) ?_) | (refine wpList_lay rfl 52 10 size32 (.tmp 6) (.tmp 18) rfl _ slo0.cs rfl rfl 52 slo0.cs N2.out rfl rfl (all_oneCell_toArray (slo_each _)) ?_; intro w3 K3 F3; have W3 : Hid (Below w.heap.size w w3) := below_only B1.out F3.out (by omega) B1.out.size; have hv := load_slo K3.out))
  refine bodyPost_ret (v := .agg slo0.cs.toArray) (by simp [results, Try.results20, Act.put, asAddr, hv]) rfl ?_
  exact ⟨rfl, W3.out⟩
set_option maxHeartbeats 1000000 in
theorem add_ (g q M : Nat) (L : List Slo) (T : Int) (p : Pre) (n : Int) (w : World) (h : SAt w g q M L T) (hp : p.Ok) :
    Calls Try.prog 20 #[.pointer (some ⟨g, 0, none⟩), .agg p.cs.toArray, .int .i64 n] w (AddOut g q M (stp M L p n) (addK T n) (at_ (stp M L p n) (pos M L p)) w) := by
  rw [show stp M L p n = inc (plc M L p) (pos M L p) n from rfl]
  obtain ⟨n1, n2, n3⟩ := two_new p w
  have N1 := Lib.hid n1
  have N2 := Lib.hid n2
  have B1 := Lib.hid n3
  have HP := Lib.hid hp
  have HW := Lib.hid h.lt
  have S1 := Lib.hid (h.below n3)
  have hf := h.few
  have hd : decide ((M : Int) < 1) = false := by simp; omega
  have HK := Lib.hid (pos_lt (L := L) (p := p) hf.2.1)
  clear n1 n2 n3 h hp
  obtain ⟨_, c1, c2, _, f2⟩ := S1.out.cells
  go_enter Try.func20, Try.ntmps20
  go_upto_region 1 with fail
  generalize ((w.alloc (.cells p.cs.toArray 31)).alloc (.cells #[.bool false, .int .u8 0, .int .u8 0, .int .u8 0, .int .u8 0, .int .u8 0, .int .u8 0, .int .u8 0, .int .i64 0, .int .i64 0] 52)) = x1 at *
  go_upto_region 4 with (go_at_call 24; (with_reducible refine (add2_k _ _ _).mono ?_); rintro e x2 ⟨rfl, hb⟩; have S2 := Lib.hid (S1.out.below hb); have M1 := Lib.hid (N1.out.below hb); have M2 := Lib.hid (N2.out.below hb); have B2 : Hid (Below w.heap.size w x2) := B1.out.trans (hb.mono B1.out.size); clear hb; obtain ⟨_, _, d2, _, g2⟩ := S2.out.cells)
  have S3 := Lib.hid (S2.out.tot_ (addK_num T n))
  have F3 : Hid (Far (only g) x2 (x2.setCell ⟨g, 2, none⟩ (.int .i64 (addK T n)))) := (Far.refl (only g) x2).set_ (p := ⟨g, 2, none⟩) (fun _ => rfl) _
  have hg1 : w.heap.size ≠ g ∧ w.heap.size + 1 ≠ g := by have := HW.out; omega
  have hq1 : w.heap.size ≠ q ∧ w.heap.size + 1 ≠ q := by have := HW.out; omega
  have K1 := Lib.hid (M1.out.far F3.out hg1.1)
  have K2 := Lib.hid (M2.out.far F3.out hg1.2)
  have G3 : Hid (Far (two g q) w (x2.setCell ⟨g, 2, none⟩ (.int .i64 (addK T n)))) := (Far.of_below B2.out (two g q)).trans F3.out (fun i _ e => .inl e)
  have Z3 : Hid (w.heap.size + 2 ≤ (x2.setCell ⟨g, 2, none⟩ (.int .i64 (addK T n))).heap.size) := by have := K2.out.lt; show _ ≤ _; omega
  clear d2 g2 c1 c2 f2 S1 S2 N1 N2 M1 M2 B1 B2 F3
  generalize x2.setCell ⟨g, 2, none⟩ (.int .i64 (addK T n)) = x3 at *
  have HPL := Lib.hid (place_ g q M L (addK T n) p x3 S3.out HP.out)
  generalize plc M L p = P at *
  generalize pos M L p = k at *
  obtain ⟨m, hm⟩ : ∃ m, P.length = m := ⟨_, rfl⟩
  have hk : k < m := hm ▸ HK.out
  have HM := Lib.hid hm
  clear hm
  go_upto_region 6 with (first | (refine wpList_pre (by rfl) (.tmp 4) rfl _ _ rfl p (whole_at K1.out) ?_) | (go_at_call 25; (with_reducible refine HPL.out.mono ?_); rintro e x4 ⟨rfl, hs, hf⟩; have S4 := Lib.hid hs; have J2 := Lib.hid (K2.out.far hf (fun e => by rcases e with e | e <;> omega)); have G4 : Hid (Far (two g q) w x4) := G3.out.trans hf (fun _ _ e => e); have Z4 : Hid (w.heap.size + 2 ≤ x4.heap.size) := Nat.le_trans Z3.out hf.size; clear hs hf; have d0 := S4.out.cells.1; rw [HM.out] at d0; have hm64 := S4.out.few; rw [HM.out] at hm64))
  have hkP := HK.out
  have c8 := S4.out.row.cnt (at_some hkP)
  obtain ⟨c, hc⟩ : ∃ c, (at_ P k).c = c := ⟨_, rfl⟩
  rw [hc] at c8
  have HC := Lib.hid hc
  clear hc d0 hkP
  go_upto_region 7 with (go_at_call 24; (with_reducible refine (add2_k _ _ _).mono ?_); rintro e x5 ⟨rfl, hb⟩; have S5 := Lib.hid (S4.out.below hb); have J5 := Lib.hid (J2.out.below hb); have G5 : Hid (Far (two g q) w x5) := G4.out.trans (Far.of_below hb (two g q)) (fun _ _ e => e); have Z5 : Hid (w.heap.size + 2 ≤ x5.heap.size) := Nat.le_trans Z4.out hb.size; clear hb; have d8 := S5.out.row.cnt (at_some HK.out); have e8 := S5.out.row.frozen (k * 10 + 8))
  have S6 := Lib.hid (S5.out.inc_ HK.out n)
  have F6 : Hid (Far (only q) x5 (x5.setCell ⟨q, k * 10 + 8, none⟩ (.int .i64 (addK c n)))) := (Far.refl (only q) x5).set_ (p := ⟨q, k * 10 + 8, none⟩) (fun _ => rfl) _
  rw [HC.out] at S6
  have J6 := Lib.hid (J5.out.far F6.out hq1.2)
  have G6 : Hid (Far (two g q) w (x5.setCell ⟨q, k * 10 + 8, none⟩ (.int .i64 (addK c n)))) := G5.out.trans F6.out (fun i _ e => .inr e)
  clear d8 e8 c8 S5 J5 G5 F6 S4 J2 G4
  generalize x5.setCell ⟨q, k * 10 + 8, none⟩ (.int .i64 (addK c n)) = x6 at *
  have R6 := Lib.hid (S6.out.row.slot (at_some (k := k) (by rw [inc_length]; exact HK.out)))
  generalize inc P k n = I at *
  go_wp2_with (first | (refine wpList_slo (by rfl) (.tmp 49) rfl _ _ rfl _ R6.out ?_) | (refine wpList_lay rfl 52 10 size32 (.tmp 6) (.tmp 50) rfl _ (at_ I k).cs rfl rfl 52 slo0.cs J6.out rfl rfl (all_oneCell_toArray (slo_each _)) ?_; intro x7 K7 F7; have hv := load_slo K7.out))
  refine bodyPost_ret (v := .agg (at_ I k).cs.toArray) (by simp [results, Try.results20, Act.put, asAddr, hv]) rfl ?_
  exact ⟨rfl, S6.out.far F7.out (fun e => hg1.2 (Eq.symm e)) (fun e => hq1.2 (Eq.symm e)), ⟨F7.out.os.trans G6.out.os, F7.out.tape.trans G6.out.tape, F7.out.output.trans G6.out.output, Nat.le_trans G6.out.size F7.out.size, fun i hi hn => (F7.out.block i (Nat.lt_of_lt_of_le hi G6.out.size) (fun e => by have : i = w.heap.size + 1 := e; omega)).trans (G6.out.block i hi hn)⟩⟩

/-- What New answers. -/
def NewOut (M : Nat) (w : World) (e : Ending) (w' : World) : Prop := ∃ g q, e = .returned (.tuple #[.pointer (some ⟨g, 0, none⟩), .int .i64 0]) ∧ SAt w' g q M [] 0 ∧ w.heap.size ≤ g ∧ w.heap.size ≤ q ∧ Below w.heap.size w w'
set_option maxHeartbeats 400000 in
theorem new_bad (x : Int) (w : World) (h : x < 1 ∨ 64 < x) : Calls Try.prog 16 #[.int .i64 x] w fun e w' => e = .returned (.tuple #[.pointer none, .int .i64 1]) ∧ w = w' := by
  by_cases h1 : x < 1
  · have hd : decide (x < 1) = true := by simpa using h1
    go_enter Try.func16, Try.ntmps16
    go_wp2
    go_ret2
    exact ⟨rfl, rfl⟩
  · have hd : decide (x < 1) = false := by simpa using h1
    have hd2 : decide (64 < x) = true := by simp; omega
    go_enter Try.func16, Try.ntmps16
    go_wp2
    go_ret2
    exact ⟨rfl, rfl⟩
theorem made_ (M : Nat) (w : World) (h : M ≤ 64) : (Instr.makeSlice 32 (.int .i64 0) (.int .i64 (M : Nat))).run Try.prog w = .ok (.slice (some ⟨w.heap.size, 0, none⟩) 0 M) (w.alloc (.cells (madeCells slo0.cs.toArray (M * 10)) 52)) := by
  obtain ⟨i, hi, hz⟩ := Option.map_eq_some_iff.1 (show (Try.prog.info? 52).map (fun i => (i.zero, i.size, i.bytes)) = some (some (.agg slo0.cs.toArray), 10, 24) by kernel_rfl)
  simp only [Prod.mk.injEq] at hz
  have hr := run_make (P := Try.prog) w 32 52 i _ Try.underlying32 hi hz.1 .i64 .i64 0 (M : Nat) (by omega) (by omega) (by rw [hz.2.2]; omega) (by omega)
  rw [hz.2.1, show (Value.agg slo0.cs.toArray).cells = slo0.cs.toArray from rfl] at hr
  simpa using hr
set_option maxHeartbeats 400000 in
theorem new_ (M : Nat) (w : World) (h1 : 1 ≤ M) (h2 : M ≤ 64) : Calls Try.prog 16 #[.int .i64 (M : Nat)] w (NewOut M w) := by
  have hd : decide ((M : Int) < 1) = false := by simp; omega
  have hd2 : decide (64 < (M : Int)) = false := by simp; omega
  have hmk := made_ M w h2
  have N1 := Lib.hid (Blk.new w 52 (madeCells slo0.cs.toArray (M * 10)).toList)
  have HL : Hid ((madeCells slo0.cs.toArray (M * 10)).toList.length = M * 10) := by show _ = _; rw [Array.length_toList, size_madeCells]
  generalize madeCells slo0.cs.toArray (M * 10) = cs at *
  go_enter Try.func16, Try.ntmps16
  go_wp2
  go_ret2
  have hN := Blk.new (w.alloc (.cells cs 52)) 67 [.slice (some ⟨w.heap.size, 0, none⟩) (0 : Nat) M, .int .i64 (M : Nat), .int .i64 0]
  rw [show (w.alloc (.cells cs 52)).heap.size = w.heap.size + 1 by simp] at hN
  refine ⟨w.heap.size + 1, w.heap.size, by rfl, ⟨hN, Rw.nil (N1.out.alloc _) HL.out, by omega, h1, h2, fun _ h => absurd h (by simp), num0⟩, by omega, by omega, ((Below.refl _ w).alloc (Nat.le_refl _) _).alloc (by simp) _⟩
theorem new_x (x : Int) (M : Nat) (w : World) (hx : x = M) (h1 : 1 ≤ M) (h2 : M ≤ 64) : Calls Try.prog 16 #[.int .i64 x] w (NewOut M w) := hx ▸ new_ M w h1 h2
end Go.Proofs.Yteeobeeoefokdaa
