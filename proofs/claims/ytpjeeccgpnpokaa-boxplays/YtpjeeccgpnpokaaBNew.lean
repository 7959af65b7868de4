/- The contracts of box's New and begin. Conditions: those of each theorem. -/
import Derived.Test.YtpjeeccgpnpokaaBActs
namespace Go.Proofs.Ytpjeeccgpnpokaa
open Go.RowKit

/-- The stay of one who is put in now. -/
def BegOut (C : Cfg) (x : Int) (w : World) (e : Ending) (w' : World) : Prop :=
  ∃ t, e = .returned (.agg #[.int .i64 (addC (cnt (clm x)) (cnt C.term)), .pointer (some ⟨t, 0, none⟩)]) ∧ TAt w' t C.r (C.b * 1048576) (C.b * 1048576) (clm x) ∧ w.heap.size ≤ t ∧ Below w.heap.size w w'
theorem max_zero (x : Int) : max 0 x = clm x := by unfold clm; split <;> omega
set_option maxRecDepth 100000 in
set_option maxHeartbeats 2000000 in
theorem beg_ (g h : Nat) (C : Cfg) (x : Int) (w : World) (hC : C.Ok) (hx : x ≤ 9223372036854775807) (hh : Blk w g 64 [.pointer (some ⟨h, 0, none⟩), .int .i64 C.term, .int .i64 C.r, .int .i64 C.b]) :
    Calls Try.prog 25 #[.pointer (some ⟨g, 0, none⟩), .int .i64 x] w (BegOut C x w) := by
  have HC : Hid ((0 ≤ C.r ∧ C.r ≤ 1073741824) ∧ (1 ≤ C.b ∧ C.b ≤ 1073741824)) := ⟨hC.r, hC.b⟩
  have hb1 : Below w.heap.size w (w.alloc (.cells #[.int .i64 0, .pointer none] 60)) := (Below.refl _ w).alloc (Nat.le_refl _) _
  have H1 := Lib.hid (hh.below hb1)
  have Z1 := Lib.hid (Blk.new w 60 [.int .i64 0, .pointer none])
  have B1 := Lib.hid hb1
  have HB0 : Hid (0 ≤ C.b * 1048576 ∧ C.b * 1048576 ≤ 1125899906842624) := by have := hC.b; constructor <;> omega
  have HTK : Hid (∀ W t, TAt W t C.r (C.b * 1048576) (C.b * 1048576) 0 → Calls Try.prog 31 #[.pointer (some ⟨t, 0, none⟩), .int .i64 x, .int .i64 0] W fun e w' => e = .returned (.bool true) ∧ TAt w' t C.r (C.b * 1048576) (C.b * 1048576) (clm x) ∧ Far (only t) W w') := fun W t ht => by
    have hl := lev_full (r := C.r) (x := x) HB0.out.1 HB0.out.2
    have ho : okT C.r (C.b * 1048576) (C.b * 1048576) 0 x 0 = true := ok_some (by omega) (by omega) (by rw [hl]; have := HB0.out; omega)
    have := ktake_ t C.r (C.b * 1048576) (C.b * 1048576) 0 x 0 W ht hx
    unfold TakePost at this
    rw [ho, lef_full HB0.out.1 HB0.out.2, max_zero] at this
    exact this
  have HGL := Lib.hid hh.lt
  have HADD : Hid (∀ W : World, Calls Try.prog 36 #[.slice (some ⟨W.heap.size, 0, none⟩) 2 2] (W.alloc (.cells #[.int .i64 x, .int .i64 C.term] 2)) fun e w' => e = .returned (.int .i64 (addC (cnt (clm x)) (cnt C.term))) ∧ Below W.heap.size W w') := fun W =>
    (add2_any x C.term W W.heap.size 2 rfl).mono fun e w' ⟨he, hw⟩ => ⟨by rw [he, sumF_two, cnt_clm], hw ▸ (Below.refl _ W).alloc (Nat.le_refl _) _⟩
  clear hC hh hb1 hx
  go_enter Try.func25, Try.ntmps25
  go_upto_region 1 with fail
  generalize (w.alloc (.cells #[.int .i64 0, .pointer none] 60)) = x1 at *
  have HS0 : Hid (Blk x1.drew g 64 [.pointer (some ⟨h, 0, none⟩), .int .i64 C.term, .int .i64 C.r, .int .i64 C.b]) := H1.out
  have Z2 : Hid (Blk x1.drew w.heap.size 60 [.int .i64 0, .pointer none]) := Z1.out
  have B2 : Hid (Below w.heap.size w x1.drew) := B1.out.drew
  clear H1 Z1 B1
  refine wp_region_held_drew (S := fun W => Blk W g 64 [.pointer (some ⟨h, 0, none⟩), .int .i64 C.term, .int .i64 C.r, .int .i64 C.b]) (by kernel_rfl) ?_ (fun _ => ?_)
  · exact HS0.out
  generalize x1.drew = x0 at *
  refine wpAnyH_take (i := 0) (oi := ⟨some 8, _, _, _, _, _⟩) (v := ?_) rfl (by kernel_rfl) (by kernel_rfl) (by kernel_rfl) (fun _ _ _ h => h) (Or.inl ⟨by rfl, ?_⟩) HS0.out ?_
  rotate_left
  · (intro W hSW; clear hSW; go_simp)
    first | done | (with_reducible rfl)
  try simp only [Act.put, List.setIfInBounds_toArray, List.set_cons_zero, List.set_cons_succ]
  refine wpAnyH_take (i := 1) (oi := ⟨some 9, _, _, _, _, _⟩) (v := ?_) rfl (by kernel_rfl) (by kernel_rfl) (by kernel_rfl) (fun _ _ _ h => h) (Or.inl ⟨by rfl, ?_⟩) HS0.out ?_
  rotate_left
  · (intro W hSW; clear hSW; go_simp)
    first | done | (with_reducible rfl)
  try simp only [Act.put, List.setIfInBounds_toArray, List.set_cons_zero, List.set_cons_succ]
  refine wpAnyH_take (i := 2) (oi := ⟨some 10, _, _, _, _, _⟩) (v := ?_) rfl (by kernel_rfl) (by kernel_rfl) (by kernel_rfl) (fun _ _ _ h => h) (Or.inl ⟨by rfl, ?_⟩) HS0.out ?_
  rotate_left
  · (intro W hSW; clear hSW; go_simp)
    first | done | (with_reducible rfl)
  try simp only [Act.put, List.setIfInBounds_toArray, List.set_cons_zero, List.set_cons_succ]
  refine wpAnyH_take (i := 3) (oi := ⟨some 11, _, _, _, _, _⟩) (v := .int .i64 C.r) rfl (by kernel_rfl) (by kernel_rfl) (by kernel_rfl) (fun _ _ _ h => h) (Or.inl ⟨by rfl, ?_⟩) HS0.out ?_
  · (intro W hSW; have hc := hSW.cell 2; clear hSW; go_simp)
  try simp only [Act.put, List.setIfInBounds_toArray, List.set_cons_zero, List.set_cons_succ]
  refine wpAnyH_take (i := 4) (oi := ⟨some 12, _, _, _, _, _⟩) (v := ?_) rfl (by kernel_rfl) (by kernel_rfl) (by kernel_rfl) (fun _ _ _ h => h) (Or.inl ⟨by rfl, ?_⟩) HS0.out ?_
  rotate_left
  · (intro W hSW; clear hSW; go_simp)
    first | done | (with_reducible rfl)
  try simp only [Act.put, List.setIfInBounds_toArray, List.set_cons_zero, List.set_cons_succ]
  refine wpAnyH_take (i := 5) (oi := ⟨some 13, _, _, _, _, _⟩) (v := ?_) rfl (by kernel_rfl) (by kernel_rfl) (by kernel_rfl) (fun _ _ _ h => h) (Or.inl ⟨by rfl, ?_⟩) HS0.out ?_
  rotate_left
  · (intro W hSW; clear hSW; go_simp)
    first | done | (with_reducible rfl)
  try simp only [Act.put, List.setIfInBounds_toArray, List.set_cons_zero, List.set_cons_succ]
  refine wpAnyH_take (i := 6) (oi := ⟨some 14, _, _, _, _, _⟩) (v := ?_) rfl (by kernel_rfl) (by kernel_rfl) (by kernel_rfl) (fun _ _ _ h => h) (Or.inl ⟨by rfl, ?_⟩) HS0.out ?_
  rotate_left
  · (intro W hSW; clear hSW; go_simp)
    first | done | (with_reducible rfl)
  try simp only [Act.put, List.setIfInBounds_toArray, List.set_cons_zero, List.set_cons_succ]
  refine wpAnyH_take (i := 7) (oi := ⟨some 15, _, _, _, _, _⟩) (v := .int .i64 C.b) rfl (by kernel_rfl) (by kernel_rfl) (by kernel_rfl) (fun _ _ _ h => h) (Or.inl ⟨by rfl, ?_⟩) HS0.out ?_
  · (intro W hSW; have hc := hSW.cell 3; clear hSW; go_simp)
  try simp only [Act.put, List.setIfInBounds_toArray, List.set_cons_zero, List.set_cons_succ]
  refine wpAnyH_ready (rs := [8]) (by kernel_rfl) (by simp) ?_
  refine AllReadyH.cons (o := ⟨some 16, _, _, _, _, _⟩) rfl (fun K hK => ?_) AllReadyH.nil
  go_simp
  refine (knew_ C.r C.b _ HC.out.1.1 HC.out.1.2 HC.out.2.1 HC.out.2.2).mono ?_
  rintro e x1 ⟨t, rfl, ht, hg, hb⟩
  have T3 := Lib.hid ht
  have Z3 := Lib.hid (Z2.out.below hb)
  have B3 : Hid (Below w.heap.size w x1) := B2.out.trans (hb.mono B2.out.size)
  have HTG : Hid (w.heap.size + 1 ≤ t) := by have := Z2.out.lt; show _ ≤ _; omega
  have HS1 := Lib.hid (HS0.out.below hb)
  clear ht hg hb Z2 B2
  go_simp
  refine hK.out _ _ ?_ (fun _ => ?_)
  · exact HS1.out
  clear hK K
  try simp only [Act.put, List.setIfInBounds_toArray, List.set_cons_zero, List.set_cons_succ]
  refine wpAnyH_take (i := 9) (oi := ⟨some 7, _, _, _, _, _⟩) (v := ?_) rfl (by kernel_rfl) (by kernel_rfl) (by kernel_rfl) (fun _ _ _ h => h) (Or.inl ⟨by rfl, ?_⟩) HS1.out ?_
  rotate_left
  · (intro W hSW; clear hSW; go_simp)
    first | done | (with_reducible rfl)
  try simp only [Act.put, List.setIfInBounds_toArray, List.set_cons_zero, List.set_cons_succ]
  refine wpAnyH_take (i := 10) (oi := ⟨some 17, _, _, _, _, _⟩) (v := ?_) rfl (by kernel_rfl) (by kernel_rfl) (by kernel_rfl) (fun _ _ _ h => h) (Or.inl ⟨by rfl, ?_⟩) HS1.out ?_
  rotate_left
  · (intro W hSW; clear hSW; go_simp)
    first | done | (with_reducible rfl)
  try simp only [Act.put, List.setIfInBounds_toArray, List.set_cons_zero, List.set_cons_succ]
  refine wpAnyH_take (i := 11) (oi := ⟨some 18, _, _, _, _, _⟩) (v := ?_) rfl (by kernel_rfl) (by kernel_rfl) (by kernel_rfl) (fun _ _ _ h => h) (Or.inl ⟨by rfl, ?_⟩) HS1.out ?_
  rotate_left
  · (intro W hSW; clear hSW; go_simp)
    first | done | (with_reducible rfl)
  try simp only [Act.put, List.setIfInBounds_toArray, List.set_cons_zero, List.set_cons_succ]
  refine wpAnyH_take (i := 12) (oi := ⟨some 5, _, _, _, _, _⟩) (v := ?_) rfl (by kernel_rfl) (by kernel_rfl) (by kernel_rfl) (fun _ _ _ h => h) (Or.inl ⟨by rfl, ?_⟩) HS1.out ?_
  rotate_left
  · (intro W hSW; clear hSW; go_simp)
    first | done | (with_reducible rfl)
  try simp only [Act.put, List.setIfInBounds_toArray, List.set_cons_zero, List.set_cons_succ]
  refine wpAnyH_take (i := 13) (oi := ⟨some 6, _, _, _, _, _⟩) (v := ?_) rfl (by kernel_rfl) (by kernel_rfl) (by kernel_rfl) (fun _ _ _ h => h) (Or.inl ⟨by rfl, ?_⟩) HS1.out ?_
  rotate_left
  · (intro W hSW; clear hSW; go_simp)
    first | done | (with_reducible rfl)
  try simp only [Act.put, List.setIfInBounds_toArray, List.set_cons_zero, List.set_cons_succ]
  refine wpAnyH_done (by kernel_rfl) ?_ _
  go_upto_region 3 with (go_at_call 31; (with_reducible refine (HTK.out _ _ T3.out).mono ?_); rintro e x2 ⟨rfl, ht, hf⟩; have T4 := Lib.hid ht; have F4 := Lib.hid hf; clear ht hf)
  have Z4 := Lib.hid (Z3.out.far F4.out (fun e => by have e' : w.heap.size = t := e; have := HTG.out; omega))
  have B4 : Hid (Below w.heap.size w x2) := below_only B3.out F4.out (by have := HTG.out; omega) B3.out.size
  have c1 : x2.cell? ⟨g, 1, none⟩ = some (.int .i64 C.term) := (HS1.out.far F4.out (fun e => by have e' : g = t := e; have := HTG.out; have := HGL.out; omega)).cell 1
  have T5 := Lib.hid (T4.out)
  clear T3 Z3 B3 F4 HTK HB0 HC HS0 HS1 HGL
  go_wp2_with (first | (go_at_call 36; (with_reducible refine (HADD.out _).mono ?_); rintro e x3 ⟨rfl, hb⟩; have T6 := Lib.hid (T5.out.below hb); have Z6 := Lib.hid (Z4.out.below hb); have B6 : Hid (Below w.heap.size w x3) := B4.out.trans (hb.mono B4.out.size); clear hb) | (refine wpList_lay rfl 60 2 size60 (.tmp 4) (.tmp 30) rfl w.heap.size [.int .i64 (addC (cnt (clm x)) (cnt C.term)), .pointer (some ⟨t, 0, none⟩)] rfl rfl 60 _ Z6.out rfl rfl (stay_one _ _) ?_; intro x4 hB4 hF4; have B7 : Hid (Below w.heap.size w x4) := below_only B6.out hF4.out (Nat.le_refl _) B6.out.size; have T7 := Lib.hid (T6.out.far hF4.out (fun e => by have e' : t = w.heap.size := e; have := HTG.out; omega)); have c0 := hB4.out.cell 0; have c1 := hB4.out.cell 1; clear hB4 hF4))
  refine bodyPost_ret (v := .agg #[.int .i64 (addC (cnt (clm x)) (cnt C.term)), .pointer (some ⟨t, 0, none⟩)]) (by simp [results, Try.results25, go_sem, c0, c1]) rfl ?_
  exact ⟨t, rfl, T7.out, by have := HTG.out; omega, B7.out⟩
/-- A new one, and one that there can't be. -/
def NewOut (C : Cfg) (w : World) (e : Ending) (w' : World) : Prop :=
  ∃ f h q n g, e = .returned (.tuple #[.pointer (some ⟨g, 0, none⟩), .int .i64 0]) ∧ BoxAt f h q n w' g C [] ∧ w.heap.size ≤ g ∧ w.heap.size ≤ h ∧ w.heap.size ≤ q ∧ Below w.heap.size w w'
set_option maxRecDepth 100000 in
set_option maxHeartbeats 2000000 in
theorem bnew_ (C : Cfg) (w : World) (hC : C.Ok) : Calls Try.prog 7 #[.int .i64 C.room, .int .i64 C.term, .int .i64 C.r, .int .i64 C.b] w (NewOut C w) := by
  obtain ⟨n, hn⟩ := Int.eq_ofNat_of_zero_le (show 0 ≤ C.room by have := hC.room; omega)
  have HNT := Lib.hid (newT_ (fun _ => 0) n w (by have := hC.room; omega) (by have := hC.room; omega))
  have HR := Lib.hid hn
  have HK := Lib.hid (fun W => knew_ C.r C.b W hC.r.1 hC.r.2 hC.b.1 hC.b.2)
  have ht1 := hC.term.1
  have ht2 := hC.term.2
  rw [hn]
  clear hC hn
  go_enter Try.func7, Try.ntmps7
  go_upto_region 2 with (go_at_call 20; (with_reducible refine HNT.out.mono ?_); rintro e x1 ⟨h, q, rfl, hT, hh, hq, hb⟩; have T1 := Lib.hid hT; have B1 := Lib.hid hb; have HH := Lib.hid (And.intro hh hq); clear hT hh hq hb)
  clear HNT
  go_upto_region 7 with (go_at_call 21; (with_reducible refine (HK.out _).mono ?_); rintro e x2 ⟨t, rfl, -, -, hb⟩; have T2 := Lib.hid (T1.out.below hb); have B2 : Hid (Below w.heap.size w x2) := B1.out.trans (hb.mono B1.out.size); clear hb)
  clear T1 B1 HK
  have FIN : Hid (NewOut C w (.returned (.tuple #[.pointer (some ⟨x2.heap.size, 0, none⟩), .int .i64 0])) (x2.alloc (.cells #[.pointer (some ⟨h, 0, none⟩), .int .i64 C.term, .int .i64 C.r, .int .i64 C.b] 64))) := by
    have hb3 : Below x2.heap.size x2 (x2.alloc (.cells #[.pointer (some ⟨h, 0, none⟩), .int .i64 C.term, .int .i64 C.r, .int .i64 C.b] 64)) := (Below.refl _ _).alloc (Nat.le_refl _) _
    have hl := T2.out.lt
    have hs := B2.out.size
    refine ⟨fun _ => 0, h, q, n, x2.heap.size, rfl, ⟨Blk.new x2 64 _, T2.out.below hb3, HR.out, ⟨by omega, by omega⟩, ?_, ?_, ?_, ?_⟩, hs, HH.out.1, HH.out.2, B2.out.trans (hb3.mono hs)⟩
    · intro e he; cases he
    · intro e he; cases he
    · intro e he; cases he
    · intro e he; cases he
  clear T2 B2 HH HR
  go_wp2
  refine bodyPost_ret (v := .tuple #[.pointer (some ⟨x2.heap.size, 0, none⟩), .int .i64 0]) (by simp [results, Try.results7]) rfl ?_
  exact FIN.out
set_option maxRecDepth 100000 in
set_option maxHeartbeats 2000000 in
theorem bnew_bad (C : Cfg) (w : World) (hC : ¬ C.Ok) : Calls Try.prog 7 #[.int .i64 C.room, .int .i64 C.term, .int .i64 C.r, .int .i64 C.b] w (Ans (.tuple #[.pointer none, .int .i64 1]) w) := by
  by_cases h1 : 1 ≤ C.room ∧ C.room ≤ 64
  · obtain ⟨n, hn⟩ := Int.eq_ofNat_of_zero_le (show 0 ≤ C.room by omega)
    have HNT := Lib.hid (newT_ (fun _ => 0) n w (by omega) (by omega))
    rw [hn]
    by_cases h2 : 1 ≤ C.term ∧ C.term ≤ 4611686018427387903
    · have hk : kbad C.r C.b = true := by
        rcases hh : kbad C.r C.b with _ | _
        · obtain ⟨k1, k2, k3, k4⟩ := kbad_no hh
          exact absurd ⟨h2, ⟨k1, k2⟩, ⟨k3, k4⟩, h1⟩ hC
        · rfl
      have HK := Lib.hid (fun W => knew_bad C.r C.b W hk)
      obtain ⟨ht1, ht2⟩ := h2
      clear hC hk h1 hn
      generalize C.term = ct at *
      generalize C.r = cr at *
      generalize C.b = cb at *
      go_enter Try.func7, Try.ntmps7
      go_upto_region 2 with (go_at_call 20; (with_reducible refine HNT.out.mono ?_); rintro e x1 ⟨h, q, rfl, -, -, -, hb⟩; have B1 := Lib.hid hb; clear hb)
      clear HNT
      go_upto_region 7 with (go_at_call 21; (with_reducible refine (HK.out _).mono ?_); rintro e x2 ⟨rfl, rfl⟩)
      go_wp2
      refine bodyPost_ret (v := .tuple #[.pointer none, .int .i64 1]) (by simp [results, Try.results7]) rfl ?_
      exact ⟨rfl, B1.out⟩
    · clear hC h1 hn
      generalize C.term = ct at *
      generalize C.r = cr at *
      generalize C.b = cb at *
      go_enter Try.func7, Try.ntmps7
      go_upto_region 4 with (go_at_call 20; (with_reducible refine HNT.out.mono ?_); rintro e x1 ⟨h, q, rfl, -, -, -, hb⟩; have B1 := Lib.hid hb; clear hb)
      clear HNT
      by_cases h3 : ct < 1
      · clear h2
        go_wp2
        refine bodyPost_ret (v := .tuple #[.pointer none, .int .i64 1]) (by simp [results, Try.results7]) rfl ?_
        exact ⟨rfl, B1.out⟩
      · have h4 : 4611686018427387903 < ct := by omega
        clear h2
        go_wp2
        refine bodyPost_ret (v := .tuple #[.pointer none, .int .i64 1]) (by simp [results, Try.results7]) rfl ?_
        exact ⟨rfl, B1.out⟩
  · have HNT := Lib.hid (newT_bad C.room w h1)
    clear hC h1
    generalize C.room = rm at *
    generalize C.term = ct at *
    generalize C.r = cr at *
    generalize C.b = cb at *
    go_enter Try.func7, Try.ntmps7
    go_upto_region 2 with (go_at_call 20; (with_reducible refine HNT.out.mono ?_); rintro e x1 ⟨rfl, hb⟩; have B1 := Lib.hid hb; clear hb)
    clear HNT
    go_wp2
    refine bodyPost_ret (v := .tuple #[.pointer none, .int .i64 1]) (by simp [results, Try.results7]) rfl ?_
    exact ⟨rfl, B1.out⟩
end Go.Proofs.Ytpjeeccgpnpokaa
