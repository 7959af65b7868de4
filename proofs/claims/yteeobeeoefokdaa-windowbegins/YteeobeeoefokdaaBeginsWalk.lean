/- The walk of WindowBegins. Conditions: those of each theorem. -/
import Derived.Test.YteeobeeoefokdaaOnes
namespace Go.Proofs.Yteeobeeoefokdaa
open Go.RowKit

theorem run_slo2 (p : Pre) (c : Int) (w : World) : (Instr.build 52 #[(0, .agg p.cs.toArray), (1, .int .i64 c)]).run Try.prog w = .ok (.agg (Slo.mk p c 0).cs.toArray) w := run_build w 52 _ _ (by kernel_rfl)
set_option maxRecDepth 100000 in
set_option maxHeartbeats 2000000 in
theorem begins_far (a0 a1 a4 : Int) (A : Option Addr) (n c : Nat) (p : Pre) (w : World) (hn : 60 < n) :
    Calls Try.prog 5 #[.int .u8 a0, .int .u64 a1, .slice A n c, .agg p.cs.toArray, .int .u32 a4] w fun e w' => e = .returned (.bool true) ∧ Below w.heap.size w w' := by
  have hd : decide ((60 : Int) < (n : Int)) = true := by simp; omega
  have hB : Hid (Below w.heap.size w (w.alloc (.cells p.cs.toArray 31))) := (Below.refl _ w).alloc (Nat.le_refl _) _
  go_enter Try.func5, Try.ntmps5
  go_wp2_with fail
  generalize (w.alloc (.cells p.cs.toArray 31)) = x1 at *
  refine (awake_any _).mono ?_
  rintro e w1 ⟨rfl, hb1⟩
  have W1 : Hid (Below w.heap.size w w1) := hB.out.trans (hb1.mono hB.out.size)
  clear hb1
  go_wp2_with fail
  refine (awake_any _).mono ?_
  rintro e w2 ⟨rfl, hb2⟩
  have W2 : Hid (Below w.heap.size w w2) := W1.out.trans (hb2.mono W1.out.size)
  clear hb2
  go_wp2_with fail
  go_ret
  exact ⟨rfl, W2.out⟩

/-- What is kept of a window while all kinds are seen. -/
structure BegV (w : World) (t th : Int) (M : Nat) (V : Wn) (w' : World) : Prop where
  ns : V.ns = t
  th : V.th = th
  M : V.M = M
  no : V.no * t ≤ 1125899906842624
  be : Below w.heap.size w w'
def Beg (w : World) (g s q : Nat) (t th : Int) (M : Nat) (w' : World) : Prop := ∃ V, WAt w' g s q V ∧ BegV w t th M V w'
theorem Beg.be {w w' : World} {g s q : Nat} {t th : Int} {M : Nat} (h : Beg w g s q t th M w') : Below w.heap.size w w' := by obtain ⟨V, _, h⟩ := h; exact h.be
theorem Beg.drew {w w' : World} {g s q : Nat} {t th : Int} {M : Nat} (h : Beg w g s q t th M w') : Beg w g s q t th M w'.drew := by
  obtain ⟨V, h, k⟩ := h
  exact ⟨V, h.drew, k.ns, k.th, k.M, k.no, below_drewN k.be 1⟩
theorem BegV.next {w w' w'' : World} {g s q : Nat} {t th now n : Int} {M : Nat} {V : Wn} {p : Pre} (h : BegV w t th M V w') (hw : WAt w'' g s q ((V.to now).cnt p n)) (hf : Far (tri g s q) w' w'') (hg : w.heap.size ≤ g ∧ w.heap.size ≤ s ∧ w.heap.size ≤ q) (ht : 1 ≤ t ∧ now ≤ 1125899906842624) :
    Beg w g s q t th M w'' := by
  refine ⟨_, hw, ?_, ?_, ?_, ?_, below_tri h.be hf hg.1 hg.2.1 hg.2.2 h.be.size⟩
  · exact (rch_ns _ _).trans h.ns
  · refine Eq.trans ?_ h.th
    show (V.rch _).th = _
    unfold Wn.rch; split <;> rfl
  · refine Eq.trans ?_ h.M
    show (V.rch _).M = _
    unfold Wn.rch; split <;> rfl
  · show (V.rch (tm now / V.ns)).no * t ≤ _
    have := h.no
    unfold Wn.rch
    split
    · show tm now / V.ns * t ≤ _
      rw [h.ns]
      have h1 := Int.ediv_mul_le (tm now) (show t ≠ 0 by omega)
      have h2 : tm now ≤ 1125899906842624 := by unfold tm; omega
      omega
    · exact this
theorem mul_div_in {m t x : Int} (ht : 1 ≤ t) (h0 : 0 ≤ x) (h1 : x < t) : (m * t + x) / t = m := by
  rw [Int.add_comm, Int.add_mul_ediv_right _ _ (by omega), Int.ediv_eq_zero_of_lt h0 h1, Int.zero_add]

theorem tmod_bd (x : Int) : -1125899906842624 < x.tmod 1125899906842624 ∧ x.tmod 1125899906842624 < 1125899906842624 := by
  have h1 := Int.tmod_lt_of_pos x (b := 1125899906842624) (by omega)
  have h2 := Int.tmod_lt_of_pos (-x) (b := 1125899906842624) (by omega)
  rw [Int.neg_tmod] at h2
  omega
theorem tmod_le (x : Int) : x.tmod 1125899906842624 ≤ 1125899906842624 := by have := tmod_bd x; omega
theorem tmod_wrap (x : Int) : IntKind.i64.wrap (x.tmod 1125899906842624) = x.tmod 1125899906842624 := by
  have := tmod_bd x
  rw [IntKind.wrap_i64] <;> omega
theorem beg_first {w w' : World} {V : Wn} {t m a : Int} {M : Nat} {p : Pre} (h : BegV w t (1 + a) M V w') (hm : V.no < m) (ht : 1 ≤ t) (h0 : 0 ≤ m * t) (h1 : m * t ≤ 4611686018427387903) (hM : 1 ≤ M) (ha : 0 ≤ a ∧ a ≤ 4294967295) :
    (V.to (m * t)).cnt p a = ⟨t, 1 + a, m, a, M, [⟨p, a, 0⟩]⟩ ∧ (V.to (m * t)).hvy p a = false := by
  have hd : tm (m * t) / V.ns = m := by rw [tm_id h0 h1, h.ns, Int.mul_ediv_cancel _ (by omega)]
  have e : V.to (m * t) = ⟨t, 1 + a, m, 0, M, []⟩ := by rw [to_later (by rw [hd]; exact hm), hd, h.ns, h.th, h.M]
  rw [e]
  have hc := cnt_empty (ns := t) (th := 1 + a) (no := m) hM p (n := a) ⟨ha.1, by omega⟩
  exact ⟨hc.1, hc.2.trans (by simp; omega)⟩
theorem beg_again {t m a : Int} {M : Nat} {p : Pre} (ht : 1 ≤ t) (h0 : 0 ≤ m * t) (h1 : m * t ≤ 2305843009213693952) (h2 : t ≤ 2305843009213693952) (ha : 0 ≤ a ∧ a ≤ 4294967295) :
    (Wn.to ⟨t, 1 + a, m, a, M, [⟨p, a, 0⟩]⟩ (m * t + t - 1)).cnt p 1 = ⟨t, 1 + a, m, addK a 1, M, [⟨p, a + 1, 0⟩]⟩ ∧ (Wn.to ⟨t, 1 + a, m, a, M, [⟨p, a, 0⟩]⟩ (m * t + t - 1)).hvy p 1 = true := by
  have e : Wn.to ⟨t, 1 + a, m, a, M, [⟨p, a, 0⟩]⟩ (m * t + t - 1) = ⟨t, 1 + a, m, a, M, [⟨p, a, 0⟩]⟩ := to_same (by
    show tm (m * t + t - 1) / t ≤ m
    rw [tm_id (by omega) (by omega), show m * t + t - 1 = m * t + (t - 1) by omega, mul_div_in ht (by omega) (by omega)]
    exact Int.le_refl _)
  rw [e]
  have hc := cnt_again (ns := t) (th := 1 + a) (no := m) (T := a) (M := M) p (c := a) (n := 1) ha.1 (by omega) (by omega)
  exact ⟨hc.1, hc.2.trans (by simp; omega)⟩
set_option maxRecDepth 100000 in
set_option maxHeartbeats 4000000 in
theorem begins_near (a0 a1 a4 : Int) (A : Option Addr) (n c : Nat) (p : Pre) (O : Nat → Int) (P : Nat → Pre) (X : Nat → Int) (w : World) (hn : n ≤ 60) (b0 : 0 ≤ a0 ∧ a0 ≤ 255) (b1 : 0 ≤ a1 ∧ a1 ≤ 18446744073709551615) (b4 : 0 ≤ a4 ∧ a4 ≤ 4294967295) (hp : p.Ok) (ha : SeenIn w A n O P X) :
    Calls Try.prog 5 #[.int .u8 a0, .int .u64 a1, .slice A n c, .agg p.cs.toArray, .int .u32 a4] w fun e w' => e = .returned (.bool true) ∧ Below w.heap.size w w' := by
  have HA := Lib.hid ha
  clear ha
  have hd : decide ((60 : Int) < (n : Int)) = false := by simp; omega
  have hB : Below w.heap.size w (w.alloc (.cells p.cs.toArray 31)) := (Below.refl _ w).alloc (Nat.le_refl _) _
  have hK : Blk (w.alloc (.cells p.cs.toArray 31)) w.heap.size 31 p.cs := Blk.new w 31 p.cs
  have BX := Lib.hid hB
  have KX := Lib.hid hK
  clear hB hK
  go_enter Try.func5, Try.ntmps5
  go_upto_region 1 with fail
  generalize (w.alloc (.cells p.cs.toArray 31)) = x1 at *
  go_upto_region 4 with (go_at_call 7; (with_reducible refine (awake_any _).mono ?_); rintro e w1 ⟨rfl, hb⟩; have B1 : Hid (Below w.heap.size w w1) := BX.out.trans (hb.mono BX.out.size); have K1 := Lib.hid (KX.out.below hb); clear hb)
  have ht : 1 ≤ 1 + a1 % 1099511627776 ∧ 1 + a1 % 1099511627776 ≤ 1099511627776 := by omega
  generalize 1 + a1 % 1099511627776 = t at *
  obtain ⟨M, hM⟩ : ∃ M : Nat, 1 + a0 % 64 = (M : Int) := ⟨(1 + a0 % 64).toNat, by omega⟩
  have hM1 : 1 ≤ M ∧ M ≤ 64 := by omega
  have HM := Lib.hid hM
  clear hM BX KX
  go_upto_region 5 with (go_at_call 8; (with_reducible refine (wnew_ M _ t (1 + a4) _ HM.out hM1.1 hM1.2 ⟨ht.1, by omega⟩ ⟨by omega, by omega⟩).mono ?_); rintro e w2 ⟨g, s, q, rfl, hs, hg, hb⟩; have R2 : Hid (Beg w g s q t (1 + a4) M w2) := ⟨_, hs, rfl, rfl, rfl, (by show 0 * t ≤ _; omega), B1.out.trans (hb.mono B1.out.size)⟩; have K2 := Lib.hid (K1.out.below hb); have HG : Hid (w.heap.size ≤ g ∧ w.heap.size ≤ s ∧ w.heap.size ≤ q) := (by have := B1.out.size; show _ ∧ _ ∧ _; omega); have hgk : w.heap.size ≠ g ∧ w.heap.size ≠ s ∧ w.heap.size ≠ q := (by have := K1.out.lt; show _ ∧ _ ∧ _; omega); clear hs hg hb)
  clear B1 K1
  go_wp2_with fail
  go_loopw [14, 44] (fun _ i w' => ∃ k : Nat, k ≤ n ∧ i = .int .i64 k ∧ Beg w g s q t (1 + a4) M w' ∧ Blk w' w.heap.size 31 p.cs) (fun _ i _ => n - (intOf i).toNat)
  case atStart => exact ⟨0, by omega, rfl, R2.out, K2.out⟩
  case round =>
    clear R2 K2
    obtain ⟨k, hk, rfl, hr, hkp⟩ := hrel
    have R3 := Lib.hid hr
    have K3 := Lib.hid hkp
    clear hr hkp
    by_cases hlt : k < n
    · obtain ⟨b, o, rfl, hra, hok, ho, hx⟩ := HA.out k hlt
      have HR : Hid (∀ W, Below w.heap.size w W → W.rangeAt b (o + k * 10) (.int .i64 (O k) :: ((P k).cs ++ [.int .i64 (X k)]))) := fun W hW j v hv => (hW.cell (World.block_lt_of_cell? w _ (hra j v hv))).trans (hra j v hv)
      clear hra
      have HT : Hid (IntKind.i64.wrap ((O k).tmod 1125899906842624) = (O k).tmod 1125899906842624) := tmod_wrap _
      have HTB : Hid (1 ≤ t ∧ (O k).tmod 1125899906842624 ≤ 1125899906842624) := ⟨ht.1, tmod_le _⟩
      go_upto_region 8 with fail
      have K30 : Hid (Blk wr.drew w.heap.size 31 p.cs) := K3.out
      refine wp_region_held_drew (S := fun W => W.rangeAt b (o + k * 10) (.int .i64 (O k) :: ((P k).cs ++ [.int .i64 (X k)]))) (by kernel_rfl) ?_ (fun _ => ?_)
      · exact HR.out _ (below_drewN R3.out.be 1)
      have HS0 : Hid (wr.drew.rangeAt b (o + k * 10) (.int .i64 (O k) :: ((P k).cs ++ [.int .i64 (X k)]))) := HR.out _ (below_drewN R3.out.be 1)
      have R30 : Hid (Beg w g s q t (1 + a4) M wr.drew) := R3.out.drew
      generalize wr.drew = x0 at *
      obtain ⟨V, hV, hv⟩ := R30.out
      have HV := Lib.hid hV
      have Hv := Lib.hid hv
      clear hV hv
      refine wpAnyH_take (i := 0) (oi := ⟨some 47, _, _, _, _, _⟩) (v := ?_) rfl (by kernel_rfl) (by kernel_rfl) (by kernel_rfl) (fun _ _ _ h => h) (Or.inl ⟨by rfl, ?_⟩) HS0.out ?_
      rotate_left
      · (intro W hSW; clear hSW; go_simp)
        first | done | (with_reducible rfl)
      try simp only [Act.put, List.setIfInBounds_toArray, List.set_cons_zero, List.set_cons_succ]
      refine wpAnyH_take (i := 1) (oi := ⟨some 48, _, _, _, _, _⟩) (v := ?_) rfl (by kernel_rfl) (by kernel_rfl) (by kernel_rfl) (fun _ _ _ h => h) (Or.inl ⟨by rfl, ?_⟩) HS0.out ?_
      rotate_left
      · (intro W hSW; clear hSW; go_simp)
        first | done | (with_reducible rfl)
      try simp only [Act.put, List.setIfInBounds_toArray, List.set_cons_zero, List.set_cons_succ]
      refine wpAnyH_take (i := 2) (oi := ⟨some 49, _, _, _, _, _⟩) (v := ?_) rfl (by kernel_rfl) (by kernel_rfl) (by kernel_rfl) (fun _ _ _ h => h) (Or.inl ⟨by rfl, ?_⟩) HS0.out ?_
      rotate_left
      · (intro W hSW; clear hSW; go_simp)
        first | done | (with_reducible rfl)
      try simp only [Act.put, List.setIfInBounds_toArray, List.set_cons_zero, List.set_cons_succ]
      refine wpAnyH_take (i := 3) (oi := ⟨some 50, _, _, _, _, _⟩) (v := ?_) rfl (by kernel_rfl) (by kernel_rfl) (by kernel_rfl) (fun _ _ _ h => h) (Or.inl ⟨by rfl, ?_⟩) HS0.out ?_
      rotate_left
      · (intro W hSW; clear hSW; go_simp)
        first | done | (with_reducible rfl)
      try simp only [Act.put, List.setIfInBounds_toArray, List.set_cons_zero, List.set_cons_succ]
      refine wpAnyH_take (i := 4) (oi := ⟨some 51, _, _, _, _, _⟩) (v := ?_) rfl (by kernel_rfl) (by kernel_rfl) (by kernel_rfl) (fun _ _ _ h => h) (Or.inl ⟨by rfl, ?_⟩) HS0.out ?_
      rotate_left
      · (intro W hSW; clear hSW; go_simp)
        first | done | (with_reducible rfl)
      try simp only [Act.put, List.setIfInBounds_toArray, List.set_cons_zero, List.set_cons_succ]
      refine wpAnyH_take (i := 5) (oi := ⟨some 52, _, _, _, _, _⟩) (v := .int .i64 (O k)) rfl (by kernel_rfl) (by kernel_rfl) (by kernel_rfl) (fun _ _ _ h => h) (Or.inl ⟨by rfl, ?_⟩) HS0.out ?_
      · (intro W hSW; have hc := seen_now hSW; clear hSW; go_simp)
      try simp only [Act.put, List.setIfInBounds_toArray, List.set_cons_zero, List.set_cons_succ]
      refine wpAnyH_take (i := 6) (oi := ⟨some 53, _, _, _, _, _⟩) (v := .int .i64 ((O k).tmod 1125899906842624)) rfl (by kernel_rfl) (by kernel_rfl) (by kernel_rfl) (fun _ _ _ h => h) (Or.inl ⟨by rfl, ?_⟩) HS0.out ?_
      · (intro W hSW; clear hSW; go_simp)
      try simp only [Act.put, List.setIfInBounds_toArray, List.set_cons_zero, List.set_cons_succ]
      refine wpAnyH_take (i := 7) (oi := ⟨some 54, _, _, _, _, _⟩) (v := ?_) rfl (by kernel_rfl) (by kernel_rfl) (by kernel_rfl) (fun _ _ _ h => h) (Or.inl ⟨by rfl, ?_⟩) HS0.out ?_
      rotate_left
      · (intro W hSW; clear hSW; go_simp)
        first | done | (with_reducible rfl)
      try simp only [Act.put, List.setIfInBounds_toArray, List.set_cons_zero, List.set_cons_succ]
      refine wpAnyH_take (i := 8) (oi := ⟨some 55, _, _, _, _, _⟩) (v := ?_) rfl (by kernel_rfl) (by kernel_rfl) (by kernel_rfl) (fun _ _ _ h => h) (Or.inl ⟨by rfl, ?_⟩) HS0.out ?_
      rotate_left
      · (intro W hSW; clear hSW; go_simp)
        first | done | (with_reducible rfl)
      try simp only [Act.put, List.setIfInBounds_toArray, List.set_cons_zero, List.set_cons_succ]
      refine wpAnyH_take (i := 9) (oi := ⟨some 56, _, _, _, _, _⟩) (v := ?_) rfl (by kernel_rfl) (by kernel_rfl) (by kernel_rfl) (fun _ _ _ h => h) (Or.inl ⟨by rfl, ?_⟩) HS0.out ?_
      rotate_left
      · (intro W hSW; clear hSW; go_simp)
        first | done | (with_reducible rfl)
      try simp only [Act.put, List.setIfInBounds_toArray, List.set_cons_zero, List.set_cons_succ]
      refine wpAnyH_take (i := 10) (oi := ⟨some 57, _, _, _, _, _⟩) (v := ?_) rfl (by kernel_rfl) (by kernel_rfl) (by kernel_rfl) (fun _ _ _ h => h) (Or.inl ⟨by rfl, ?_⟩) HS0.out ?_
      rotate_left
      · (intro W hSW; clear hSW; go_simp)
        first | done | (with_reducible rfl)
      try simp only [Act.put, List.setIfInBounds_toArray, List.set_cons_zero, List.set_cons_succ]
      refine wpAnyH_take (i := 11) (oi := ⟨some 58, _, _, _, _, _⟩) (v := .agg (P k).cs.toArray) rfl (by kernel_rfl) (by kernel_rfl) (by kernel_rfl) (fun _ _ _ h => h) (yields_pre (by rfl) (.tmp 57) rfl b (o + k * 10 + 1) rfl (P k) (fun _ h => seen_pre h)) HS0.out ?_
      try simp only [Act.put, List.setIfInBounds_toArray, List.set_cons_zero, List.set_cons_succ]
      refine wpAnyH_take (i := 12) (oi := ⟨some 59, _, _, _, _, _⟩) (v := ?_) rfl (by kernel_rfl) (by kernel_rfl) (by kernel_rfl) (fun _ _ _ h => h) (Or.inl ⟨by rfl, ?_⟩) HS0.out ?_
      rotate_left
      · (intro W hSW; clear hSW; go_simp)
        first | done | (with_reducible rfl)
      try simp only [Act.put, List.setIfInBounds_toArray, List.set_cons_zero, List.set_cons_succ]
      refine wpAnyH_take (i := 13) (oi := ⟨some 60, _, _, _, _, _⟩) (v := ?_) rfl (by kernel_rfl) (by kernel_rfl) (by kernel_rfl) (fun _ _ _ h => h) (Or.inl ⟨by rfl, ?_⟩) HS0.out ?_
      rotate_left
      · (intro W hSW; clear hSW; go_simp)
        first | done | (with_reducible rfl)
      try simp only [Act.put, List.setIfInBounds_toArray, List.set_cons_zero, List.set_cons_succ]
      refine wpAnyH_take (i := 14) (oi := ⟨some 61, _, _, _, _, _⟩) (v := ?_) rfl (by kernel_rfl) (by kernel_rfl) (by kernel_rfl) (fun _ _ _ h => h) (Or.inl ⟨by rfl, ?_⟩) HS0.out ?_
      rotate_left
      · (intro W hSW; clear hSW; go_simp)
        first | done | (with_reducible rfl)
      try simp only [Act.put, List.setIfInBounds_toArray, List.set_cons_zero, List.set_cons_succ]
      refine wpAnyH_take (i := 15) (oi := ⟨some 62, _, _, _, _, _⟩) (v := ?_) rfl (by kernel_rfl) (by kernel_rfl) (by kernel_rfl) (fun _ _ _ h => h) (Or.inl ⟨by rfl, ?_⟩) HS0.out ?_
      rotate_left
      · (intro W hSW; clear hSW; go_simp)
        first | done | (with_reducible rfl)
      try simp only [Act.put, List.setIfInBounds_toArray, List.set_cons_zero, List.set_cons_succ]
      refine wpAnyH_take (i := 16) (oi := ⟨some 63, _, _, _, _, _⟩) (v := .int .i64 (X k)) rfl (by kernel_rfl) (by kernel_rfl) (by kernel_rfl) (fun _ _ _ h => h) (Or.inl ⟨by rfl, ?_⟩) HS0.out ?_
      · (intro W hSW; have hc := seen_num hSW; clear hSW; go_simp)
      try simp only [Act.put, List.setIfInBounds_toArray, List.set_cons_zero, List.set_cons_succ]
      refine wpAnyH_ready (rs := [17]) (by kernel_rfl) (by simp) ?_
      refine AllReadyH.cons (o := ⟨some 64, _, _, _, _, _⟩) rfl (fun K hK => ?_) AllReadyH.nil
      go_simp
      refine (wadd_ g s q V ((O k).tmod 1125899906842624) (X k) (P k) x0 HV.out hok).mono ?_
      rintro e x1 ⟨rfl, hw, hf⟩
      have R4 : Hid (Beg w g s q t (1 + a4) M x1) := Hv.out.next hw hf HG.out HTB.out
      have K4 : Hid (Blk x1 w.heap.size 31 p.cs) := K30.out.far hf (fun e => by rcases e with e | e | e <;> omega)
      have HS1 : Hid (x1.rangeAt b (o + k * 10) (.int .i64 (O k) :: ((P k).cs ++ [.int .i64 (X k)]))) := HR.out _ R4.out.be
      clear hw hf
      go_simp
      refine hK.out _ _ ?_ (fun _ => ?_)
      · exact HS1.out
      clear hK K
      try simp only [Act.put, List.setIfInBounds_toArray, List.set_cons_zero, List.set_cons_succ]
      refine wpAnyH_done (by kernel_rfl) ?_ _
      go_wp2_with fail
      go_roundw
      case rel => exact ⟨k + 1, by omega, by go_num, R4.out, K4.out⟩
      case measure => simp [intOf]; omega
    · obtain rfl : k = n := by omega
      obtain ⟨V, hV, hv⟩ := R3.out
      have hno := hV.ok.no
      have hm0 : V.no ≤ V.no * t := by
        have := Int.mul_le_mul_of_nonneg_left ht.1 hno.1
        omega
      have hmt : (V.no + 1) * t = V.no * t + t := by rw [Int.add_mul, Int.one_mul]
      have hvn := hv.no
      have HE1 := Lib.hid (beg_first (p := p) (m := V.no + 1) hv (by omega) ht.1 (by omega) (by omega) hM1.1 b4)
      have HE2 := Lib.hid (beg_again (p := p) (M := M) (m := V.no + 1) (t := t) ht.1 (by omega) (by omega) (by omega) b4)
      have HN := Lib.hid (number_ g s q V wr hV)
      have HV := Lib.hid hV
      have B3 := Lib.hid hv.be
      have hq : V.no + 1 ≤ 1125899906842625 ∧ 0 ≤ (V.no + 1) * t ∧ (V.no + 1) * t ≤ 1127999418470400 := by omega
      have hmn : V.no = V.no + 1 - 1 := by omega
      clear hV hv hmt hvn hm0 R3
      obtain ⟨m, hm⟩ : ∃ m, V.no + 1 = m := ⟨_, rfl⟩
      rw [hm] at HE1 HE2 hq
      have hno2 : V.no = m - 1 := by omega
      rw [hno2] at HN hno
      have HX : Hid (IntKind.i64.wrap a4 = a4) := by show _ = _; rw [IntKind.wrap_i64] <;> omega
      have HW1 : Hid (IntKind.i64.wrap (m * t) = m * t) := by show _ = _; rw [IntKind.wrap_i64] <;> omega
      have HW2 : Hid (IntKind.i64.wrap (m * t + t) = m * t + t) := by show _ = _; rw [IntKind.wrap_i64] <;> omega
      have HW3 : Hid (IntKind.i64.wrap (m * t + t - 1) = m * t + t - 1) := by show _ = _; rw [IntKind.wrap_i64] <;> omega
      have HS := Lib.hid (Slo.Ok.mk (s := ⟨p, a4, 0⟩) hp ⟨b4.1, by show a4 ≤ _; omega⟩ num0)
      have HQ := Lib.hid (fun W => eq_slo32 HS.out HS.out W)
      rw [decide_eq_true (rfl : Slo.mk p a4 0 = Slo.mk p a4 0)] at HQ
      clear hm hmn hno2
      go_upto_region 11 with (go_at_call 11; (with_reducible refine HN.out.mono ?_); rintro e w3 ⟨rfl, rfl⟩)
      go_upto_region 13 with (first | (refine wpList_pre (by rfl) (.tmp 8) rfl _ _ rfl p (whole_at K3.out) ?_) | (go_at_call 9; (with_reducible refine (wadd_ g s q V (m * t) a4 p _ HV.out hp).mono ?_); rintro e w4 ⟨rfl, hs, hf⟩; rw [HE1.out.1] at hs; rw [HE1.out.2]; have S4 := Lib.hid hs; have K4 := Lib.hid (K3.out.far hf (fun e => by rcases e with e | e | e <;> omega)); have B4 : Hid (Below w.heap.size w w4) := below_tri B3.out hf HG.out.1 HG.out.2.1 HG.out.2.2 B3.out.size; clear hs hf) | (go_at_call 10; (with_reducible refine (wslots_one g s q ⟨t, 1 + a4, m, a4, M, [⟨p, a4, 0⟩]⟩ ⟨p, a4, 0⟩ _ S4.out rfl).mono ?_); rintro e w5 ⟨q2, c2, rfl, hb, hq2, hr⟩; have D5 := Lib.hid (S4.out.below hb); have B5 : Hid (Below w.heap.size w w5.drew) := (B4.out.trans (hb.mono B4.out.size)).drew; have R5 : Hid (w5.drew.rangeAt q2 0 (Slo.mk p a4 0).cs) := hr; have K5 : Hid (Blk w5.drew w.heap.size 31 p.cs) := K4.out.below hb.drew; have hlt4 : g < q2 ∧ s < q2 ∧ q < q2 ∧ w.heap.size < q2 := (by have l1 := S4.out.lt; have l2 := K4.out.lt; omega); clear hb hr))
      have D0 := Lib.hid D5.out.drew
      clear D5 S4 K4 B4 B3 K3 HV HN
      refine wp_region_held_drew (S := fun W => W.rangeAt q2 0 (Slo.mk p a4 0).cs ∧ Blk W w.heap.size 31 p.cs) (by kernel_rfl) ?_ (fun _ => ?_)
      · exact ⟨R5.out, K5.out⟩
      have HS0 : Hid (w5.drew.rangeAt q2 0 (Slo.mk p a4 0).cs ∧ Blk w5.drew w.heap.size 31 p.cs) := ⟨R5.out, K5.out⟩
      clear R5 K5
      generalize w5.drew = x0 at *
      refine wpAnyH_take (i := 0) (oi := ⟨some 79, _, _, _, _, _⟩) (v := ?_) rfl (by kernel_rfl) (by kernel_rfl) (by kernel_rfl) (fun _ _ _ h => h) (Or.inl ⟨by rfl, ?_⟩) HS0.out ?_
      rotate_left
      · (intro W hSW; clear hSW; go_simp)
        first | done | (with_reducible rfl)
      try simp only [Act.put, List.setIfInBounds_toArray, List.set_cons_zero, List.set_cons_succ]
      refine wpAnyH_take (i := 1) (oi := ⟨some 80, _, _, _, _, _⟩) (v := .bool true) rfl (by kernel_rfl) (by kernel_rfl) (by kernel_rfl) (fun _ _ _ h => h) (Or.inl ⟨by rfl, ?_⟩) HS0.out ?_
      · (intro W hSW; clear hSW; go_simp)
      try simp only [Act.put, List.setIfInBounds_toArray, List.set_cons_zero, List.set_cons_succ]
      refine wpAnyH_take (i := 2) (oi := ⟨some 81, _, _, _, _, _⟩) (v := ?_) rfl (by kernel_rfl) (by kernel_rfl) (by kernel_rfl) (fun _ _ _ h => h) (Or.inl ⟨by rfl, ?_⟩) HS0.out ?_
      rotate_left
      · (intro W hSW; clear hSW; go_simp)
        first | done | (with_reducible rfl)
      try simp only [Act.put, List.setIfInBounds_toArray, List.set_cons_zero, List.set_cons_succ]
      refine wpAnyH_take (i := 3) (oi := ⟨some 82, _, _, _, _, _⟩) (v := ?_) rfl (by kernel_rfl) (by kernel_rfl) (by kernel_rfl) (fun _ _ _ h => h) (Or.inl ⟨by rfl, ?_⟩) HS0.out ?_
      rotate_left
      · (intro W hSW; clear hSW; go_simp)
        first | done | (with_reducible rfl)
      try simp only [Act.put, List.setIfInBounds_toArray, List.set_cons_zero, List.set_cons_succ]
      refine wpAnyH_take (i := 5) (oi := ⟨some 84, _, _, _, _, _⟩) (v := ?_) rfl (by kernel_rfl) (by kernel_rfl) (by kernel_rfl) (fun _ _ _ h => h) (Or.inl ⟨by rfl, ?_⟩) HS0.out ?_
      rotate_left
      · (intro W hSW; clear hSW; go_simp)
        first | done | (with_reducible rfl)
      try simp only [Act.put, List.setIfInBounds_toArray, List.set_cons_zero, List.set_cons_succ]
      refine wpAnyH_ready (rs := [4]) (by kernel_rfl) (by simp) ?_
      refine AllReadyH.cons (o := ⟨some 83, _, _, _, _, _⟩) rfl (fun K hK => ?_) AllReadyH.nil
      go_simp
      refine (number_ g s q _ _ D0.out).mono ?_
      rintro e x1 ⟨rfl, hb⟩
      subst hb
      have HS1 := HS0
      clear HS0
      go_simp
      refine hK.out _ _ ?_ (fun _ => ?_)
      · exact HS1.out
      clear hK K
      try simp only [Act.put, List.setIfInBounds_toArray, List.set_cons_zero, List.set_cons_succ]
      refine wpAnyH_take (i := 6) (oi := ⟨some 85, _, _, _, _, _⟩) (v := .bool true) rfl (by kernel_rfl) (by kernel_rfl) (by kernel_rfl) (fun _ _ _ h => h) (Or.inl ⟨by rfl, ?_⟩) HS1.out ?_
      · (intro W hSW; clear hSW; go_simp)
      try simp only [Act.put, List.setIfInBounds_toArray, List.set_cons_zero, List.set_cons_succ]
      refine wpAnyH_take (i := 7) (oi := ⟨some 86, _, _, _, _, _⟩) (v := .bool true) rfl (by kernel_rfl) (by kernel_rfl) (by kernel_rfl) (fun _ _ _ h => h) (Or.inl ⟨by rfl, ?_⟩) HS1.out ?_
      · (intro W hSW; clear hSW; go_simp)
      try simp only [Act.put, List.setIfInBounds_toArray, List.set_cons_zero, List.set_cons_succ]
      refine wpAnyH_take (i := 8) (oi := ⟨some 87, _, _, _, _, _⟩) (v := ?_) rfl (by kernel_rfl) (by kernel_rfl) (by kernel_rfl) (fun _ _ _ h => h) (Or.inl ⟨by rfl, ?_⟩) HS1.out ?_
      rotate_left
      · (intro W hSW; clear hSW; go_simp)
        first | done | (with_reducible rfl)
      try simp only [Act.put, List.setIfInBounds_toArray, List.set_cons_zero, List.set_cons_succ]
      refine wpAnyH_take (i := 9) (oi := ⟨some 88, _, _, _, _, _⟩) (v := ?_) rfl (by kernel_rfl) (by kernel_rfl) (by kernel_rfl) (fun _ _ _ h => h) (Or.inl ⟨by rfl, ?_⟩) HS1.out ?_
      rotate_left
      · (intro W hSW; clear hSW; go_simp)
        first | done | (with_reducible rfl)
      try simp only [Act.put, List.setIfInBounds_toArray, List.set_cons_zero, List.set_cons_succ]
      refine wpAnyH_take (i := 10) (oi := ⟨some 89, _, _, _, _, _⟩) (v := ?_) rfl (by kernel_rfl) (by kernel_rfl) (by kernel_rfl) (fun _ _ _ h => h) (Or.inl ⟨by rfl, ?_⟩) HS1.out ?_
      rotate_left
      · (intro W hSW; clear hSW; go_simp)
        first | done | (with_reducible rfl)
      try simp only [Act.put, List.setIfInBounds_toArray, List.set_cons_zero, List.set_cons_succ]
      refine wpAnyH_take (i := 11) (oi := ⟨some 90, _, _, _, _, _⟩) (v := .bool true) rfl (by kernel_rfl) (by kernel_rfl) (by kernel_rfl) (fun _ _ _ h => h) (Or.inl ⟨by rfl, ?_⟩) HS1.out ?_
      · (intro W hSW; clear hSW; go_simp)
      try simp only [Act.put, List.setIfInBounds_toArray, List.set_cons_zero, List.set_cons_succ]
      refine wpAnyH_take (i := 12) (oi := ⟨some 91, _, _, _, _, _⟩) (v := .bool true) rfl (by kernel_rfl) (by kernel_rfl) (by kernel_rfl) (fun _ _ _ h => h) (Or.inl ⟨by rfl, ?_⟩) HS1.out ?_
      · (intro W hSW; clear hSW; go_simp)
      try simp only [Act.put, List.setIfInBounds_toArray, List.set_cons_zero, List.set_cons_succ]
      refine wpAnyH_take (i := 13) (oi := ⟨some 92, _, _, _, _, _⟩) (v := ?_) rfl (by kernel_rfl) (by kernel_rfl) (by kernel_rfl) (fun _ _ _ h => h) (Or.inl ⟨by rfl, ?_⟩) HS1.out ?_
      rotate_left
      · (intro W hSW; clear hSW; go_simp)
        first | done | (with_reducible rfl)
      try simp only [Act.put, List.setIfInBounds_toArray, List.set_cons_zero, List.set_cons_succ]
      refine wpAnyH_take (i := 14) (oi := ⟨some 93, _, _, _, _, _⟩) (v := ?_) rfl (by kernel_rfl) (by kernel_rfl) (by kernel_rfl) (fun _ _ _ h => h) (Or.inl ⟨by rfl, ?_⟩) HS1.out ?_
      rotate_left
      · (intro W hSW; clear hSW; go_simp)
        first | done | (with_reducible rfl)
      try simp only [Act.put, List.setIfInBounds_toArray, List.set_cons_zero, List.set_cons_succ]
      refine wpAnyH_take (i := 15) (oi := ⟨some 94, _, _, _, _, _⟩) (v := ?_) rfl (by kernel_rfl) (by kernel_rfl) (by kernel_rfl) (fun _ _ _ h => h) (Or.inl ⟨by rfl, ?_⟩) HS1.out ?_
      rotate_left
      · (intro W hSW; clear hSW; go_simp)
        first | done | (with_reducible rfl)
      try simp only [Act.put, List.setIfInBounds_toArray, List.set_cons_zero, List.set_cons_succ]
      refine wpAnyH_take (i := 16) (oi := ⟨some 95, _, _, _, _, _⟩) (v := .agg (Slo.mk p a4 0).cs.toArray) rfl (by kernel_rfl) (by kernel_rfl) (by kernel_rfl) (fun _ _ _ h => h) (yields_slo32 (by rfl) (.tmp 94) rfl q2 0 rfl (Slo.mk p a4 0) (fun _ h => h.1)) HS1.out ?_
      try simp only [Act.put, List.setIfInBounds_toArray, List.set_cons_zero, List.set_cons_succ]
      refine wpAnyH_take (i := 17) (oi := ⟨some 96, _, _, _, _, _⟩) (v := .agg p.cs.toArray) rfl (by kernel_rfl) (by kernel_rfl) (by kernel_rfl) (fun _ _ _ h => h) (yields_pre (by rfl) (.tmp 8) rfl w.heap.size 0 rfl p (fun _ h => whole_at h.2)) HS1.out ?_
      try simp only [Act.put, List.setIfInBounds_toArray, List.set_cons_zero, List.set_cons_succ]
      refine wpAnyH_take (i := 18) (oi := ⟨some 97, _, _, _, _, _⟩) (v := ?_) rfl (by kernel_rfl) (by kernel_rfl) (by kernel_rfl) (fun _ _ _ h => h) (Or.inl ⟨by rfl, ?_⟩) HS1.out ?_
      rotate_left
      · (intro W hSW; clear hSW; go_simp)
        first | done | (with_reducible rfl)
      try simp only [Act.put, List.setIfInBounds_toArray, List.set_cons_zero, List.set_cons_succ]
      refine wpAnyH_take (i := 19) (oi := ⟨some 98, _, _, _, _, _⟩) (v := .int .i64 a4) rfl (by kernel_rfl) (by kernel_rfl) (by kernel_rfl) (fun _ _ _ h => h) (Or.inl ⟨by rfl, ?_⟩) HS1.out ?_
      · (intro W hSW; clear hSW; go_simp)
        rw [HX.out]
      try simp only [Act.put, List.setIfInBounds_toArray, List.set_cons_zero, List.set_cons_succ]
      refine wpAnyH_take (i := 20) (oi := ⟨some 99, _, _, _, _, _⟩) (v := .agg (Slo.mk p a4 0).cs.toArray) rfl (by kernel_rfl) (by kernel_rfl) (by kernel_rfl) (fun _ _ _ h => h) (yields_build (by rfl) 52 [(0, .tmp 96), (1, .tmp 98)] rfl _ rfl _ (run_slo2 p a4)) HS1.out ?_
      try simp only [Act.put, List.setIfInBounds_toArray, List.set_cons_zero, List.set_cons_succ]
      refine wpAnyH_take (i := 21) (oi := ⟨some 100, _, _, _, _, _⟩) (v := .bool true) rfl (by kernel_rfl) (by kernel_rfl) (by kernel_rfl) (fun _ _ _ h => h) (yields_eql (by rfl) 52 (by kernel_rfl) (.tmp 95) (.tmp 99) 52 rfl _ _ (by rfl) (by rfl) true HQ.out) HS1.out ?_
      try simp only [Act.put, List.setIfInBounds_toArray, List.set_cons_zero, List.set_cons_succ]
      refine wpAnyH_take (i := 22) (oi := ⟨some 101, _, _, _, _, _⟩) (v := .bool true) rfl (by kernel_rfl) (by kernel_rfl) (by kernel_rfl) (fun _ _ _ h => h) (Or.inl ⟨by rfl, ?_⟩) HS1.out ?_
      · (intro W hSW; clear hSW; go_simp)
      try simp only [Act.put, List.setIfInBounds_toArray, List.set_cons_zero, List.set_cons_succ]
      refine wpAnyH_take (i := 23) (oi := ⟨some 102, _, _, _, _, _⟩) (v := ?_) rfl (by kernel_rfl) (by kernel_rfl) (by kernel_rfl) (fun _ _ _ h => h) (Or.inl ⟨by rfl, ?_⟩) HS1.out ?_
      rotate_left
      · (intro W hSW; clear hSW; go_simp)
        first | done | (with_reducible rfl)
      try simp only [Act.put, List.setIfInBounds_toArray, List.set_cons_zero, List.set_cons_succ]
      refine wpAnyH_take (i := 24) (oi := ⟨some 103, _, _, _, _, _⟩) (v := ?_) rfl (by kernel_rfl) (by kernel_rfl) (by kernel_rfl) (fun _ _ _ h => h) (Or.inl ⟨by rfl, ?_⟩) HS1.out ?_
      rotate_left
      · (intro W hSW; clear hSW; go_simp)
        first | done | (with_reducible rfl)
      try simp only [Act.put, List.setIfInBounds_toArray, List.set_cons_zero, List.set_cons_succ]
      refine wpAnyH_take (i := 25) (oi := ⟨some 104, _, _, _, _, _⟩) (v := ?_) rfl (by kernel_rfl) (by kernel_rfl) (by kernel_rfl) (fun _ _ _ h => h) (Or.inl ⟨by rfl, ?_⟩) HS1.out ?_
      rotate_left
      · (intro W hSW; clear hSW; go_simp)
        first | done | (with_reducible rfl)
      try simp only [Act.put, List.setIfInBounds_toArray, List.set_cons_zero, List.set_cons_succ]
      refine wpAnyH_take (i := 26) (oi := ⟨some 105, _, _, _, _, _⟩) (v := ?_) rfl (by kernel_rfl) (by kernel_rfl) (by kernel_rfl) (fun _ _ _ h => h) (Or.inl ⟨by rfl, ?_⟩) HS1.out ?_
      rotate_left
      · (intro W hSW; clear hSW; go_simp)
        first | done | (with_reducible rfl)
      try simp only [Act.put, List.setIfInBounds_toArray, List.set_cons_zero, List.set_cons_succ]
      refine wpAnyH_take (i := 27) (oi := ⟨some 106, _, _, _, _, _⟩) (v := .int .i64 (m * t)) rfl (by kernel_rfl) (by kernel_rfl) (by kernel_rfl) (fun _ _ _ h => h) (Or.inl ⟨by rfl, ?_⟩) HS1.out ?_
      · (intro W hSW; clear hSW; go_simp)
        rw [HW1.out]
      try simp only [Act.put, List.setIfInBounds_toArray, List.set_cons_zero, List.set_cons_succ]
      refine wpAnyH_take (i := 28) (oi := ⟨some 107, _, _, _, _, _⟩) (v := ?_) rfl (by kernel_rfl) (by kernel_rfl) (by kernel_rfl) (fun _ _ _ h => h) (Or.inl ⟨by rfl, ?_⟩) HS1.out ?_
      rotate_left
      · (intro W hSW; clear hSW; go_simp)
        first | done | (with_reducible rfl)
      try simp only [Act.put, List.setIfInBounds_toArray, List.set_cons_zero, List.set_cons_succ]
      refine wpAnyH_take (i := 29) (oi := ⟨some 108, _, _, _, _, _⟩) (v := .int .i64 (m * t + t)) rfl (by kernel_rfl) (by kernel_rfl) (by kernel_rfl) (fun _ _ _ h => h) (Or.inl ⟨by rfl, ?_⟩) HS1.out ?_
      · (intro W hSW; clear hSW; go_simp)
        rw [HW2.out]
      try simp only [Act.put, List.setIfInBounds_toArray, List.set_cons_zero, List.set_cons_succ]
      refine wpAnyH_take (i := 30) (oi := ⟨some 109, _, _, _, _, _⟩) (v := .int .i64 (m * t + t - 1)) rfl (by kernel_rfl) (by kernel_rfl) (by kernel_rfl) (fun _ _ _ h => h) (Or.inl ⟨by rfl, ?_⟩) HS1.out ?_
      · (intro W hSW; clear hSW; go_simp)
        rw [HW3.out]
      try simp only [Act.put, List.setIfInBounds_toArray, List.set_cons_zero, List.set_cons_succ]
      refine wpAnyH_take (i := 31) (oi := ⟨some 110, _, _, _, _, _⟩) (v := .agg p.cs.toArray) rfl (by kernel_rfl) (by kernel_rfl) (by kernel_rfl) (fun _ _ _ h => h) (yields_pre (by rfl) (.tmp 8) rfl w.heap.size 0 rfl p (fun _ h => whole_at h.2)) HS1.out ?_
      try simp only [Act.put, List.setIfInBounds_toArray, List.set_cons_zero, List.set_cons_succ]
      refine wpAnyH_ready (rs := [32]) (by kernel_rfl) (by simp) ?_
      refine AllReadyH.cons (o := ⟨some 111, _, _, _, _, _⟩) rfl (fun K hK => ?_) AllReadyH.nil
      go_simp
      refine (wadd_ g s q ⟨t, 1 + a4, m, a4, M, [⟨p, a4, 0⟩]⟩ (m * t + t - 1) 1 p _ D0.out hp).mono ?_
      rintro e x2 ⟨rfl, hw, hf⟩
      rw [HE2.out.1] at hw
      rw [HE2.out.2]
      have D1 := Lib.hid hw
      have F1 := Lib.hid hf
      have HS2 : Hid (x2.rangeAt q2 0 (Slo.mk p a4 0).cs ∧ Blk x2 w.heap.size 31 p.cs) := ⟨fun j v hv => (World.cell?_of_block (hf.block _ (World.block_lt_of_cell? _ _ (HS1.out.1 j v hv)) (by rintro (e | e | e) <;> dsimp only at e <;> omega))).trans (HS1.out.1 j v hv), HS1.out.2.far hf (by rintro (e | e | e) <;> omega)⟩
      have B6 : Hid (Below w.heap.size w x2) := below_tri B5.out hf HG.out.1 HG.out.2.1 HG.out.2.2 B5.out.size
      clear D0
      clear hw hf
      go_simp
      refine hK.out _ _ ?_ (fun _ => ?_)
      · exact HS2.out
      clear hK K
      try simp only [Act.put, List.setIfInBounds_toArray, List.set_cons_zero, List.set_cons_succ]
      refine wpAnyH_take (i := 33) (oi := ⟨some 112, _, _, _, _, _⟩) (v := .bool true) rfl (by kernel_rfl) (by kernel_rfl) (by kernel_rfl) (fun _ _ _ h => h) (Or.inl ⟨by rfl, ?_⟩) HS2.out ?_
      · (intro W hSW; clear hSW; go_simp)
      try simp only [Act.put, List.setIfInBounds_toArray, List.set_cons_zero, List.set_cons_succ]
      refine wpAnyH_take (i := 34) (oi := ⟨some 113, _, _, _, _, _⟩) (v := ?_) rfl (by kernel_rfl) (by kernel_rfl) (by kernel_rfl) (fun _ _ _ h => h) (Or.inl ⟨by rfl, ?_⟩) HS2.out ?_
      rotate_left
      · (intro W hSW; clear hSW; go_simp)
        first | done | (with_reducible rfl)
      try simp only [Act.put, List.setIfInBounds_toArray, List.set_cons_zero, List.set_cons_succ]
      refine wpAnyH_take (i := 35) (oi := ⟨some 114, _, _, _, _, _⟩) (v := ?_) rfl (by kernel_rfl) (by kernel_rfl) (by kernel_rfl) (fun _ _ _ h => h) (Or.inl ⟨by rfl, ?_⟩) HS2.out ?_
      rotate_left
      · (intro W hSW; clear hSW; go_simp)
        first | done | (with_reducible rfl)
      try simp only [Act.put, List.setIfInBounds_toArray, List.set_cons_zero, List.set_cons_succ]
      refine wpAnyH_take (i := 37) (oi := ⟨some 116, _, _, _, _, _⟩) (v := ?_) rfl (by kernel_rfl) (by kernel_rfl) (by kernel_rfl) (fun _ _ _ h => h) (Or.inl ⟨by rfl, ?_⟩) HS2.out ?_
      rotate_left
      · (intro W hSW; clear hSW; go_simp)
        first | done | (with_reducible rfl)
      try simp only [Act.put, List.setIfInBounds_toArray, List.set_cons_zero, List.set_cons_succ]
      refine wpAnyH_ready (rs := [36]) (by kernel_rfl) (by simp) ?_
      refine AllReadyH.cons (o := ⟨some 115, _, _, _, _, _⟩) rfl (fun K hK => ?_) AllReadyH.nil
      go_simp
      refine (number_ g s q _ _ D1.out).mono ?_
      rintro e x3 ⟨rfl, hb⟩
      subst hb
      have HS3 := HS2
      clear HS2
      go_simp
      refine hK.out _ _ ?_ (fun _ => ?_)
      · exact HS3.out
      clear hK K
      try simp only [Act.put, List.setIfInBounds_toArray, List.set_cons_zero, List.set_cons_succ]
      refine wpAnyH_take (i := 38) (oi := ⟨some 117, _, _, _, _, _⟩) (v := .bool true) rfl (by kernel_rfl) (by kernel_rfl) (by kernel_rfl) (fun _ _ _ h => h) (Or.inl ⟨by rfl, ?_⟩) HS3.out ?_
      · (intro W hSW; clear hSW; go_simp)
      try simp only [Act.put, List.setIfInBounds_toArray, List.set_cons_zero, List.set_cons_succ]
      refine wpAnyH_take (i := 39) (oi := ⟨some 118, _, _, _, _, _⟩) (v := .bool true) rfl (by kernel_rfl) (by kernel_rfl) (by kernel_rfl) (fun _ _ _ h => h) (Or.inl ⟨by rfl, ?_⟩) HS3.out ?_
      · (intro W hSW; clear hSW; go_simp)
      try simp only [Act.put, List.setIfInBounds_toArray, List.set_cons_zero, List.set_cons_succ]
      refine wpAnyH_take (i := 40) (oi := ⟨some 10, _, _, _, _, _⟩) (v := ?_) rfl (by kernel_rfl) (by kernel_rfl) (by kernel_rfl) (fun _ _ _ h => h) (Or.inl ⟨by rfl, ?_⟩) HS3.out ?_
      rotate_left
      · (intro W hSW; clear hSW; go_simp)
        first | done | (with_reducible rfl)
      try simp only [Act.put, List.setIfInBounds_toArray, List.set_cons_zero, List.set_cons_succ]
      refine wpAnyH_done (by kernel_rfl) ?_ _
      go_wp2_with fail
      go_ret
      exact ⟨rfl, B6.out⟩
end Go.Proofs.Yteeobeeoefokdaa
