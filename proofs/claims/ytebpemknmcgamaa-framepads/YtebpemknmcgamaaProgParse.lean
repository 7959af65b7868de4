/- The contract of the program's Parse of a frame. Conditions: those of each theorem. -/
import Derived.Test.YtebpemknmcgamaaProgFlow
import Derived.Test.YtebpemknmcgamaaProgPrefix
namespace Go.Proofs.Ytebpemknmcgamaa
open Go.RowKit

theorem sizeOflink : (Try.prog.info? 46).map (·.size) = some 2 := by kernel_rfl
/-- A link's cells. -/
def lnk (v : Bool) (a : Nat) : List Value := [.bool v, .int .i64 ((a : Nat) : Int)]
theorem lnk_each {v : Bool} {a : Nat} : ∀ u ∈ lnk v a, u.oneCell' = true := by
  intro u hu
  simp only [lnk, List.mem_cons, List.not_mem_nil, or_false] at hu
  rcases hu with rfl | rfl <;> rfl
theorem wpList_link {ops : Array Oper} {rest : List Oper} {o : Oper} {a : Act} {Q : Exit → Act → World → Prop} (hgd : o.guard = none) (x y : Operand) (ho : o.op = .store 46 x y) (z : World) (xs : List Value)
    (hx : a.eval x = .pointer (some ⟨z.heap.size, 0, none⟩)) (hy : a.eval y = .agg xs.toArray) (hxl : xs.length = 2) (h1 : xs.toArray.all (·.oneCell') = true)
    (h : ∀ w', Hid (Blk w' z.heap.size 46 xs) → Hid (Below z.heap.size z w') → wpList Try.prog ops Q rest (a.put o.dst undef) w') : wpList Try.prog ops Q (o :: rest) a (z.alloc (.cells #[.bool false, .int .i64 0] 46)) :=
  wpList_lay hgd 46 2 sizeOflink x y ho z.heap.size xs hx hy 46 (lnk false 0) (Blk.new z 46 (lnk false 0)) rfl hxl h1 fun w' hb hf =>
    h w' hb (below_only ((Below.refl _ _).alloc (Nat.le_refl _) _) hf.out (Nat.le_refl _) (by simp))
theorem flw_length {v : Bool} {bs : List Int} {F : List Value} {r : Nat} (h : flw v (nt v bs) = (F, r)) : F.length = 36 ∧ ∀ u ∈ F, u.oneCell' = true := by
  unfold flw at h
  split at h
  · simp only [Prod.mk.injEq] at h
    obtain ⟨rfl, _⟩ := h
    exact ⟨rfl, flo_each⟩
  · split at h
    · simp only [Prod.mk.injEq] at h
      obtain ⟨rfl, _⟩ := h
      exact ⟨rfl, flo_each⟩
    · simp only [Prod.mk.injEq] at h
      obtain ⟨rfl, _⟩ := h
      exact ⟨flo_length (nt_src _ _) (nt_dst _ _), flo_each⟩
/-- The answer for a frame by its flow's. -/
theorem pk_flw {bs : List Int} {v : Bool} {a r : Nat} {F : List Value} (h : bs.length ≤ 9216) (hL : ether.look bs 3 12 = (v, a, 0)) (hF : flw v (nt v (bs.drop a)) = (F, r)) :
    (r ≠ 0 ∧ pk bs = (pak0, r)) ∨ (r = 0 ∧ ∃ q s d x y, Sixteen s ∧ Sixteen d ∧ x ≤ 65535 ∧ y ≤ 65535 ∧ F = flo v q s d x y ∧ pk bs = (pak bs.length v q s d x y, 0)) ∨ ¬ Octs bs := by
  by_cases ho : Octs bs
  · refine (or_assoc).1 (.inl ?_)
    obtain ⟨R, hR⟩ : ∃ R, nt v (bs.drop a) = R := ⟨_, rfl⟩
    have S1 : Sixteen R.s := by rw [← hR]; exact nt_src _ _
    have S2 : Sixteen R.d := by rw [← hR]; exact nt_dst _ _
    have HOK : Octs R.ks := by rw [← hR]; exact nt_octs v (ho.drop a)
    rw [hR] at hF
    by_cases h9 : R.r ≠ 0
    · rw [flw, if_pos h9] at hF
      simp only [Prod.mk.injEq] at hF
      obtain ⟨_, rfl⟩ := hF
      exact .inl ⟨h9, pk_net h hL hR h9⟩
    · obtain ⟨⟨x, y, z⟩, hQ⟩ : ∃ Q, ports.look v R.q R.f R.ks = Q := ⟨_, rfl⟩
      obtain ⟨bx, by_, _⟩ := ports.look_cases HOK hQ
      rw [flw, if_neg h9, hQ] at hF
      by_cases h11 : z ≠ 0
      · rw [if_pos h11] at hF
        simp only [Prod.mk.injEq] at hF
        obtain ⟨_, rfl⟩ := hF
        exact .inl ⟨h11, pk_port h hL hR (by omega) hQ h11⟩
      · obtain rfl : z = 0 := by omega
        rw [if_neg (by simp)] at hF
        simp only [Prod.mk.injEq] at hF
        obtain ⟨rfl, rfl⟩ := hF
        exact .inr ⟨rfl, R.q, R.s, R.d, x, y, S1, S2, bx, by_, rfl, pk_fine h hL hR (by omega) hQ⟩
  · exact .inr (.inr ho)

set_option maxRecDepth 100000 in
set_option maxHeartbeats 8000000 in
theorem progParse_any (A : Option Addr) (n c r : Nat) (bs : List Int) (P : List Value) (w : World) (h : Byts w A n bs) (ho : Octs bs) (hm : n ≤ 9223372036854775807) (hc : n ≤ c) (hP : pk bs = (P, r)) :
    Calls Try.prog 10 #[.slice A n c] w (FrameOut w P r) := by
  have hbn := h.1
  have L1 : Hid (Blk (w.alloc (.cells #[.int .i64 0, .bool false, .int .u8 0, .int .u8 0, .int .u8 0, .int .u8 0, .int .u8 0, .int .u8 0, .int .u8 0, .int .u8 0, .int .u8 0, .int .u8 0, .int .u8 0, .int .u8 0, .int .u8 0, .int .u8 0, .int .u8 0, .int .u8 0, .int .u8 0, .int .u8 0, .int .u8 0, .int .u8 0, .int .u8 0, .int .u8 0, .int .u8 0, .int .u8 0, .int .u8 0, .int .u8 0, .int .u8 0, .int .u8 0, .int .u8 0, .int .u8 0, .int .u8 0, .int .u8 0, .int .u8 0, .int .u16 0, .int .u16 0, .bool false, .int .u8 0, .int .u8 0, .int .u8 0, .int .u8 0, .int .u8 0, .int .u8 0, .int .u8 0, .int .i64 0] 32)) w.heap.size 32 pak0) := new_packet w
  have W1 : Hid (Below w.heap.size w (w.alloc (.cells #[.int .i64 0, .bool false, .int .u8 0, .int .u8 0, .int .u8 0, .int .u8 0, .int .u8 0, .int .u8 0, .int .u8 0, .int .u8 0, .int .u8 0, .int .u8 0, .int .u8 0, .int .u8 0, .int .u8 0, .int .u8 0, .int .u8 0, .int .u8 0, .int .u8 0, .int .u8 0, .int .u8 0, .int .u8 0, .int .u8 0, .int .u8 0, .int .u8 0, .int .u8 0, .int .u8 0, .int .u8 0, .int .u8 0, .int .u8 0, .int .u8 0, .int .u8 0, .int .u8 0, .int .u8 0, .int .u8 0, .int .u16 0, .int .u16 0, .bool false, .int .u8 0, .int .u8 0, .int .u8 0, .int .u8 0, .int .u8 0, .int .u8 0, .int .u8 0, .int .i64 0] 32))) := (Below.refl _ w).alloc (Nat.le_refl _) _
  have H := Lib.hid h
  have HO := Lib.hid ho
  have HP := Lib.hid hP
  have hb0 := run_pak0
  have LZ : Hid (pak0.length = 46) := (rfl : _ = _)
  clear h ho hP
  go_enter Try.func10, Try.ntmps10
  go_upto_region 1 with (fail)
  generalize (w.alloc (.cells #[.int .i64 0, .bool false, .int .u8 0, .int .u8 0, .int .u8 0, .int .u8 0, .int .u8 0, .int .u8 0, .int .u8 0, .int .u8 0, .int .u8 0, .int .u8 0, .int .u8 0, .int .u8 0, .int .u8 0, .int .u8 0, .int .u8 0, .int .u8 0, .int .u8 0, .int .u8 0, .int .u8 0, .int .u8 0, .int .u8 0, .int .u8 0, .int .u8 0, .int .u8 0, .int .u8 0, .int .u8 0, .int .u8 0, .int .u8 0, .int .u8 0, .int .u8 0, .int .u8 0, .int .u8 0, .int .u8 0, .int .u16 0, .int .u16 0, .bool false, .int .u8 0, .int .u8 0, .int .u8 0, .int .u8 0, .int .u8 0, .int .u8 0, .int .u8 0, .int .i64 0] 32)) = w1 at *
  by_cases hlong : 9216 < n
  · obtain ⟨rfl, rfl⟩ : pak0 = P ∧ 7 = r := by
      have := HP.out
      rw [pk_long (by omega)] at this
      simpa using this
    have hd1 : decide ((9216 : Int) < (n : Int)) = true := by simp; omega
    have hd2 : decide (9216 < n) = true := by simpa using hlong
    go_wp2_with (first | (refine wpList_lay rfl 32 46 sizeOfpacket (.tmp 2) (.tmp 10) rfl w.heap.size pak0 rfl rfl 32 pak0 L1.out LZ.out LZ.out (one_all pak_each) ?_; intro wf BF FF))
    refine bodyPost_ret (v := .tuple #[.agg pak0.toArray, .int .i64 7]) (by simp [results, Try.results10, asAddr, load_packet BF.out LZ.out]) rfl ⟨?_, below_only W1.out FF.out (Nat.le_refl _) W1.out.size⟩
    rfl
  · have hd1 : decide ((9216 : Int) < (n : Int)) = false := by simp; omega
    have hd2 : decide (9216 < n) = false := by simp; omega
    obtain ⟨⟨v, a, r8⟩, hL⟩ : ∃ R, ether.look bs 3 12 = R := ⟨_, rfl⟩
    have HL := Lib.hid hL
    clear hL
    go_upto_region 4 with (first | (go_at_call 16; (with_reducible refine (ether.parse_any A n c bs v a r8 _ (H.out.below W1.out) HO.out hc HL.out).mono ?_); rintro e x1 ⟨rfl, hb⟩; have L2 := Lib.hid (kept L1.out hb); have W2 : Hid (Below w.heap.size w x1) := W1.out.trans (hb.mono W1.out.size); clear hb) | (refine wpList_link rfl (.tmp 4) (.tmp 14) rfl x1 (lnk v a) rfl rfl rfl (one_all lnk_each) ?_; intro x2 V2 hb2; have L3 := Lib.hid (kept L2.out hb2.out); have W3 : Hid (Below w.heap.size w x2) := W2.out.trans (hb2.out.mono W2.out.size); clear hb2))
    have hg1 : w.heap.size + 1 ≤ x1.heap.size := by have := L2.out.lt; omega
    clear L1 W1 L2 W2
    generalize x1.heap.size = G at *
    by_cases h8 : r8 ≠ 0
    · obtain ⟨rfl, rfl⟩ : pak0 = P ∧ r8 = r := by
        have := HP.out
        rw [pk_link (by omega) HL.out h8] at this
        simpa using this
      have hne : ((r8 : Int) != 0) = true := by simp; omega
      go_wp2_with (first | (refine wpList_lay rfl 32 46 sizeOfpacket (.tmp 2) (.tmp 18) rfl w.heap.size pak0 rfl rfl 32 pak0 L3.out LZ.out LZ.out (one_all pak_each) ?_; intro wf BF FF))
      refine bodyPost_ret (v := .tuple #[.agg pak0.toArray, .int .i64 ((r8 : Nat) : Int)]) (by simp [results, Try.results10, asAddr, load_packet BF.out LZ.out]) rfl ⟨?_, below_only W3.out FF.out (Nat.le_refl _) W3.out.size⟩
      rfl
    · obtain rfl : r8 = 0 := by omega
      have ha := look_in _ _ HL.out
      obtain ⟨Z, hcut0, hz⟩ := six.from_z (A := A) (bs := bs) (show a ≤ n by omega) hc
      obtain ⟨⟨F, r9⟩, hF⟩ : ∃ R, flw v (nt v (bs.drop a)) = R := ⟨_, rfl⟩
      have HFL := Lib.hid (flw_length hF)
      have HPK := Lib.hid (pk_flw (by omega) HL.out hF)
      have CF : Hid (∀ W, Below w.heap.size w W → Calls Try.prog 17 #[.bool v, .slice Z (n - a) (c - a)] W fun e w' => e = .returned (.tuple #[.agg F.toArray, .int .i64 ((r9 : Nat) : Int)]) ∧ Below W.heap.size W w') := fun W hW =>
        flow_any v Z (n - a) (c - a) r9 (bs.drop a) F W (hz _ (H.out.below hW)) (HO.out.drop a) (by omega) (by omega) hF
      clear hz hF
      go_upto_region 6 with (fail)
      go_cut [5, 6] from 20 to 29 (fun u p wx => u = .int .i64 ((r9 : Nat) : Int) ∧ ∃ g, p = .pointer (some ⟨g, 0, none⟩) ∧ w.heap.size < g ∧ Blk wx g 27 F ∧ Blk wx w.heap.size 32 pak0 ∧ Below w.heap.size w wx)
      case first =>
        refine wp_region_noPanic ?_
        refine wp_region_held_drew (S := (fun W : World => W.cell? ⟨G, 0, none⟩ = some (.bool v) ∧ W.cell? ⟨G, 1, none⟩ = some (.int .i64 ((a : Nat) : Int)))) (by kernel_rfl) ?_ (fun hHeld => ?_)
        · exact ⟨((show Blk x2.drew G 46 (lnk v a) from V2.out).cell 0).trans rfl, ((show Blk x2.drew G 46 (lnk v a) from V2.out).cell 1).trans rfl⟩
        refine wpAnyH_take (i := 0) (oi := ⟨some 21, _, _, _, _, _⟩) (v := .pointer (some ⟨G, 0, none⟩)) rfl (by kernel_rfl) (by kernel_rfl) (by kernel_rfl) (fun _ _ _ h => h) (Or.inl ⟨by rfl, ?_⟩) (by assumption) ?_
        · (intro W hSw; have q0 := hSw.1; have q1 := hSw.2; clear hSw; go_simp)
        try simp only [Act.put, List.setIfInBounds_toArray, List.set_cons_zero, List.set_cons_succ]
        refine wpAnyH_take (i := 1) (oi := ⟨some 22, _, _, _, _, _⟩) (v := .bool v) rfl (by kernel_rfl) (by kernel_rfl) (by kernel_rfl) (fun _ _ _ h => h) (Or.inl ⟨by rfl, ?_⟩) (by assumption) ?_
        · (intro W hSw; have q0 := hSw.1; have q1 := hSw.2; clear hSw; go_simp)
        try simp only [Act.put, List.setIfInBounds_toArray, List.set_cons_zero, List.set_cons_succ]
        refine wpAnyH_take (i := 2) (oi := ⟨some 23, _, _, _, _, _⟩) (v := .slice A n c) rfl (by kernel_rfl) (by kernel_rfl) (by kernel_rfl) (fun _ _ _ h => h) (Or.inl ⟨by rfl, ?_⟩) (by assumption) ?_
        · (intro W hSw; have q0 := hSw.1; have q1 := hSw.2; clear hSw; go_simp)
        try simp only [Act.put, List.setIfInBounds_toArray, List.set_cons_zero, List.set_cons_succ]
        refine wpAnyH_take (i := 3) (oi := ⟨some 24, _, _, _, _, _⟩) (v := .pointer (some ⟨G, 1, none⟩)) rfl (by kernel_rfl) (by kernel_rfl) (by kernel_rfl) (fun _ _ _ h => h) (Or.inl ⟨by rfl, ?_⟩) (by assumption) ?_
        · (intro W hSw; have q0 := hSw.1; have q1 := hSw.2; clear hSw; go_simp)
        try simp only [Act.put, List.setIfInBounds_toArray, List.set_cons_zero, List.set_cons_succ]
        refine wpAnyH_take (i := 4) (oi := ⟨some 25, _, _, _, _, _⟩) (v := .int .i64 ((a : Nat) : Int)) rfl (by kernel_rfl) (by kernel_rfl) (by kernel_rfl) (fun _ _ _ h => h) (Or.inl ⟨by rfl, ?_⟩) (by assumption) ?_
        · (intro W hSw; have q0 := hSw.1; have q1 := hSw.2; clear hSw; go_simp)
        try simp only [Act.put, List.setIfInBounds_toArray, List.set_cons_zero, List.set_cons_succ]
        refine wpAnyH_take (i := 5) (oi := ⟨some 26, _, _, _, _, _⟩) (v := .slice Z (n - a) (c - a)) rfl (by kernel_rfl) (by kernel_rfl) (by kernel_rfl) (fun _ _ _ h => h) (Or.inl ⟨by rfl, ?_⟩) (by assumption) ?_
        · (intro W hSw; have q0 := hSw.1; have q1 := hSw.2; clear hSw; go_simp)
        try simp only [Act.put, List.setIfInBounds_toArray, List.set_cons_zero, List.set_cons_succ]
        refine wpAnyH_ready (rs := [6, 10]) (by kernel_rfl) (by simp) ?_
        refine AllReadyH.cons (o := ⟨some 27, _, _, _, _, _⟩) rfl (fun K hK => ?_) (AllReadyH.cons (o := ⟨some 6, _, _, _, _, _⟩) rfl (fun K hK => ?_) (AllReadyH.nil))
        · go_simp
          refine (CF.out _ W3.out.drew).mono ?_
          rintro e y1 ⟨rfl, hb⟩
          have L4 := Lib.hid (kept (w := x2.drew) L3.out hb)
          have V4 := Lib.hid (kept (w := x2.drew) V2.out hb)
          have W4 : Hid (Below w.heap.size w y1) := W3.out.drew.trans (hb.mono W3.out.size)
          clear hb
          go_simp
          refine hK.out _ _ ?_ (fun hHeld => ?_)
          · exact ⟨(V4.out.cell 0).trans rfl, (V4.out.cell 1).trans rfl⟩
          clear hK K
          try simp only [Act.put, List.setIfInBounds_toArray, List.set_cons_zero, List.set_cons_succ]
          refine wpAnyH_take (i := 7) (oi := ⟨some 20, _, _, _, _, _⟩) (v := .tuple #[.agg F.toArray, .int .i64 ((r9 : Nat) : Int)]) rfl (by kernel_rfl) (by kernel_rfl) (by kernel_rfl) (fun _ _ _ h => h) (Or.inl ⟨by rfl, ?_⟩) (by assumption) ?_
          · (intro W hSw; have q0 := hSw.1; have q1 := hSw.2; clear hSw; go_simp)
          try simp only [Act.put, List.setIfInBounds_toArray, List.set_cons_zero, List.set_cons_succ]
          refine wpAnyH_take (i := 8) (oi := ⟨some 28, _, _, _, _, _⟩) (v := .agg F.toArray) rfl (by kernel_rfl) (by kernel_rfl) (by kernel_rfl) (fun _ _ _ h => h) (Or.inl ⟨by rfl, ?_⟩) (by assumption) ?_
          · (intro W hSw; have q0 := hSw.1; have q1 := hSw.2; clear hSw; go_simp)
          try simp only [Act.put, List.setIfInBounds_toArray, List.set_cons_zero, List.set_cons_succ]
          refine wpAnyH_take (i := 9) (oi := ⟨some 29, _, _, _, _, _⟩) (v := .int .i64 ((r9 : Nat) : Int)) rfl (by kernel_rfl) (by kernel_rfl) (by kernel_rfl) (fun _ _ _ h => h) (Or.inl ⟨by rfl, ?_⟩) (by assumption) ?_
          · (intro W hSw; have q0 := hSw.1; have q1 := hSw.2; clear hSw; go_simp)
          try simp only [Act.put, List.setIfInBounds_toArray, List.set_cons_zero, List.set_cons_succ]
          refine wpAnyH_ready (rs := [10]) (by kernel_rfl) (by simp) ?_
          refine AllReadyH.cons (o := ⟨some 6, _, _, _, _, _⟩) rfl (fun K hK => ?_) (AllReadyH.nil)
          go_simp
          have L5 := Lib.hid (show Blk (y1.alloc (.cells #[.bool false, .int .u8 0, .int .u8 0, .int .u8 0, .int .u8 0, .int .u8 0, .int .u8 0, .int .u8 0, .int .u8 0, .int .u8 0, .int .u8 0, .int .u8 0, .int .u8 0, .int .u8 0, .int .u8 0, .int .u8 0, .int .u8 0, .int .u8 0, .int .u8 0, .int .u8 0, .int .u8 0, .int .u8 0, .int .u8 0, .int .u8 0, .int .u8 0, .int .u8 0, .int .u8 0, .int .u8 0, .int .u8 0, .int .u8 0, .int .u8 0, .int .u8 0, .int .u8 0, .int .u8 0, .int .u16 0, .int .u16 0] 27)) w.heap.size 32 pak0 from L4.out.alloc _)
          have V5 := Lib.hid (show Blk (y1.alloc (.cells #[.bool false, .int .u8 0, .int .u8 0, .int .u8 0, .int .u8 0, .int .u8 0, .int .u8 0, .int .u8 0, .int .u8 0, .int .u8 0, .int .u8 0, .int .u8 0, .int .u8 0, .int .u8 0, .int .u8 0, .int .u8 0, .int .u8 0, .int .u8 0, .int .u8 0, .int .u8 0, .int .u8 0, .int .u8 0, .int .u8 0, .int .u8 0, .int .u8 0, .int .u8 0, .int .u8 0, .int .u8 0, .int .u8 0, .int .u8 0, .int .u8 0, .int .u8 0, .int .u8 0, .int .u8 0, .int .u16 0, .int .u16 0] 27)) G 46 (lnk v a) from V4.out.alloc _)
          have Y5 : Hid (Blk (y1.alloc (.cells #[.bool false, .int .u8 0, .int .u8 0, .int .u8 0, .int .u8 0, .int .u8 0, .int .u8 0, .int .u8 0, .int .u8 0, .int .u8 0, .int .u8 0, .int .u8 0, .int .u8 0, .int .u8 0, .int .u8 0, .int .u8 0, .int .u8 0, .int .u8 0, .int .u8 0, .int .u8 0, .int .u8 0, .int .u8 0, .int .u8 0, .int .u8 0, .int .u8 0, .int .u8 0, .int .u8 0, .int .u8 0, .int .u8 0, .int .u8 0, .int .u8 0, .int .u8 0, .int .u8 0, .int .u8 0, .int .u16 0, .int .u16 0] 27)) y1.heap.size 27 flo0) := Blk.new y1 27 flo0
          have W5 : Hid (Below w.heap.size w (y1.alloc (.cells #[.bool false, .int .u8 0, .int .u8 0, .int .u8 0, .int .u8 0, .int .u8 0, .int .u8 0, .int .u8 0, .int .u8 0, .int .u8 0, .int .u8 0, .int .u8 0, .int .u8 0, .int .u8 0, .int .u8 0, .int .u8 0, .int .u8 0, .int .u8 0, .int .u8 0, .int .u8 0, .int .u8 0, .int .u8 0, .int .u8 0, .int .u8 0, .int .u8 0, .int .u8 0, .int .u8 0, .int .u8 0, .int .u8 0, .int .u8 0, .int .u8 0, .int .u8 0, .int .u8 0, .int .u8 0, .int .u16 0, .int .u16 0] 27))) := W4.out.alloc W4.out.size _
          have hy1 : w.heap.size < y1.heap.size ∧ G < y1.heap.size := ⟨L4.out.lt, V4.out.lt⟩
          refine hK.out _ _ ?_ (fun hHeld => ?_)
          · exact ⟨(V5.out.cell 0).trans rfl, (V5.out.cell 1).trans rfl⟩
          clear hK K
          try simp only [Act.put, List.setIfInBounds_toArray, List.set_cons_zero, List.set_cons_succ]
          generalize (y1.alloc (.cells #[.bool false, .int .u8 0, .int .u8 0, .int .u8 0, .int .u8 0, .int .u8 0, .int .u8 0, .int .u8 0, .int .u8 0, .int .u8 0, .int .u8 0, .int .u8 0, .int .u8 0, .int .u8 0, .int .u8 0, .int .u8 0, .int .u8 0, .int .u8 0, .int .u8 0, .int .u8 0, .int .u8 0, .int .u8 0, .int .u8 0, .int .u8 0, .int .u8 0, .int .u8 0, .int .u8 0, .int .u8 0, .int .u8 0, .int .u8 0, .int .u8 0, .int .u8 0, .int .u8 0, .int .u8 0, .int .u16 0, .int .u16 0] 27)) = y2 at *
          refine wpAnyH_ready (rs := [11]) (by kernel_rfl) (by simp) ?_
          refine AllReadyH.cons (o := ⟨none, _, _, _, _, _⟩) rfl (fun K hK => ?_) (AllReadyH.nil)
          refine step_lay (by rfl) 27 36 sizeOfflow (.tmp 6) (.tmp 28) (by rfl) y1.heap.size F (by rfl) (by rfl) 27 flo0 Y5.out rfl HFL.out.1 (one_all HFL.out.2) ?_
          intro z6 Y6 F6
          have LL6 := Lib.hid (L5.out.far F6.out (fun e => by have e2 : w.heap.size = y1.heap.size := e; omega))
          have VV6 := Lib.hid (V5.out.far F6.out (fun e => by have e2 : G = y1.heap.size := e; omega))
          have WW6 : Hid (Below w.heap.size w z6) := below_only W5.out F6.out (by omega) W5.out.size
          refine hK.out _ _ ?_ (fun hHeld => ?_)
          · exact ⟨(VV6.out.cell 0).trans rfl, (VV6.out.cell 1).trans rfl⟩
          clear hK K
          try simp only [Act.put]
          refine wpAnyH_take (i := 12) (oi := ⟨some 5, _, _, _, _, _⟩) (v := .int .i64 ((r9 : Nat) : Int)) rfl (by kernel_rfl) (by kernel_rfl) (by kernel_rfl) (fun _ _ _ h => h) (Or.inl ⟨by rfl, ?_⟩) (by assumption) ?_
          · (intro W hSw; have q0 := hSw.1; have q1 := hSw.2; clear hSw; go_simp)
          try simp only [Act.put, List.setIfInBounds_toArray, List.set_cons_zero, List.set_cons_succ]
          refine wpAnyH_done (by kernel_rfl) ?_ _
          refine NoPanic.normal ?_
          go_wp2_with fail
          go_meet
          case rel => exact ⟨rfl, y1.heap.size, rfl, by omega, Y6.out, LL6.out, WW6.out⟩
        · go_simp
          have L4 : Hid (Blk (x2.alloc (.cells #[.bool false, .int .u8 0, .int .u8 0, .int .u8 0, .int .u8 0, .int .u8 0, .int .u8 0, .int .u8 0, .int .u8 0, .int .u8 0, .int .u8 0, .int .u8 0, .int .u8 0, .int .u8 0, .int .u8 0, .int .u8 0, .int .u8 0, .int .u8 0, .int .u8 0, .int .u8 0, .int .u8 0, .int .u8 0, .int .u8 0, .int .u8 0, .int .u8 0, .int .u8 0, .int .u8 0, .int .u8 0, .int .u8 0, .int .u8 0, .int .u8 0, .int .u8 0, .int .u8 0, .int .u8 0, .int .u16 0, .int .u16 0] 27)).drew w.heap.size 32 pak0) := L3.out.far ((Far.refl nobody _).alloc _).drew (fun e => e)
          have V4 : Hid (Blk (x2.alloc (.cells #[.bool false, .int .u8 0, .int .u8 0, .int .u8 0, .int .u8 0, .int .u8 0, .int .u8 0, .int .u8 0, .int .u8 0, .int .u8 0, .int .u8 0, .int .u8 0, .int .u8 0, .int .u8 0, .int .u8 0, .int .u8 0, .int .u8 0, .int .u8 0, .int .u8 0, .int .u8 0, .int .u8 0, .int .u8 0, .int .u8 0, .int .u8 0, .int .u8 0, .int .u8 0, .int .u8 0, .int .u8 0, .int .u8 0, .int .u8 0, .int .u8 0, .int .u8 0, .int .u8 0, .int .u8 0, .int .u16 0, .int .u16 0] 27)).drew G 46 (lnk v a)) := V2.out.far ((Far.refl nobody _).alloc _).drew (fun e => e)
          have Y4 : Hid (Blk (x2.alloc (.cells #[.bool false, .int .u8 0, .int .u8 0, .int .u8 0, .int .u8 0, .int .u8 0, .int .u8 0, .int .u8 0, .int .u8 0, .int .u8 0, .int .u8 0, .int .u8 0, .int .u8 0, .int .u8 0, .int .u8 0, .int .u8 0, .int .u8 0, .int .u8 0, .int .u8 0, .int .u8 0, .int .u8 0, .int .u8 0, .int .u8 0, .int .u8 0, .int .u8 0, .int .u8 0, .int .u8 0, .int .u8 0, .int .u8 0, .int .u8 0, .int .u8 0, .int .u8 0, .int .u8 0, .int .u8 0, .int .u16 0, .int .u16 0] 27)).drew x2.heap.size 27 flo0) := Blk.new x2 27 flo0
          have W4 : Hid (Below w.heap.size w (x2.alloc (.cells #[.bool false, .int .u8 0, .int .u8 0, .int .u8 0, .int .u8 0, .int .u8 0, .int .u8 0, .int .u8 0, .int .u8 0, .int .u8 0, .int .u8 0, .int .u8 0, .int .u8 0, .int .u8 0, .int .u8 0, .int .u8 0, .int .u8 0, .int .u8 0, .int .u8 0, .int .u8 0, .int .u8 0, .int .u8 0, .int .u8 0, .int .u8 0, .int .u8 0, .int .u8 0, .int .u8 0, .int .u8 0, .int .u8 0, .int .u8 0, .int .u8 0, .int .u8 0, .int .u8 0, .int .u8 0, .int .u16 0, .int .u16 0] 27)).drew) := (W3.out.alloc W3.out.size _).drew
          have hy1 : w.heap.size < x2.heap.size ∧ G < x2.heap.size := ⟨L3.out.lt, V2.out.lt⟩
          refine hK.out _ _ ?_ (fun hHeld => ?_)
          · exact ⟨(V4.out.cell 0).trans rfl, (V4.out.cell 1).trans rfl⟩
          clear hK K
          try simp only [Act.put, List.setIfInBounds_toArray, List.set_cons_zero, List.set_cons_succ]
          generalize (x2.alloc (.cells #[.bool false, .int .u8 0, .int .u8 0, .int .u8 0, .int .u8 0, .int .u8 0, .int .u8 0, .int .u8 0, .int .u8 0, .int .u8 0, .int .u8 0, .int .u8 0, .int .u8 0, .int .u8 0, .int .u8 0, .int .u8 0, .int .u8 0, .int .u8 0, .int .u8 0, .int .u8 0, .int .u8 0, .int .u8 0, .int .u8 0, .int .u8 0, .int .u8 0, .int .u8 0, .int .u8 0, .int .u8 0, .int .u8 0, .int .u8 0, .int .u8 0, .int .u8 0, .int .u8 0, .int .u8 0, .int .u16 0, .int .u16 0] 27)).drew = y1 at *
          refine wpAnyH_ready (rs := [6]) (by kernel_rfl) (by simp) ?_
          refine AllReadyH.cons (o := ⟨some 27, _, _, _, _, _⟩) rfl (fun K hK => ?_) (AllReadyH.nil)
          go_simp
          refine (CF.out _ W4.out).mono ?_
          rintro e y2 ⟨rfl, hb⟩
          have L5 := Lib.hid (kept L4.out hb)
          have V5 := Lib.hid (kept V4.out hb)
          have Y5 := Lib.hid (kept Y4.out hb)
          have W5 : Hid (Below w.heap.size w y2) := W4.out.trans (hb.mono W4.out.size)
          clear hb
          go_simp
          refine hK.out _ _ ?_ (fun hHeld => ?_)
          · exact ⟨(V5.out.cell 0).trans rfl, (V5.out.cell 1).trans rfl⟩
          clear hK K
          try simp only [Act.put, List.setIfInBounds_toArray, List.set_cons_zero, List.set_cons_succ]
          refine wpAnyH_take (i := 7) (oi := ⟨some 20, _, _, _, _, _⟩) (v := .tuple #[.agg F.toArray, .int .i64 ((r9 : Nat) : Int)]) rfl (by kernel_rfl) (by kernel_rfl) (by kernel_rfl) (fun _ _ _ h => h) (Or.inl ⟨by rfl, ?_⟩) (by assumption) ?_
          · (intro W hSw; have q0 := hSw.1; have q1 := hSw.2; clear hSw; go_simp)
          try simp only [Act.put, List.setIfInBounds_toArray, List.set_cons_zero, List.set_cons_succ]
          refine wpAnyH_take (i := 8) (oi := ⟨some 28, _, _, _, _, _⟩) (v := .agg F.toArray) rfl (by kernel_rfl) (by kernel_rfl) (by kernel_rfl) (fun _ _ _ h => h) (Or.inl ⟨by rfl, ?_⟩) (by assumption) ?_
          · (intro W hSw; have q0 := hSw.1; have q1 := hSw.2; clear hSw; go_simp)
          try simp only [Act.put, List.setIfInBounds_toArray, List.set_cons_zero, List.set_cons_succ]
          refine wpAnyH_take (i := 9) (oi := ⟨some 29, _, _, _, _, _⟩) (v := .int .i64 ((r9 : Nat) : Int)) rfl (by kernel_rfl) (by kernel_rfl) (by kernel_rfl) (fun _ _ _ h => h) (Or.inl ⟨by rfl, ?_⟩) (by assumption) ?_
          · (intro W hSw; have q0 := hSw.1; have q1 := hSw.2; clear hSw; go_simp)
          try simp only [Act.put, List.setIfInBounds_toArray, List.set_cons_zero, List.set_cons_succ]
          refine wpAnyH_ready (rs := [11]) (by kernel_rfl) (by simp) ?_
          refine AllReadyH.cons (o := ⟨none, _, _, _, _, _⟩) rfl (fun K hK => ?_) (AllReadyH.nil)
          refine step_lay (by rfl) 27 36 sizeOfflow (.tmp 6) (.tmp 28) (by rfl) x2.heap.size F (by rfl) (by rfl) 27 flo0 Y5.out rfl HFL.out.1 (one_all HFL.out.2) ?_
          intro z6 Y6 F6
          have LL6 := Lib.hid (L5.out.far F6.out (fun e => by have e2 : w.heap.size = x2.heap.size := e; omega))
          have VV6 := Lib.hid (V5.out.far F6.out (fun e => by have e2 : G = x2.heap.size := e; omega))
          have WW6 : Hid (Below w.heap.size w z6) := below_only W5.out F6.out (by omega) W5.out.size
          refine hK.out _ _ ?_ (fun hHeld => ?_)
          · exact ⟨(VV6.out.cell 0).trans rfl, (VV6.out.cell 1).trans rfl⟩
          clear hK K
          try simp only [Act.put]
          refine wpAnyH_take (i := 12) (oi := ⟨some 5, _, _, _, _, _⟩) (v := .int .i64 ((r9 : Nat) : Int)) rfl (by kernel_rfl) (by kernel_rfl) (by kernel_rfl) (fun _ _ _ h => h) (Or.inl ⟨by rfl, ?_⟩) (by assumption) ?_
          · (intro W hSw; have q0 := hSw.1; have q1 := hSw.2; clear hSw; go_simp)
          try simp only [Act.put, List.setIfInBounds_toArray, List.set_cons_zero, List.set_cons_succ]
          refine wpAnyH_done (by kernel_rfl) ?_ _
          refine NoPanic.normal ?_
          go_wp2_with fail
          go_meet
          case rel => exact ⟨rfl, x2.heap.size, rfl, by omega, Y6.out, LL6.out, WW6.out⟩
      case rest =>
        obtain ⟨rfl, g, rfl, hg, hV, hL, hW⟩ := hcut
        clear V2 L3 W3 CF hcut0
        have F6 := Lib.hid hV
        have L7 := Lib.hid hL
        have W7 := Lib.hid hW
        clear hV hL hW
        rcases HPK.out with ⟨h9, hpk⟩ | ⟨rfl, q, s, d, x, y, S1, S2, bx, by_, rfl, hpk⟩ | h9
        · obtain ⟨rfl, rfl⟩ : pak0 = P ∧ r9 = r := by
            have := HP.out
            rw [hpk] at this
            simpa using this
          have hne : ((r9 : Int) != 0) = true := by simp; omega
          go_wp2_with (first | (refine wpList_lay rfl 32 46 sizeOfpacket (.tmp 2) (.tmp 32) rfl w.heap.size pak0 rfl rfl 32 pak0 L7.out LZ.out LZ.out (one_all pak_each) ?_; intro wf BF FF))
          refine bodyPost_ret (v := .tuple #[.agg pak0.toArray, .int .i64 ((r9 : Nat) : Int)]) (by simp [results, Try.results10, asAddr, load_packet BF.out LZ.out]) rfl ⟨?_, below_only W7.out FF.out (Nat.le_refl _) W7.out.size⟩
          rfl
        · obtain ⟨rfl, rfl⟩ : pak n v q s d x y = P ∧ 0 = r := by
            have := HP.out
            rw [hpk, hbn] at this
            simpa using this
          have HBP := Lib.hid <| run_pak (v := v) (p := q) (a := x) (b := y) (n := n) S1 S2
          have LF : Hid ((flo v q s d x y).length = 36) := flo_length S1 S2
          have T1 := Lib.hid S1
          have T2 := Lib.hid S2
          clear hpk S1 S2 HPK HFL
          go_upto_region 9 with (fail)
          refine wp_region_held_drew (S := fun W => Blk W g 27 (flo v q s d x y)) (by kernel_rfl) ?_ (fun hHeld => ?_)
          · exact F6.out
          refine wpAnyH_take (i := 0) (oi := ⟨some 34, _, _, _, _, _⟩) (v := .agg (flo v q s d x y).toArray) rfl (by kernel_rfl) (by kernel_rfl) (by kernel_rfl) (fun _ _ _ h => h) (yieldsIf_load_mid (by rfl) 27 (.tmp 6) rfl g 0 rfl (flo v q s d x y) _ (fun _ hW => whole_at hW) Try.underlying27 rfl (by rw [LF.out]; exact sizeOfflow)) (by assumption) ?_
          try simp only [Act.put, List.setIfInBounds_toArray, List.set_cons_zero, List.set_cons_succ]
          refine wpAnyH_take (i := 1) (oi := ⟨some 35, _, _, _, _, _⟩) (v := .agg (flo v q s d x y).toArray) rfl (by kernel_rfl) (by kernel_rfl) (by kernel_rfl) (fun _ _ _ h => h) (yieldsIf_load_mid (by rfl) 27 (.tmp 6) rfl g 0 rfl (flo v q s d x y) _ (fun _ hW => whole_at hW) Try.underlying27 rfl (by rw [LF.out]; exact sizeOfflow)) (by assumption) ?_
          try simp only [Act.put, List.setIfInBounds_toArray, List.set_cons_zero, List.set_cons_succ]
          refine wpAnyH_take (i := 3) (oi := ⟨some 37, _, _, _, _, _⟩) (v := ?_) rfl (by kernel_rfl) (by kernel_rfl) (by kernel_rfl) (fun _ _ _ h => h) (Or.inl ⟨by rfl, ?_⟩) (by assumption) ?_
          rotate_left
          · (intro W hSw; (try dsimp only at hSw); go_simp)
            first | done | (with_reducible rfl)
          try simp only [Act.put, List.setIfInBounds_toArray, List.set_cons_zero, List.set_cons_succ]
          refine wpAnyH_take (i := 4) (oi := ⟨some 38, _, _, _, _, _⟩) (v := ?_) rfl (by kernel_rfl) (by kernel_rfl) (by kernel_rfl) (fun _ _ _ h => h) (Or.inl ⟨by rfl, ?_⟩) (by assumption) ?_
          rotate_left
          · (intro W hSw; (try dsimp only at hSw); go_simp)
            first | done | (with_reducible rfl)
          try simp only [Act.put, List.setIfInBounds_toArray, List.set_cons_zero, List.set_cons_succ]
          refine wpAnyH_ready (rs := [2]) (by kernel_rfl) (by simp) ?_
          refine AllReadyH.cons (o := ⟨some 36, _, _, _, _, _⟩) rfl (fun K hK => ?_) (AllReadyH.nil)
          go_simp
          refine (progPrefix_any v q s d x y _ T1.out).mono ?_
          rintro e x7 ⟨rfl, hb⟩
          have L8 : Hid (Blk x7 w.heap.size 32 pak0) := kept (w := wc.drew) L7.out hb
          have F8 : Hid (Blk x7 g 27 (flo v q s d x y)) := kept (w := wc.drew) F6.out hb
          have W8 : Hid (Below w.heap.size w x7) := W7.out.drew.trans (hb.mono W7.out.size)
          clear hb
          go_simp
          refine hK.out _ _ ?_ (fun hHeld => ?_)
          · exact F8.out
          clear hK K
          try simp only [Act.put, List.setIfInBounds_toArray, List.set_cons_zero, List.set_cons_succ]
          refine wpAnyH_take (i := 5) (oi := ⟨some 39, _, _, _, _, _⟩) (v := .agg (pak n v q s d x y).toArray) rfl (by kernel_rfl) (by kernel_rfl) (by kernel_rfl) (fun _ _ _ h => h) (yields_build (by rfl) 32 [(1, .tmp 34), (2, .tmp 36), (3, .tmp 38)] rfl [(1, .agg (flo v q s d x y).toArray), (2, .agg (prx v s).toArray), (3, .int .i64 ((n : Nat) : Int))] rfl (pak n v q s d x y) HBP.out) (by assumption) ?_
          try simp only [Act.put, List.setIfInBounds_toArray, List.set_cons_zero, List.set_cons_succ]
          refine wpAnyH_ready (rs := [6]) (by kernel_rfl) (by simp) ?_
          refine AllReadyH.cons (o := ⟨none, _, _, _, _, _⟩) rfl (fun K hK => ?_) (AllReadyH.nil)
          refine step_lay (by rfl) 32 46 sizeOfpacket (.tmp 2) (.tmp 39) (by rfl) w.heap.size (pak n v q s d x y) (by rfl) (by rfl) 32 pak0 L8.out LZ.out (pak_length T1.out T2.out) (one_all pak_each) ?_
          intro x8 L9 F9
          have hne3 : g ≠ w.heap.size := by omega
          refine hK.out _ _ ?_ (fun hHeld => ?_)
          · exact F8.out.far F9.out hne3
          clear hK K
          try simp only [Act.put]
          refine wpAnyH_take (i := 7) (oi := ⟨some 3, _, _, _, _, _⟩) (v := ?_) rfl (by kernel_rfl) (by kernel_rfl) (by kernel_rfl) (fun _ _ _ h => h) (Or.inl ⟨by rfl, ?_⟩) (by assumption) ?_
          rotate_left
          · (intro W hSw; (try dsimp only at hSw); go_simp)
            first | done | (with_reducible rfl)
          try simp only [Act.put, List.setIfInBounds_toArray, List.set_cons_zero, List.set_cons_succ]
          refine wpAnyH_done (by kernel_rfl) ?_ _
          have W9 : Hid (Below w.heap.size w x8) := below_only W8.out F9.out (Nat.le_refl _) W8.out.size
          go_wp2
          refine bodyPost_ret (v := .tuple #[.agg (pak n v q s d x y).toArray, .int .i64 0]) (by simp [results, Try.results10, asAddr, load_packet L9.out (pak_length T1.out T2.out)]) rfl ⟨rfl, W9.out⟩
        · exact absurd HO.out h9
end Go.Proofs.Ytebpemknmcgamaa
