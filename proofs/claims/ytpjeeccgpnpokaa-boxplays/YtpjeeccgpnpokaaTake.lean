/- The contract of the document's Take. Conditions: those of each theorem. -/
import Derived.Test.YtpjeeccgpnpokaaOwn
namespace Go.Proofs.Ytpjeeccgpnpokaa
open Go.RowKit

set_option maxRecDepth 4000 in
set_option maxHeartbeats 4000000 in
theorem take_ (A : Option Addr) (c : Nat) (L : List Ent) (C : Cfg) (p : Pre) (x y0 : Int) (w : World) (h : Els (kEnt C.r C.b) w A L) (ho : Oks C L) (hp : p.Ok) (hC : C.Ok) (hx : x ≤ 9223372036854775807) (hl : L.length ≤ 1000) :
    Calls Try.prog 15 #[bx A L.length c C, .agg p.cs.toArray, .int .i64 x, .int .i64 y0] w (BRes (takeS C (swp L x) p x y0) C (fun v => .tuple #[v, .bool (takeK C (swp L x) p x y0)]) w) := by
  obtain ⟨n, hn⟩ : ∃ n, L.length = n := ⟨_, rfl⟩
  obtain ⟨n0, n1, n2, n3⟩ := three_new A n c C p w
  have N0 := Lib.hid n0
  have N1 := Lib.hid n1
  have N2 := Lib.hid n2
  have W0 := Lib.hid n3
  have H := Lib.hid (h.below n3)
  have HS := Lib.hid (fun W hW => hn ▸ sweep_ A c L C x W hW hl)
  have hsl : (swp L x).length ≤ 1000 := Nat.le_trans (swp_len L x) hl
  have HO := Lib.hid (And.intro (ho.swp x) hp)
  rw [hn]
  clear hn n0 n1 n2 n3 h ho hp hl
  obtain ⟨S, hS⟩ : ∃ S, swp L x = S := ⟨_, rfl⟩
  rw [hS] at HS HO hsl ⊢
  clear hS
  have hall : ∀ A2 n2 c2, (bcs A2 n2 c2 C).toArray.all (·.oneCell') = true := fun A2 n2 c2 => all_oneCell_toArray (bcs_each _ _ _ _)
  go_enter Try.func15, Try.ntmps15
  go_upto_region 1 with fail
  generalize (((w.alloc (.cells (bcs A n c C).toArray 37)).alloc (.cells p.cs.toArray 31)).alloc (.cells #[.slice none 0 0, .int .i64 0, .int .i64 0, .int .i64 0, .int .i64 0] 37)) = x1 at *
  go_upto_region 2 with (first
    | (refine wpList_loadE (by rfl) 37 _ Try.underlying37 rfl (.tmp 4) rfl w.heap.size 0 rfl _ (whole_at N0.out) size37 ?_)
    | (go_at_call 12; (with_reducible refine (HS.out _ H.out).mono ?_); rintro e x2 ⟨A2, c2, rfl, hc2, hE2, hb2, hfr2⟩; have N0' := Lib.hid (N0.out.below hb2))
    | (refine wpList_lay rfl 37 5 size37 (.tmp 4) (.tmp 15) rfl _ (bcs A2 S.length c2 C) rfl rfl 37 _ N0'.out rfl rfl (hall _ _ _) ?_; intro x3 hB3 hF3; have D1 := Lib.hid (Hd.first N1.out N2.out W0.out hb2 hE2 hc2 hfr2 hB3.out hF3.out); clear hB3 hF3))
  clear hc2 hE2 hb2 hfr2 N0 N0' N1 N2 W0 H HS
  go_upto_region 3 with (first
    | (refine wpList_loadE (by rfl) 37 _ Try.underlying37 rfl (.tmp 4) rfl w.heap.size 0 rfl _ (whole_at D1.out.b) size37 ?_)
    | (refine wpList_pre (by rfl) (.tmp 5) rfl _ 0 rfl p (whole_at D1.out.p) ?_)
    | (go_at_call 13; (with_reducible refine (find_ A2 c2 S C p _ D1.out.els HO.out.1 HO.out.2 hsl).mono ?_); rintro e x4 ⟨rfl, hb⟩; have D2 := Lib.hid (D1.out.below hb); clear hb))
  clear D1
  rcases hh : has S p with _ | _
  · rw [fnd_not hh]
    have HFN : Hid (∀ W, BRes S C (fun v => .tuple #[v, .bool false]) w (.returned (.tuple #[bx A2 S.length c2 C, .bool false])) W → BRes (takeS C S p x y0) C (fun v => .tuple #[v, .bool (takeK C S p x y0)]) w (.returned (.tuple #[bx A2 S.length c2 C, .bool false])) W) := fun W hW => by
      rw [show takeS C S p x y0 = S by simp [takeS, hh], show takeK C S p x y0 = false by simp [takeK, hh]]
      exact hW
    clear hh
    go_wp2_with (first
      | (refine wpList_loadE (by rfl) 37 _ Try.underlying37 rfl (.tmp 4) rfl w.heap.size 0 rfl _ (whole_at D2.out.b) size37 ?_)
      | (refine wpList_lay rfl 37 5 size37 (.tmp 8) (.tmp 21) rfl _ (bcs A2 S.length c2 C) rfl rfl 37 _ D2.out.r rfl rfl (hall _ _ _) ?_; intro x9 hB9 hF9; have hv := load_bx hB9.out rfl; have FIN := Lib.hid (D2.out.fin hF9.out (fun v => .tuple #[v, .bool false]))))
    refine bodyPost_ret (v := .tuple #[bx A2 S.length c2 C, .bool false]) (by simp [results, Try.results15, asAddr, hv]) rfl (HFN.out _ FIN.out)
  · have HJ := has_iff.1 hh
    rw [fnd_has hh]
    have HTS : Hid (takeS C S p x y0 = S.set (idx S p) (tk C (at_ S (idx S p)) x y0) ∧ takeK C S p x y0 = tkK C (at_ S (idx S p)) x y0) := ⟨by simp [takeS, hh], by simp [takeK, hh]⟩
    have hrt := HO.out.1 _ (at_mem HJ)
    generalize idx S p = j at *
    obtain ⟨n2, hn2⟩ : ∃ n2, S.length = n2 := ⟨_, rfl⟩
    have HN2 := Lib.hid hn2
    have hj : j < n2 := hn2 ▸ HJ
    have hb5 : Below x4.heap.size x4 (x4.alloc (.cells #[] 77)) := (Below.refl _ x4).alloc (Nat.le_refl _) _
    have O5 : Ow (kEnt C.r C.b) 77 x4.heap.size (.slice (some ⟨x4.heap.size, 0, none⟩) 0 0) [] (x4.alloc (.cells #[] 77)) := Ow.new x4 (Nat.le_refl _)
    obtain ⟨v6, w6, hrun6, o6, g6, b6⟩ := run_app (P := Try.prog) (R := S) (x4.alloc (.cells #[] 77)) 35 35 (.agg (ent0.cs 0 0).toArray) 48 Try.underlying35 (info77 C.r C.b) rfl (by omega) O5 (A := A2) (D2.out.els.below hb5) c2 (by simp; omega) hb5.size
    have hb6 : Below x4.heap.size x4 w6 := hb5.trans ((Far.grown (S := fun k => k = x4.heap.size) (Far.refl _ _) g6 (fun k hk _ => by simpa [Value.ownBlock] using hk.symm)).below hb5.size (fun k hk e => by omega))
    obtain ⟨b0, hb0⟩ : ∃ b0, v6.ownBlock = some b0 := by rcases b6 with b6 | b6 <;> exact ⟨_, b6⟩
    obtain ⟨q, c6, R6, rfl, hq, hc6, hB6⟩ := o6.blk hb0
    rw [List.nil_append] at hrun6 hB6 hc6 o6
    have hcell : (x4.alloc (.cells #[] 77)).cell? ⟨w.heap.size, 0, none⟩ = some (.slice A2 n2 c2) := hn2 ▸ (D2.out.b.below hb5).cell 0
    rw [hn2] at hrun6 hc6
    have D6 := Lib.hid (D2.out.below hb6)
    have hs4 := D2.out.size
    have HQ : Hid (w.heap.size + 3 ≤ q ∧ ∀ ad, A2 = some ad → ad.block ≠ q) := ⟨by omega, fun ad e => by have := (D2.out.fr ad e).2; omega⟩
    have HC6 := Lib.hid hc6
    clear D2 hb5 O5 g6 b6 hb0 hb6 o6 hh
    go_upto_region 7 with (at_builtin; refine wpList_app rfl 35 (.tmp 22) (.tmp 24) rfl _ _ _ rfl rfl hrun6 ?_; clear hrun6)
    clear hcell
    refine til_begin (fun W => W.rangeAt q (j * 13 + 9) (toks C (at_ S j).l (at_ S j).m)) 14 (by kernel_rfl) ?_
    have D7 : Hid (Hd w S C p A2 c2 w6.drew) := D6.out.below ((Below.refl _ w6).drew)
    have B7 : Hid (Blk w6.drew q 77 ((kEnt C.r C.b).flat S ++ R6)) := hB6
    clear D6 hB6
    generalize w6.drew = w7 at *
    have TKr := Lib.hid (fun W => refTake_ C.r C.b (at_ S j).l (at_ S j).m (clm x) y0 W hrt.t (clm_bd hx).2 hC.b.1 hC.b.2)
    have CL := Lib.hid (fun W => clamp_ x W)
    have TS1 : Hid (takeS C S p x y0 = S.set j ⟨(at_ S j).p, (at_ S j).u, lef C.r (C.b * 1048576) (at_ S j).l (at_ S j).m (clm x) y0, max (at_ S j).m (clm x)⟩) := HTS.out.1
    have TS2 : Hid (takeK C S p x y0 = okT C.r (C.b * 1048576) (at_ S j).l (at_ S j).m (clm x) y0) := HTS.out.2
    have HRW := Lib.hid (fun W l' m' (hW : Blk W q 77 ((kEnt C.r C.b).flat S ++ R6)) => row_turn (l := l') (m := m') hW HJ)
    have RT : Hid (∀ W, Below w7.heap.size w7 W → W.rangeAt q (j * 13 + 9) (toks C (at_ S j).l (at_ S j).m)) := fun W hW => row_toks (B7.out.below hW) HJ
    have TH : Hid (∀ W, Below w7.heap.size w7 W → ∀ l' m', W.there q (j * 13 + 9) (toks C l' m').toArray.size) := fun W hW l' m' => by
      have h := there_of (B7.out.below hW) (row_toks (B7.out.below hW) HJ)
      exact h
    have hlen : (takeS C S p x y0).length = n2 := by rw [TS1.out, List.length_set]; exact hn2
    have HLEN := Lib.hid hlen
    clear HTS hrt hlen
    generalize lef C.r (C.b * 1048576) (at_ S j).l (at_ S j).m (clm x) y0 = l' at *
    generalize max (at_ S j).m (clm x) = m' at *
    generalize okT C.r (C.b * 1048576) (at_ S j).l (at_ S j).m (clm x) y0 = bo at *
    generalize hpp : (at_ S j).p = pj at *
    generalize huu : (at_ S j).u = uj at *
    generalize (at_ S j).l = l at *
    generalize (at_ S j).m = m at *
    generalize clm x = x' at *
    have HEND : Hid (∀ x9, Below w7.heap.size w7 x9 → ∀ y, x9.setCells q (j * 13 + 9) (toks C l' m') = y → ∃ u, y.cell? ⟨w.heap.size, 0, none⟩ = some u ∧ y.frozen? ⟨w.heap.size, 0, none⟩ = false ∧ Hd w (takeS C S p x y0) C p (some ⟨q, 0, none⟩) c6 (y.setCell ⟨w.heap.size, 0, none⟩ (.slice (some ⟨q, 0, none⟩) n2 c6))) := fun x9 hb9 y hy => by
      have hB := HRW.out x9 l' m' (B7.out.below hb9)
      have hF : Far (only q) x9 (x9.setCells q (j * 13 + 9) (toks C l' m')) := far_setCells _ _ _ _ (Far.refl _ _) (fun _ => rfl)
      rw [hy] at hB hF
      rw [← TS1.out] at hB
      have D9 := (D7.out.below hb9).past hF HQ.out.1 HQ.out.2
      refine ⟨_, D9.b.cell 0, D9.b.frozen 0, D9.turn ((Far.refl (only w.heap.size) y).set_ (p := ⟨w.heap.size, 0, none⟩) (fun _ => rfl) _) ?_ (Els.blk hB) (by rw [HLEN.out]; exact HC6.out) (fun ad e => by cases e; exact ⟨HQ.out.1, hB.lt⟩)⟩
      have := D9.b.set_ 0 (.slice (some ⟨q, 0, none⟩) n2 c6)
      rw [← HLEN.out] at this ⊢
      exact this
    have HFN : Hid (∀ W, BRes (takeS C S p x y0) C (fun v => .tuple #[v, .bool bo]) w (.returned (.tuple #[bx (some ⟨q, 0, none⟩) n2 c6 C, .bool bo])) W → BRes (takeS C S p x y0) C (fun v => .tuple #[v, .bool (takeK C S p x y0)]) w (.returned (.tuple #[bx (some ⟨q, 0, none⟩) n2 c6 C, .bool bo])) W) := fun W hW => by
      rw [TS2.out]
      exact hW
    clear HRW TS1 TS2 D7
    have D0 := Lib.hid (RT.out _ (Below.refl _ w7))
    refine til_take (i := 0) (oi := ⟨some 27, _, _, _, _, _⟩) (v := ?_) rfl (by kernel_rfl) (by kernel_rfl) (by kernel_rfl) (by decide) (by kernel_rfl) (by kernel_rfl) (fun _ _ _ h => h) (Or.inl ⟨by rfl, ?_⟩) D0.out ?_
    rotate_left
    · (intro W hSW; clear hSW; go_simp)
      first | done | (with_reducible rfl)
    try simp only [Act.put, List.setIfInBounds_toArray, List.set_cons_zero, List.set_cons_succ]
    refine til_take (i := 1) (oi := ⟨some 28, _, _, _, _, _⟩) (v := ?_) rfl (by kernel_rfl) (by kernel_rfl) (by kernel_rfl) (by decide) (by kernel_rfl) (by kernel_rfl) (fun _ _ _ h => h) (Or.inl ⟨by rfl, ?_⟩) D0.out ?_
    rotate_left
    · (intro W hSW; clear hSW; go_simp)
      first | done | (with_reducible rfl)
    try simp only [Act.put, List.setIfInBounds_toArray, List.set_cons_zero, List.set_cons_succ]
    refine til_take (i := 2) (oi := ⟨some 29, _, _, _, _, _⟩) (v := ?_) rfl (by kernel_rfl) (by kernel_rfl) (by kernel_rfl) (by decide) (by kernel_rfl) (by kernel_rfl) (fun _ _ _ h => h) (Or.inl ⟨by rfl, ?_⟩) D0.out ?_
    rotate_left
    · (intro W hSW; clear hSW; go_simp)
      first | done | (with_reducible rfl)
    try simp only [Act.put, List.setIfInBounds_toArray, List.set_cons_zero, List.set_cons_succ]
    refine til_take (i := 3) (oi := ⟨some 30, _, _, _, _, _⟩) (v := ?_) rfl (by kernel_rfl) (by kernel_rfl) (by kernel_rfl) (by decide) (by kernel_rfl) (by kernel_rfl) (fun _ _ _ h => h) (Or.inl ⟨by rfl, ?_⟩) D0.out ?_
    rotate_left
    · (intro W hSW; clear hSW; go_simp)
      first | done | (with_reducible rfl)
    try simp only [Act.put, List.setIfInBounds_toArray, List.set_cons_zero, List.set_cons_succ]
    refine til_take (i := 4) (oi := ⟨some 31, _, _, _, _, _⟩) (v := ?_) rfl (by kernel_rfl) (by kernel_rfl) (by kernel_rfl) (by decide) (by kernel_rfl) (by kernel_rfl) (fun _ _ _ h => h) (Or.inl ⟨by rfl, ?_⟩) D0.out ?_
    rotate_left
    · (intro W hSW; clear hSW; go_simp)
      first | done | (with_reducible rfl)
    try simp only [Act.put, List.setIfInBounds_toArray, List.set_cons_zero, List.set_cons_succ]
    refine til_take (i := 5) (oi := ⟨some 32, _, _, _, _, _⟩) (v := ?_) rfl (by kernel_rfl) (by kernel_rfl) (by kernel_rfl) (by decide) (by kernel_rfl) (by kernel_rfl) (fun _ _ _ h => h) (Or.inl ⟨by rfl, ?_⟩) D0.out ?_
    rotate_left
    · (intro W hSW; clear hSW; go_simp)
      first | done | (with_reducible rfl)
    try simp only [Act.put, List.setIfInBounds_toArray, List.set_cons_zero, List.set_cons_succ]
    refine til_take (i := 6) (oi := ⟨some 33, _, _, _, _, _⟩) (v := .agg (toks C l m).toArray) rfl (by kernel_rfl) (by kernel_rfl) (by kernel_rfl) (by decide) (by kernel_rfl) (by kernel_rfl) (fun _ _ _ h => h) (yields_loadE (by rfl) 72 _ Try.underlying72 rfl (.tmp 32) rfl q (j * 13 + 9) rfl (toks C l m) (fun _ hW => hW) (size73 C l m)) D0.out ?_
    try simp only [Act.put, List.setIfInBounds_toArray, List.set_cons_zero, List.set_cons_succ]
    refine til_take (i := 7) (oi := ⟨some 34, _, _, _, _, _⟩) (v := ?_) rfl (by kernel_rfl) (by kernel_rfl) (by kernel_rfl) (by decide) (by kernel_rfl) (by kernel_rfl) (fun _ _ _ h => h) (Or.inl ⟨by rfl, ?_⟩) D0.out ?_
    rotate_left
    · (intro W hSW; clear hSW; go_simp)
      first | done | (with_reducible rfl)
    try simp only [Act.put, List.setIfInBounds_toArray, List.set_cons_zero, List.set_cons_succ]
    refine til_take (i := 9) (oi := ⟨some 36, _, _, _, _, _⟩) (v := ?_) rfl (by kernel_rfl) (by kernel_rfl) (by kernel_rfl) (by decide) (by kernel_rfl) (by kernel_rfl) (fun _ _ _ h => h) (Or.inl ⟨by rfl, ?_⟩) D0.out ?_
    rotate_left
    · (intro W hSW; clear hSW; go_simp)
      first | done | (with_reducible rfl)
    try simp only [Act.put, List.setIfInBounds_toArray, List.set_cons_zero, List.set_cons_succ]
    refine til_one (i := 8) (o := ⟨some 35, _, _, _, _, _⟩) (by kernel_rfl) rfl (fun K hK => ?_)
    go_simp
    refine (CL.out _).mono ?_
    rintro e x8 ⟨rfl, m8, rfl⟩
    have RT8 : Hid ((w7.drewN m8).rangeAt q (j * 13 + 9) (toks C l m)) := RT.out _ (below_drewN (Below.refl _ _) m8)
    go_simp
    refine hK.out _ _ (fun _ => RT8.out) ?_
    clear hK K
    try simp only [Act.put, List.setIfInBounds_toArray, List.set_cons_zero, List.set_cons_succ]
    refine til_one (i := 10) (o := ⟨some 37, _, _, _, _, _⟩) (by kernel_rfl) rfl (fun K hK => ?_)
    go_simp
    refine (TKr.out _).mono ?_
    rintro e x9 ⟨rfl, hb9⟩
    have B9 : Hid (Below w7.heap.size w7 x9) := (below_drewN (Below.refl _ _) m8).trans hb9
    clear hb9
    go_simp
    refine hK.out _ _ (fun _ => RT.out _ B9.out) ?_
    clear hK K
    try simp only [Act.put, List.setIfInBounds_toArray, List.set_cons_zero, List.set_cons_succ]
    have D1 := Lib.hid (RT.out _ B9.out)
    clear D0
    refine til_take (i := 11) (oi := ⟨some 26, _, _, _, _, _⟩) (v := ?_) rfl (by kernel_rfl) (by kernel_rfl) (by kernel_rfl) (by decide) (by kernel_rfl) (by kernel_rfl) (fun _ _ _ h => h) (Or.inl ⟨by rfl, ?_⟩) D1.out ?_
    rotate_left
    · (intro W hSW; clear hSW; go_simp)
      first | done | (with_reducible rfl)
    try simp only [Act.put, List.setIfInBounds_toArray, List.set_cons_zero, List.set_cons_succ]
    refine til_take (i := 12) (oi := ⟨some 38, _, _, _, _, _⟩) (v := ?_) rfl (by kernel_rfl) (by kernel_rfl) (by kernel_rfl) (by decide) (by kernel_rfl) (by kernel_rfl) (fun _ _ _ h => h) (Or.inl ⟨by rfl, ?_⟩) D1.out ?_
    rotate_left
    · (intro W hSW; clear hSW; go_simp)
      first | done | (with_reducible rfl)
    try simp only [Act.put, List.setIfInBounds_toArray, List.set_cons_zero, List.set_cons_succ]
    refine til_two (i := 13) (j := 14) (o := ⟨some 39, _, _, _, _, _⟩) (o' := ⟨some 40, _, _, _, _, _⟩) (by kernel_rfl) rfl rfl (fun K hK => ?_) (fun K hK => ?_)
    · skip
      go_simp
      refine hK.out _ _ (fun _ => D1.out) ?_
      clear hK K
      try simp only [Act.put, List.setIfInBounds_toArray, List.set_cons_zero, List.set_cons_succ]
      refine til_one (i := 14) (o := ⟨some 40, _, _, _, _, _⟩) (by kernel_rfl) rfl (fun K hK => ?_)
      go_simp
      refine hK.out _ _ (past (by kernel_rfl)) ?_
      clear hK K
      try simp only [Act.put, List.setIfInBounds_toArray, List.set_cons_zero, List.set_cons_succ]
      refine til_one (i := 15) (o := ⟨some 41, _, _, _, _, _⟩) (by kernel_rfl) rfl (fun K hK => ?_)
      go_simp
      refine hK.out _ _ (past (by kernel_rfl)) ?_
      clear hK K
      try simp only [Act.put, List.setIfInBounds_toArray, List.set_cons_zero, List.set_cons_succ]
      refine til_one (i := 16) (o := ⟨none, _, _, _, _, _⟩) (by kernel_rfl) rfl (fun K hK => ?_)
      refine step_storeM (by rfl) 72 (.tmp 41) (.tmp 38) rfl q (j * 13 + 9) (toks C l' m').toArray rfl rfl (TH.out _ B9.out _ _) (size73 C l' m') (all_oneCell_toArray (toks_each _ _ _)) ?_
      refine hK.out _ _ (past (by kernel_rfl)) ?_
      clear hK K
      try simp only [Act.put]
      refine til_one (i := 17) (o := ⟨some 12, _, _, _, _, _⟩) (by kernel_rfl) rfl (fun K hK => ?_)
      go_simp
      refine hK.out _ _ (past (by kernel_rfl)) ?_
      clear hK K
      try simp only [Act.put, List.setIfInBounds_toArray, List.set_cons_zero, List.set_cons_succ]
      refine til_done (by kernel_rfl) ?_ _
      obtain ⟨u9, k9, f9, hd9⟩ := HEND.out _ B9.out _ rfl
      have D9 := Lib.hid hd9
      clear hd9
      have hlen9 := HLEN.out
      go_upto_region 9 with fail
      rw [← HLEN.out] at *
      go_wp2_with (first
        | (refine wpList_loadE (by rfl) 37 _ Try.underlying37 rfl (.tmp 4) rfl w.heap.size 0 rfl _ (whole_at D9.out.b) size37 ?_)
        | (refine wpList_lay rfl 37 5 size37 (.tmp 8) (.tmp 44) rfl _ (bcs (some ⟨q, 0, none⟩) (takeS C S p x y0).length c6 C) rfl rfl 37 _ D9.out.r rfl rfl (hall _ _ _) ?_; intro x9 hB9 hF9; have hv := load_bx hB9.out rfl; have FIN := Lib.hid (D9.out.fin hF9.out (fun v => .tuple #[v, .bool bo]))))
      refine bodyPost_ret (v := .tuple #[bx (some ⟨q, 0, none⟩) (takeS C S p x y0).length c6 C, .bool bo]) (by simp [results, Try.results15, asAddr, hv]) rfl (HFN.out _ FIN.out)
    · skip
      go_simp
      refine hK.out _ _ (past (by kernel_rfl)) ?_
      clear hK K
      try simp only [Act.put, List.setIfInBounds_toArray, List.set_cons_zero, List.set_cons_succ]
      refine til_switch 17 (by kernel_rfl) ?_
      have D2 : Hid True := Lib.hid trivial
      refine til_take (i := 13) (oi := ⟨some 39, _, _, _, _, _⟩) (v := ?_) rfl (by kernel_rfl) (by kernel_rfl) (by kernel_rfl) (by decide) (by kernel_rfl) (by kernel_rfl) (fun _ _ _ h => h) (Or.inl ⟨by rfl, ?_⟩) D2.out ?_
      rotate_left
      · (intro W hSW; clear hSW; go_simp)
        first | done | (with_reducible rfl)
      try simp only [Act.put, List.setIfInBounds_toArray, List.set_cons_zero, List.set_cons_succ]
      refine til_one (i := 15) (o := ⟨some 41, _, _, _, _, _⟩) (by kernel_rfl) rfl (fun K hK => ?_)
      go_simp
      refine hK.out _ _ (fun _ => trivial) ?_
      clear hK K
      try simp only [Act.put, List.setIfInBounds_toArray, List.set_cons_zero, List.set_cons_succ]
      refine til_one (i := 16) (o := ⟨none, _, _, _, _, _⟩) (by kernel_rfl) rfl (fun K hK => ?_)
      refine step_storeM (by rfl) 72 (.tmp 41) (.tmp 38) rfl q (j * 13 + 9) (toks C l' m').toArray rfl rfl (TH.out _ B9.out _ _) (size73 C l' m') (all_oneCell_toArray (toks_each _ _ _)) ?_
      refine hK.out _ _ (fun _ => trivial) ?_
      clear hK K
      try simp only [Act.put]
      refine til_one (i := 17) (o := ⟨some 12, _, _, _, _, _⟩) (by kernel_rfl) rfl (fun K hK => ?_)
      go_simp
      refine hK.out _ _ (past (by kernel_rfl)) ?_
      clear hK K
      try simp only [Act.put, List.setIfInBounds_toArray, List.set_cons_zero, List.set_cons_succ]
      refine til_done (by kernel_rfl) ?_ _
      obtain ⟨u9, k9, f9, hd9⟩ := HEND.out _ B9.out _ rfl
      have D9 := Lib.hid hd9
      clear hd9
      have hlen9 := HLEN.out
      go_upto_region 9 with fail
      rw [← HLEN.out] at *
      go_wp2_with (first
        | (refine wpList_loadE (by rfl) 37 _ Try.underlying37 rfl (.tmp 4) rfl w.heap.size 0 rfl _ (whole_at D9.out.b) size37 ?_)
        | (refine wpList_lay rfl 37 5 size37 (.tmp 8) (.tmp 44) rfl _ (bcs (some ⟨q, 0, none⟩) (takeS C S p x y0).length c6 C) rfl rfl 37 _ D9.out.r rfl rfl (hall _ _ _) ?_; intro x9 hB9 hF9; have hv := load_bx hB9.out rfl; have FIN := Lib.hid (D9.out.fin hF9.out (fun v => .tuple #[v, .bool bo]))))
      refine bodyPost_ret (v := .tuple #[bx (some ⟨q, 0, none⟩) (takeS C S p x y0).length c6 C, .bool bo]) (by simp [results, Try.results15, asAddr, hv]) rfl (HFN.out _ FIN.out)
end Go.Proofs.Ytpjeeccgpnpokaa
