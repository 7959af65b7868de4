/- The contract of package window's Add. Conditions: those of each theorem. -/
import Derived.Test.YteeobeeoefokdaaWins
import Derived.Test.YteeobeeoefokdaaDocAdd
namespace Go.Proofs.Yteeobeeoefokdaa
open Go.RowKit

theorem rch_ns (W : Wn) (k : Int) : (W.rch k).ns = W.ns := by unfold Wn.rch; split <;> rfl
theorem cnt_at {w w' : World} {g s q : Nat} {W : Wn} {p : Pre} {n : Int} (h : WAt w g s q W) (hs : SAt w' s q W.M (stp W.M W.L p n) (addK W.T n)) (hf : Far (two s q) w w') : WAt w' g s q (W.cnt p n) := h.sk_ hs hf
theorem slo_bd {L : List Slo} (h : Oks L) (k : Nat) : (0 ≤ (at_ L k).c ∧ (at_ L k).c ≤ 4611686018427387904) ∧ (0 ≤ (at_ L k).e ∧ (at_ L k).e ≤ 4611686018427387904) := ⟨(h.get_ k).c, (h.get_ k).e⟩
theorem Far.skip_ {S : Nat → Prop} {w w' w'' : World} {b : Nat} (h : Far S w w') (k : Far (only b) w' w'') (hb : w.heap.size ≤ b) : Far S w w'' := h.trans k (fun i hi e => by have h1 : i = b := e; omega)
set_option maxHeartbeats 400000 in
theorem wadd_nil (now n : Int) (p : Pre) (w : World) : Calls Try.prog 9 #[.pointer none, .int .i64 now, .agg p.cs.toArray, .int .i64 n] w fun e w' => e = .returned (.bool false) ∧ Below w.heap.size w w' := by
  have HB : Hid (Below w.heap.size w (w.alloc (.cells p.cs.toArray 31))) := (Below.refl _ w).alloc (Nat.le_refl _) _
  go_enter Try.func9, Try.ntmps9
  go_wp2
  go_ret
  exact ⟨rfl, HB.out⟩
/-- What Add leaves. -/
def WAddOut (g s q : Nat) (V : Wn) (b : Bool) (w : World) (e : Ending) (w' : World) : Prop := e = .returned (.bool b) ∧ WAt w' g s q V ∧ Far (tri g s q) w w'
set_option maxHeartbeats 2000000 in
theorem wadd_ (g s q : Nat) (V : Wn) (now n : Int) (p : Pre) (w : World) (h : WAt w g s q V) (hp : p.Ok) :
    Calls Try.prog 9 #[.pointer (some ⟨g, 0, none⟩), .int .i64 now, .agg p.cs.toArray, .int .i64 n] w (WAddOut g s q ((V.to now).cnt p n) ((V.to now).hvy p n) w) := by
  have hB : Below w.heap.size w (w.alloc (.cells p.cs.toArray 31)) := (Below.refl _ w).alloc (Nat.le_refl _) _
  have W1 := Lib.hid (h.below hB)
  have P1 := Lib.hid (Blk.new w 31 p.cs)
  have B1 := Lib.hid hB
  have HP := Lib.hid hp
  have hlt := h.lt
  have hns := h.ok.ns
  have HM := Lib.hid (fun W => mayBe_ V.ns W)
  rw [may_true hns.1 hns.2] at HM
  have hd := tm_bd now
  have hq1 : 0 ≤ tm now / V.ns ∧ tm now / V.ns ≤ tm now := ediv_bd hd.1 (by omega)
  have HT : Hid (0 ≤ tm now ∧ tm now / V.ns ≤ 4611686018427387903 ∧ IntKind.i64.wrap ((tm now).tdiv V.ns) = tm now / V.ns) := ⟨hd.1, by omega, by rw [Int.tdiv_eq_ediv_of_nonneg hd.1, IntKind.wrap_i64]; omega⟩
  have HZ : Hid (¬ V.ns = 0) := by show ¬ _; omega
  obtain ⟨c0, _⟩ := W1.out.cells
  clear h hp hB hq1 hd hns
  go_enter Try.func9, Try.ntmps9
  go_upto_region 1 with fail
  generalize (w.alloc (.cells p.cs.toArray 31)) = x1 at *
  go_upto_region 3 with (go_at_call 17; (with_reducible refine (HM.out _).mono ?_); rintro e x0 ⟨rfl, rfl⟩)
  · have C0 : Hid (x1.drew.cell? ⟨g, 0, none⟩ = some (.int .i64 V.ns)) := W1.out.drew.cells.1
    have D0 : Hid (WAt x1.drew g s q V) := W1.out.drew
    have E0 : Hid (Below w.heap.size w x1.drew) := B1.out.drew
    have P0 : Hid (Blk x1.drew w.heap.size 31 p.cs) := P1.out
    clear W1 P1 B1 c0
    refine wp_region_held_drew (S := fun W => W.cell? ⟨g, 0, none⟩ = some (.int .i64 V.ns)) (by kernel_rfl) ?_ (fun _ => ?_)
    · exact C0.out
    have HS0 := C0
    refine wpAnyH_take (i := 0) (oi := ⟨some 20, _, _, _, _, _⟩) (v := ?_) rfl (by kernel_rfl) (by kernel_rfl) (by kernel_rfl) (fun _ _ _ h => h) (Or.inl ⟨by rfl, ?_⟩) HS0.out ?_
    rotate_left
    · (intro W hSW; clear hSW; go_simp)
      first | done | (with_reducible rfl)
    try simp only [Act.put, List.setIfInBounds_toArray, List.set_cons_zero, List.set_cons_succ]
    refine wpAnyH_take (i := 1) (oi := ⟨some 21, _, _, _, _, _⟩) (v := ?_) rfl (by kernel_rfl) (by kernel_rfl) (by kernel_rfl) (fun _ _ _ h => h) (Or.inl ⟨by rfl, ?_⟩) HS0.out ?_
    rotate_left
    · (intro W hSW; clear hSW; go_simp)
      first | done | (with_reducible rfl)
    try simp only [Act.put, List.setIfInBounds_toArray, List.set_cons_zero, List.set_cons_succ]
    refine wpAnyH_take (i := 3) (oi := ⟨some 23, _, _, _, _, _⟩) (v := ?_) rfl (by kernel_rfl) (by kernel_rfl) (by kernel_rfl) (fun _ _ _ h => h) (Or.inl ⟨by rfl, ?_⟩) HS0.out ?_
    rotate_left
    · (intro W hSW; clear hSW; go_simp)
      first | done | (with_reducible rfl)
    try simp only [Act.put, List.setIfInBounds_toArray, List.set_cons_zero, List.set_cons_succ]
    refine wpAnyH_take (i := 4) (oi := ⟨some 24, _, _, _, _, _⟩) (v := ?_) rfl (by kernel_rfl) (by kernel_rfl) (by kernel_rfl) (fun _ _ _ h => h) (Or.inl ⟨by rfl, ?_⟩) HS0.out ?_
    rotate_left
    · (intro W hSW; clear hSW; go_simp)
      first | done | (with_reducible rfl)
    try simp only [Act.put, List.setIfInBounds_toArray, List.set_cons_zero, List.set_cons_succ]
    refine wpAnyH_take (i := 5) (oi := ⟨some 25, _, _, _, _, _⟩) (v := ?_) rfl (by kernel_rfl) (by kernel_rfl) (by kernel_rfl) (fun _ _ _ h => h) (Or.inl ⟨by rfl, ?_⟩) HS0.out ?_
    rotate_left
    · (intro W hSW; clear hSW; go_simp)
      first | done | (with_reducible rfl)
    try simp only [Act.put, List.setIfInBounds_toArray, List.set_cons_zero, List.set_cons_succ]
    refine wpAnyH_take (i := 6) (oi := ⟨some 26, _, _, _, _, _⟩) (v := .int .i64 V.ns) rfl (by kernel_rfl) (by kernel_rfl) (by kernel_rfl) (fun _ _ _ h => h) (Or.inl ⟨by rfl, ?_⟩) HS0.out ?_
    · (intro W hSW; have hc := hSW; clear hSW; go_simp)
    try simp only [Act.put, List.setIfInBounds_toArray, List.set_cons_zero, List.set_cons_succ]
    refine wpAnyH_ready (rs := [2]) (by kernel_rfl) (by simp) ?_
    refine AllReadyH.cons (o := ⟨some 22, _, _, _, _, _⟩) rfl (fun K hK => ?_) AllReadyH.nil
    go_simp
    refine (asTime_ _ _).mono ?_
    rintro e x1 ⟨rfl, hb⟩
    subst hb
    have HS1 := HS0
    clear HS0
    go_simp
    refine hK.out _ _ ?_ (fun _ => ?_)
    · exact HS1.out
    clear hK K
    try simp only [Act.put, List.setIfInBounds_toArray, List.set_cons_zero, List.set_cons_succ]
    refine wpAnyH_take (i := 7) (oi := ⟨some 27, _, _, _, _, _⟩) (v := .int .i64 (tm now / V.ns)) rfl (by kernel_rfl) (by kernel_rfl) (by kernel_rfl) (fun _ _ _ h => h) (Or.inl ⟨by rfl, ?_⟩) HS1.out ?_
    · (intro W hSW; clear hSW; go_simp)
      rw [if_neg HZ.out, HT.out.2.2]
    try simp only [Act.put, List.setIfInBounds_toArray, List.set_cons_zero, List.set_cons_succ]
    refine wpAnyH_ready (rs := [8]) (by kernel_rfl) (by simp) ?_
    refine AllReadyH.cons (o := ⟨some 28, _, _, _, _, _⟩) rfl (fun K hK => ?_) AllReadyH.nil
    go_simp
    refine (reach_ g s q V _ _ D0.out HT.out.2.1).mono ?_
    rintro e x2 ⟨rfl, hw, hf⟩
    have W3 := Lib.hid hw
    have F3 := Lib.hid hf
    have HS2 : Hid (x2.cell? ⟨g, 0, none⟩ = some (.int .i64 V.ns)) := by
      have := W3.out.cells.1
      rw [rch_ns] at this
      exact this
    clear hw hf
    go_simp
    refine hK.out _ _ ?_ (fun _ => ?_)
    · exact HS2.out
    clear hK K
    try simp only [Act.put, List.setIfInBounds_toArray, List.set_cons_zero, List.set_cons_succ]
    refine wpAnyH_done (by kernel_rfl) ?_ _
    have P3 := Lib.hid (P0.out.far F3.out (fun e => by rcases e with e | e | e <;> omega))
    have G3 : Hid (Far (tri g s q) w x2) := (Far.of_below E0.out (tri g s q)).trans F3.out (fun i _ e => e)
    clear C0 D0 P0 E0 F3 HS2
    rw [show V.rch (tm now / V.ns) = V.to now from rfl] at W3
    generalize V.to now = U at *
    have HV : Hid (decide (U.th ≤ (at_ (stp U.M U.L p n) (pos U.M U.L p)).c - (at_ (stp U.M U.L p n) (pos U.M U.L p)).e) = U.hvy p n) := rfl
    have HS := Lib.hid (slo_bd (W3.out.sk.oks.stp_ (M := U.M) (n := n) HP.out) (pos U.M U.L p))
    obtain ⟨sl, hsl⟩ : ∃ sl, at_ (stp U.M U.L p n) (pos U.M U.L p) = sl := ⟨_, rfl⟩
    have HSL := Lib.hid hsl
    rw [hsl] at HV HS
    clear hsl
    have HS4 : Hid (x2.drew.cell? ⟨g, 3, none⟩ = some (.pointer (some ⟨s, 0, none⟩)) ∧ Blk x2.drew w.heap.size 31 p.cs) := ⟨W3.out.cells.2.2.2.1, P3.out⟩
    go_upto_region 4 with fail
    refine wp_region_held_drew (S := fun W => W.cell? ⟨g, 3, none⟩ = some (.pointer (some ⟨s, 0, none⟩)) ∧ Blk W w.heap.size 31 p.cs) (by kernel_rfl) ?_ (fun _ => ?_)
    · exact HS4.out
    refine wpAnyH_take (i := 0) (oi := ⟨some 29, _, _, _, _, _⟩) (v := ?_) rfl (by kernel_rfl) (by kernel_rfl) (by kernel_rfl) (fun _ _ _ h => h) (Or.inl ⟨by rfl, ?_⟩) HS4.out ?_
    rotate_left
    · (intro W hSW; clear hSW; go_simp)
      first | done | (with_reducible rfl)
    try simp only [Act.put, List.setIfInBounds_toArray, List.set_cons_zero, List.set_cons_succ]
    refine wpAnyH_take (i := 1) (oi := ⟨some 30, _, _, _, _, _⟩) (v := ?_) rfl (by kernel_rfl) (by kernel_rfl) (by kernel_rfl) (fun _ _ _ h => h) (Or.inl ⟨by rfl, ?_⟩) HS4.out ?_
    rotate_left
    · (intro W hSW; clear hSW; go_simp)
      first | done | (with_reducible rfl)
    try simp only [Act.put, List.setIfInBounds_toArray, List.set_cons_zero, List.set_cons_succ]
    refine wpAnyH_take (i := 2) (oi := ⟨some 31, _, _, _, _, _⟩) (v := ?_) rfl (by kernel_rfl) (by kernel_rfl) (by kernel_rfl) (fun _ _ _ h => h) (Or.inl ⟨by rfl, ?_⟩) HS4.out ?_
    rotate_left
    · (intro W hSW; clear hSW; go_simp)
      first | done | (with_reducible rfl)
    try simp only [Act.put, List.setIfInBounds_toArray, List.set_cons_zero, List.set_cons_succ]
    refine wpAnyH_take (i := 3) (oi := ⟨some 32, _, _, _, _, _⟩) (v := .pointer (some ⟨s, 0, none⟩)) rfl (by kernel_rfl) (by kernel_rfl) (by kernel_rfl) (fun _ _ _ h => h) (Or.inl ⟨by rfl, ?_⟩) HS4.out ?_
    · (intro W hSW; have hc := hSW.1; clear hSW; go_simp)
    try simp only [Act.put, List.setIfInBounds_toArray, List.set_cons_zero, List.set_cons_succ]
    refine wpAnyH_take (i := 4) (oi := ⟨some 33, _, _, _, _, _⟩) (v := .agg p.cs.toArray) rfl (by kernel_rfl) (by kernel_rfl) (by kernel_rfl) (fun _ _ _ h => h) (yields_pre (by rfl) (.tmp 6) rfl w.heap.size 0 rfl p (fun _ h => whole_at h.2)) HS4.out ?_
    try simp only [Act.put, List.setIfInBounds_toArray, List.set_cons_zero, List.set_cons_succ]
    refine wpAnyH_take (i := 5) (oi := ⟨some 34, _, _, _, _, _⟩) (v := ?_) rfl (by kernel_rfl) (by kernel_rfl) (by kernel_rfl) (fun _ _ _ h => h) (Or.inl ⟨by rfl, ?_⟩) HS4.out ?_
    rotate_left
    · (intro W hSW; clear hSW; go_simp)
      first | done | (with_reducible rfl)
    try simp only [Act.put, List.setIfInBounds_toArray, List.set_cons_zero, List.set_cons_succ]
    refine wpAnyH_ready (rs := [6, 7]) (by kernel_rfl) (by simp) ?_
    refine AllReadyH.cons (o := ⟨some 35, _, _, _, _, _⟩) rfl (fun K hK => ?_) (AllReadyH.cons (o := ⟨some 9, _, _, _, _, _⟩) rfl (fun K hK => ?_) (AllReadyH.nil))
    · go_simp
      refine (add_ s q U.M U.L U.T p n _ W3.out.drew.sk HP.out).mono ?_
      rintro e x4 ⟨rfl, hs, hf⟩
      rw [HSL.out]
      have W4 := Lib.hid (cnt_at W3.out.drew hs hf)
      have P4 : Hid (Blk x4 w.heap.size 31 p.cs) := (show Blk x2.drew w.heap.size 31 p.cs from P3.out).far hf (fun e => by rcases e with e | e <;> omega)
      have G4 : Hid (Far (tri g s q) w x4) := G3.out.drew.trans hf (fun i _ e => .inr e)
      clear hs hf W3 P3 G3 HS4
      go_simp
      refine hK.out _ _ ?_ (fun _ => ?_)
      · exact ⟨W4.out.cells.2.2.2.1, P4.out⟩
      clear hK K
      try simp only [Act.put, List.setIfInBounds_toArray, List.set_cons_zero, List.set_cons_succ]
      refine wpAnyH_ready (rs := [7]) (by kernel_rfl) (by simp) ?_
      refine AllReadyH.cons (o := ⟨some 9, _, _, _, _, _⟩) rfl (fun K hK => ?_) (AllReadyH.nil)
      go_simp
      have K5 : Hid (Blk (x4.alloc zero32) x4.heap.size 52 slo0.cs) := Blk.new x4 52 slo0.cs
      have W5 := Lib.hid (W4.out.below ((Below.refl _ x4).alloc (Nat.le_refl _) zero32))
      have P5 := Lib.hid (P4.out.alloc zero32)
      have G5 := Lib.hid (G4.out.alloc zero32)
      have hb : w.heap.size < x4.heap.size := P4.out.lt
      refine hK.out _ _ ?_ (fun _ => ?_)
      · exact ⟨W5.out.cells.2.2.2.1, P5.out⟩
      clear hK K W4 P4 G4
      try simp only [Act.put, List.setIfInBounds_toArray, List.set_cons_zero, List.set_cons_succ]
      generalize x4.alloc zero32 = x5 at *
      generalize x4.heap.size = b at *
      refine wpAnyH_ready (rs := [8]) (by kernel_rfl) (by simp) ?_
      refine AllReadyH.cons (o := ⟨none, _, _, _, _, _⟩) rfl (fun K hK => ?_) (AllReadyH.nil)
      refine step_lay (by rfl) 52 10 size32 (.tmp 9) (.tmp 35) (by rfl) b sl.cs (by rfl) (by rfl) 52 slo0.cs K5.out rfl rfl (all_oneCell_toArray (slo_each _)) ?_
      intro x6 K6 F6
      have W6 := Lib.hid (W5.out.far F6.out (fun e => by have h1 : g = b := e; omega) (fun e => by have h1 : s = b := e; omega) (fun e => by have h1 : q = b := e; omega))
      have G6 : Hid (Far (tri g s q) w x6) := Far.skip_ G5.out F6.out (by omega)
      refine hK.out _ _ ?_ (fun _ => ?_)
      · exact ⟨W6.out.cells.2.2.2.1, P5.out.far F6.out (fun e => by have h1 : w.heap.size = b := e; omega)⟩
      clear hK K
      try simp only [Act.put]
      refine wpAnyH_done (by kernel_rfl) ?_ _
      have c1 : x6.cell? ⟨g, 1, none⟩ = some (.int .i64 U.th) := W6.out.cells.2.1
      have c8 : x6.cell? ⟨b, 8, none⟩ = some (.int .i64 sl.c) := K6.out.cell 8
      have c9 : x6.cell? ⟨b, 9, none⟩ = some (.int .i64 sl.e) := K6.out.cell 9
      have s1 := HS.out.1
      have s2 := HS.out.2
      clear W5 P5 G5 K5 F6 K6
      go_wp2_with fail
      go_region
      all_goals (go_wp2_with fail; go_ret; exact ⟨congrArg (fun b => Ending.returned (.bool b)) HV.out, W6.out.drew, G6.out.drew⟩)
    · go_simp
      have K3 : Hid (Blk (x2.alloc zero32).drew x2.heap.size 52 slo0.cs) := Blk.new x2 52 slo0.cs
      have W4 : Hid (WAt (x2.alloc zero32).drew g s q U) := W3.out.below ((Below.refl _ x2).alloc (Nat.le_refl _) zero32).drew
      have P4 : Hid (Blk (x2.alloc zero32).drew w.heap.size 31 p.cs) := P3.out.alloc zero32
      have G4 : Hid (Far (tri g s q) w (x2.alloc zero32).drew) := (G3.out.alloc zero32).drew
      have hb : w.heap.size < x2.heap.size := P3.out.lt
      refine hK.out _ _ ?_ (fun _ => ?_)
      · exact ⟨W4.out.cells.2.2.2.1, P4.out⟩
      clear hK K W3 P3 G3 HS4
      try simp only [Act.put, List.setIfInBounds_toArray, List.set_cons_zero, List.set_cons_succ]
      generalize (x2.alloc zero32).drew = x3 at *
      generalize x2.heap.size = b at *
      refine wpAnyH_ready (rs := [6]) (by kernel_rfl) (by simp) ?_
      refine AllReadyH.cons (o := ⟨some 35, _, _, _, _, _⟩) rfl (fun K hK => ?_) (AllReadyH.nil)
      go_simp
      refine (add_ s q U.M U.L U.T p n _ W4.out.sk HP.out).mono ?_
      rintro e x5 ⟨rfl, hs, hf⟩
      rw [HSL.out]
      have W5 := Lib.hid (cnt_at W4.out hs hf)
      have P5 : Hid (Blk x5 w.heap.size 31 p.cs) := P4.out.far hf (fun e => by rcases e with e | e <;> omega)
      have K5 : Hid (Blk x5 b 52 slo0.cs) := K3.out.far hf (fun e => by rcases e with e | e <;> omega)
      have G5 : Hid (Far (tri g s q) w x5) := G4.out.trans hf (fun i _ e => .inr e)
      clear hs hf W4 P4 G4 K3
      go_simp
      refine hK.out _ _ ?_ (fun _ => ?_)
      · exact ⟨W5.out.cells.2.2.2.1, P5.out⟩
      clear hK K
      try simp only [Act.put, List.setIfInBounds_toArray, List.set_cons_zero, List.set_cons_succ]
      refine wpAnyH_ready (rs := [8]) (by kernel_rfl) (by simp) ?_
      refine AllReadyH.cons (o := ⟨none, _, _, _, _, _⟩) rfl (fun K hK => ?_) (AllReadyH.nil)
      refine step_lay (by rfl) 52 10 size32 (.tmp 9) (.tmp 35) (by rfl) b sl.cs (by rfl) (by rfl) 52 slo0.cs K5.out rfl rfl (all_oneCell_toArray (slo_each _)) ?_
      intro x6 K6 F6
      have W6 := Lib.hid (W5.out.far F6.out (fun e => by have h1 : g = b := e; omega) (fun e => by have h1 : s = b := e; omega) (fun e => by have h1 : q = b := e; omega))
      have G6 : Hid (Far (tri g s q) w x6) := Far.skip_ G5.out F6.out (by omega)
      refine hK.out _ _ ?_ (fun _ => ?_)
      · exact ⟨W6.out.cells.2.2.2.1, P5.out.far F6.out (fun e => by have h1 : w.heap.size = b := e; omega)⟩
      clear hK K
      try simp only [Act.put]
      refine wpAnyH_done (by kernel_rfl) ?_ _
      have c1 : x6.cell? ⟨g, 1, none⟩ = some (.int .i64 U.th) := W6.out.cells.2.1
      have c8 : x6.cell? ⟨b, 8, none⟩ = some (.int .i64 sl.c) := K6.out.cell 8
      have c9 : x6.cell? ⟨b, 9, none⟩ = some (.int .i64 sl.e) := K6.out.cell 9
      have s1 := HS.out.1
      have s2 := HS.out.2
      clear W5 P5 G5 K5 F6 K6
      go_wp2_with fail
      go_region
      all_goals (go_wp2_with fail; go_ret; exact ⟨congrArg (fun b => Ending.returned (.bool b)) HV.out, W6.out.drew, G6.out.drew⟩)
end Go.Proofs.Yteeobeeoefokdaa
