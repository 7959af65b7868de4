/- The contracts of the document's Of and of the law's tuned. Conditions: those of each theorem. -/
import Derived.Test.YtedpikpknlaggaaDocs
import Derived.Test.YtedpikpknlaggaaNew
import Derived.Deep.MidRow
namespace Go.Proofs.Ytedpikpknlaggaa
open Go.RowKit

set_option maxHeartbeats 1000000 in
theorem tuned_ (t u d : Int) (w : World) : Calls Try.prog 10 #[.int .i64 t, .int .i64 u, .int .i64 d] w fun e w' => e = .returned (.bool (may t u d)) ∧ w = w' := by
  rcases h0 : decide (0 ≤ t) with _ | _
  · go_enter Try.func10, Try.ntmps10
    go_wp2
    go_ret
    exact ⟨ret_bool (by simp [may, isz, h0]), rfl⟩
  · rcases h1 : decide (t ≤ 1073741824) with _ | _
    · go_enter Try.func10, Try.ntmps10
      go_wp2
      go_ret
      exact ⟨ret_bool (by simp [may, isz, h0, h1]), rfl⟩
    · rcases h2 : decide (0 ≤ u) with _ | _
      · go_enter Try.func10, Try.ntmps10
        go_wp2
        go_ret
        exact ⟨ret_bool (by simp [may, isz, ist, h0, h1, h2]), rfl⟩
      · rcases h3 : decide (u ≤ 65536) with _ | _
        · go_enter Try.func10, Try.ntmps10
          go_wp2
          go_ret
          exact ⟨ret_bool (by simp [may, isz, ist, h0, h1, h2, h3]), rfl⟩
        · rcases h4 : decide (0 ≤ d) with _ | _
          · go_enter Try.func10, Try.ntmps10
            go_wp2
            go_ret
            exact ⟨ret_bool (by simp [may, isz, ist, h0, h1, h2, h3, h4]), rfl⟩
          · rcases h5 : decide (d ≤ 65536) with _ | _
            all_goals
              go_enter Try.func10, Try.ntmps10
              go_wp2
              go_ret
              exact ⟨ret_bool (by simp [may, isz, ist, h0, h1, h2, h3, h4, h5]), rfl⟩

theorem info66 : (Try.prog.info? 66).map (fun i => (i.zero, i.size, i.bytes)) = some (some (.agg #[.int .i64 0, .int .i64 0, .int .i64 0]), 3, 24) := by kernel_rfl
/-- A bin's three cells in the document's order. -/
abbrev bcs (x : Bin) : List Value := [.int .i64 (x.b : Nat), .int .i64 (x.c : Nat), .int .i64 (x.p : Nat)]
theorem cel_more (f : Nat → Bin) (m : Nat) : cel true f m ++ bcs (f m) = cel true f (m + 1) := cel_snoc.symm
/-- append of bins onto an own row, as a run. -/
theorem run_append_bins (w : World) (base n k c : Nat) (v : Value) (xs bs : List Value) (a : Addr) (hown : w.ownsRow base 66 3 v n xs) (hl : bs.length = k * 3) (hc : ∀ j u, bs[j]? = some u → w.cell? (a.add j) = some u) (h1 : ∀ u ∈ bs, u.oneCell' = true) (hn : n + k ≤ 100000) (hb : base ≤ w.heap.size) :
    ∃ v' w', (Builtin.append_ #[62, 62] 62 #[v, .slice (some a) k c]).run Try.prog w = .ok v' w' ∧ w'.ownsRow base 66 3 v' (n + k) (xs ++ bs) ∧ w.grownBy w' v.ownBlock ∧ (v'.ownBlock = v.ownBlock ∨ v'.ownBlock = some w.heap.size) := by
  obtain ⟨i, hi0, hz0, hz1, hz2⟩ := info_parts info66
  have hmul : (n + k) * 24 ≤ 100000 * 24 := Nat.mul_le_mul hn (Nat.le_refl _)
  obtain ⟨v', w', hrun, h2, h3, _, h5⟩ := run_append_own_at (P := Try.prog) w base 62 62 66 i (.agg #[.int .i64 0, .int .i64 0, .int .i64 0]) 3 24 Try.underlying62 hi0 hz0 hz1 hz2 rfl (by decide) v n xs hown a k c bs hl hc h1 (by unfold maxLen; omega) (by omega) hb
  exact ⟨v', w', hrun, h2, h3, h5⟩
/-- A row of bins of the call's own: f's first j. -/
def BinsAt (w : World) (base : Nat) (v : Value) (f : Nat → Bin) (j : Nat) : Prop := w.ownsRow base 66 3 v j (cel true f j)
theorem BinsAt.below {w w' : World} {base j : Nat} {v : Value} {f : Nat → Bin} (h : BinsAt w base v f j) (hb : Below w.heap.size w w') : BinsAt w' base v f j := (Far.of_below hb nobody).row h (fun _ _ e => e)
/-- Where Of stands. -/
structure OfRel (w : World) (A : Option Addr) (n c t h u d : Nat) (f : Nat → Bin) (j : Nat) (v : Value) (W : World) : Prop where
  box : Blk W w.heap.size 36 (dcs A n c t h u d)
  be : Below w.heap.size w W
  row : BinsAt W w.heap.size v f j
theorem size66 : (Try.prog.info? 66).map (·.size) = some 3 := by kernel_rfl
set_option maxHeartbeats 2000000 in
theorem refOf_ (b : Nat → Prop) (A : Option Addr) (n m c t h u d : Nat) (B : Bins) (P : Option Addr) (nb cb : Nat) (xs : List Int) (w : World) (hd : DocAt b w A n m B) (hi : Ints w P nb xs) (hf : flow n m xs = true) (hn : n ≤ 4) :
    Calls Try.prog 31 #[dval A n c t h u d, .slice P nb cb] w fun e w' => (∃ v, e = .returned v ∧ BinsAt w' w.heap.size v (fun l => B l (binOf xs l)) n) ∧ Below w.heap.size w w' := by
  have H0 : Hid (OfRel w A n c t h u d (fun l => B l (binOf xs l)) 0 (.slice none 0 0) (w.alloc (dbox A n c t h u d))) := ⟨Blk.new w 36 _, below_one _ _, World.ownsRow_nil _ _ _ _⟩
  have hnb : nb = n := by rw [← hi.1, flow_len hf]
  subst hnb
  have HI := Lib.hid hi
  have HX := Lib.hid (fun l hl => flow_at hf (l := l) hl)
  obtain ⟨s, q, cp, rfl, hr⟩ := hd.reads
  have HR := Lib.hid hr
  clear hd hi hf hr
  go_enter Try.func31, Try.ntmps31
  go_wp2_with fail
  go_loopw [5, 6, 9] (fun v _ i w' => ∃ k : Nat, k ≤ nb ∧ i = .int .i64 k ∧ OfRel w (some ⟨s, 0, none⟩) nb c t h u d (fun l => B l (binOf xs l)) k v w') (fun _ _ i _ => nb - (intOf i).toNat)
  case atStart => exact ⟨0, by omega, rfl, H0.out⟩
  case round =>
    clear H0
    obtain ⟨k, hk, rfl, hr⟩ := hrel
    have R1 := Lib.hid hr
    clear hr
    by_cases hlt : k < nb
    · have hd1 : decide ((k : Int) < (nb : Int)) = true := by simp; omega
      obtain ⟨hxk, hbm⟩ := HX.out k hlt
      obtain ⟨ad, rfl, hx⟩ := HI.out.at_ hlt
      rw [hxk] at hx
      have HS : Hid (∀ W, Below w.heap.size w W → Blk W w.heap.size 36 (dcs (some ⟨s, 0, none⟩) nb c t h u d) → W.cell? ⟨w.heap.size, 0, none⟩ = some (.slice (some ⟨s, 0, none⟩) nb c) ∧ W.cell? (ad.add k) = some (.int .i64 (binOf xs k : Nat)) ∧ W.cell? ⟨s, k, none⟩ = some (.slice (some ⟨q k, 0, none⟩) m (cp k)) ∧ W.cell? ⟨q k, binOf xs k * 3, none⟩ = some (.int .i64 ((B k (binOf xs k)).b : Nat)) ∧ W.cell? ⟨q k, binOf xs k * 3 + 1, none⟩ = some (.int .i64 ((B k (binOf xs k)).c : Nat)) ∧ W.cell? ⟨q k, binOf xs k * 3 + 2, none⟩ = some (.int .i64 ((B k (binOf xs k)).p : Nat))) := fun W hW hB => by
        have h1 := (HR.out W hW).1 k hlt
        have h2 := (HR.out W hW).2 k _ hlt hbm
        exact ⟨hB.cell 0, (hW.cell (World.block_lt_of_cell? w _ hx)).trans hx, h1, h2⟩
      clear hx hxk
      go_upto_region 5 with fail
      refine til_begin (fun W => Below w.heap.size w W ∧ Blk W w.heap.size 36 (dcs (some ⟨s, 0, none⟩) nb c t h u d)) 14 (by kernel_rfl) ?_
      have D0 := Lib.hid ((⟨R1.out.be.drew, R1.out.box⟩ : Below w.heap.size w wr.drew ∧ Blk wr.drew w.heap.size 36 (dcs (some ⟨s, 0, none⟩) nb c t h u d)))
      refine til_take (i := 0) (oi := ⟨some 12, _, _, _, _, _⟩) (v := ?_) rfl (by kernel_rfl) (by kernel_rfl) (by kernel_rfl) (by decide) (by kernel_rfl) (by kernel_rfl) (fun _ _ _ h => h) (Or.inl ⟨by rfl, ?_⟩) D0.out ?_
      rotate_left
      · (intro W hSW; clear hSW; go_simp)
        first | done | (with_reducible rfl)
      try simp only [Act.put, List.setIfInBounds_toArray, List.set_cons_zero, List.set_cons_succ]
      refine til_take (i := 1) (oi := ⟨some 13, _, _, _, _, _⟩) (v := ?_) rfl (by kernel_rfl) (by kernel_rfl) (by kernel_rfl) (by decide) (by kernel_rfl) (by kernel_rfl) (fun _ _ _ h => h) (Or.inl ⟨by rfl, ?_⟩) D0.out ?_
      rotate_left
      · (intro W hSW; clear hSW; go_simp)
        first | done | (with_reducible rfl)
      try simp only [Act.put, List.setIfInBounds_toArray, List.set_cons_zero, List.set_cons_succ]
      refine til_take (i := 2) (oi := ⟨some 14, _, _, _, _, _⟩) (v := .slice (some ⟨s, 0, none⟩) nb c) rfl (by kernel_rfl) (by kernel_rfl) (by kernel_rfl) (by decide) (by kernel_rfl) (by kernel_rfl) (fun _ _ _ h => h) (Or.inl ⟨by rfl, ?_⟩) D0.out ?_
      · (intro W hSW; obtain ⟨g0, g1, g2, g3, g4, g5⟩ := HS.out W hSW.1 hSW.2; clear hSW; go_simp)
      try simp only [Act.put, List.setIfInBounds_toArray, List.set_cons_zero, List.set_cons_succ]
      refine til_take (i := 3) (oi := ⟨some 15, _, _, _, _, _⟩) (v := ?_) rfl (by kernel_rfl) (by kernel_rfl) (by kernel_rfl) (by decide) (by kernel_rfl) (by kernel_rfl) (fun _ _ _ h => h) (Or.inl ⟨by rfl, ?_⟩) D0.out ?_
      rotate_left
      · (intro W hSW; clear hSW; go_simp)
        first | done | (with_reducible rfl)
      try simp only [Act.put, List.setIfInBounds_toArray, List.set_cons_zero, List.set_cons_succ]
      refine til_take (i := 4) (oi := ⟨some 16, _, _, _, _, _⟩) (v := .pointer (some ⟨s, k, none⟩)) rfl (by kernel_rfl) (by kernel_rfl) (by kernel_rfl) (by decide) (by kernel_rfl) (by kernel_rfl) (fun _ _ _ h => h) (Or.inl ⟨by rfl, ?_⟩) D0.out ?_
      · (intro W hSW; obtain ⟨g0, g1, g2, g3, g4, g5⟩ := HS.out W hSW.1 hSW.2; clear hSW; go_simp)
      try simp only [Act.put, List.setIfInBounds_toArray, List.set_cons_zero, List.set_cons_succ]
      refine til_take (i := 5) (oi := ⟨some 17, _, _, _, _, _⟩) (v := .slice (some ⟨q k, 0, none⟩) m (cp k)) rfl (by kernel_rfl) (by kernel_rfl) (by kernel_rfl) (by decide) (by kernel_rfl) (by kernel_rfl) (fun _ _ _ h => h) (Or.inl ⟨by rfl, ?_⟩) D0.out ?_
      · (intro W hSW; obtain ⟨g0, g1, g2, g3, g4, g5⟩ := HS.out W hSW.1 hSW.2; clear hSW; go_simp)
      try simp only [Act.put, List.setIfInBounds_toArray, List.set_cons_zero, List.set_cons_succ]
      refine til_take (i := 6) (oi := ⟨some 18, _, _, _, _, _⟩) (v := ?_) rfl (by kernel_rfl) (by kernel_rfl) (by kernel_rfl) (by decide) (by kernel_rfl) (by kernel_rfl) (fun _ _ _ h => h) (Or.inl ⟨by rfl, ?_⟩) D0.out ?_
      rotate_left
      · (intro W hSW; clear hSW; go_simp)
        first | done | (with_reducible rfl)
      try simp only [Act.put, List.setIfInBounds_toArray, List.set_cons_zero, List.set_cons_succ]
      refine til_take (i := 7) (oi := ⟨some 19, _, _, _, _, _⟩) (v := ?_) rfl (by kernel_rfl) (by kernel_rfl) (by kernel_rfl) (by decide) (by kernel_rfl) (by kernel_rfl) (fun _ _ _ h => h) (Or.inl ⟨by rfl, ?_⟩) D0.out ?_
      rotate_left
      · (intro W hSW; clear hSW; go_simp)
        first | done | (with_reducible rfl)
      try simp only [Act.put, List.setIfInBounds_toArray, List.set_cons_zero, List.set_cons_succ]
      refine til_take (i := 8) (oi := ⟨some 20, _, _, _, _, _⟩) (v := .pointer (some (ad.add k))) rfl (by kernel_rfl) (by kernel_rfl) (by kernel_rfl) (by decide) (by kernel_rfl) (by kernel_rfl) (fun _ _ _ h => h) (Or.inl ⟨by rfl, ?_⟩) D0.out ?_
      · (intro W hSW; obtain ⟨g0, g1, g2, g3, g4, g5⟩ := HS.out W hSW.1 hSW.2; clear hSW; go_simp)
      try simp only [Act.put, List.setIfInBounds_toArray, List.set_cons_zero, List.set_cons_succ]
      refine til_take (i := 9) (oi := ⟨some 21, _, _, _, _, _⟩) (v := .int .i64 (binOf xs k : Nat)) rfl (by kernel_rfl) (by kernel_rfl) (by kernel_rfl) (by decide) (by kernel_rfl) (by kernel_rfl) (fun _ _ _ h => h) (Or.inl ⟨by rfl, ?_⟩) D0.out ?_
      · (intro W hSW; obtain ⟨g0, g1, g2, g3, g4, g5⟩ := HS.out W hSW.1 hSW.2; clear hSW; go_simp)
      try simp only [Act.put, List.setIfInBounds_toArray, List.set_cons_zero, List.set_cons_succ]
      refine til_take (i := 10) (oi := ⟨some 22, _, _, _, _, _⟩) (v := .pointer (some ⟨q k, binOf xs k * 3, none⟩)) rfl (by kernel_rfl) (by kernel_rfl) (by kernel_rfl) (by decide) (by kernel_rfl) (by kernel_rfl) (fun _ _ _ h => h) (Or.inl ⟨by rfl, ?_⟩) D0.out ?_
      · (intro W hSW; obtain ⟨g0, g1, g2, g3, g4, g5⟩ := HS.out W hSW.1 hSW.2; clear hSW; go_simp)
      try simp only [Act.put, List.setIfInBounds_toArray, List.set_cons_zero, List.set_cons_succ]
      refine til_take (i := 11) (oi := ⟨some 23, _, _, _, _, _⟩) (v := .agg (bcs (B k (binOf xs k))).toArray) rfl (by kernel_rfl) (by kernel_rfl) (by kernel_rfl) (by decide) (by kernel_rfl) (by kernel_rfl) (fun _ _ _ h => h) (Or.inl ⟨by rfl, ?_⟩) D0.out ?_
      · (intro W hSW; obtain ⟨g0, g1, g2, g3, g4, g5⟩ := HS.out W hSW.1 hSW.2; clear hSW; go_simp)
      try simp only [Act.put, List.setIfInBounds_toArray, List.set_cons_zero, List.set_cons_succ]
      have Y2 : Hid (Below wr.heap.size wr (wr.drew.alloc (.cells (bcs (B k (binOf xs k))).toArray 66))) := (Below.refl _ wr).drew.alloc (Nat.le_refl _) _
      have N2 : Hid (Blk (wr.drew.alloc (.cells (bcs (B k (binOf xs k))).toArray 66)) wr.heap.size 66 (bcs (B k (binOf xs k)))) := Blk.new wr.drew 66 _
      have B2 := Lib.hid (R1.out.box.below Y2.out)
      have W2 : Hid (Below w.heap.size w (wr.drew.alloc (.cells (bcs (B k (binOf xs k))).toArray 66))) := R1.out.be.trans (Y2.out.mono R1.out.be.size)
      have O2 := Lib.hid (R1.out.row.below Y2.out)
      refine til_one (i := 12) (o := ⟨some 24, _, _, _, _, _⟩) (by kernel_rfl) rfl (fun K hK => ?_)
      go_simp
      refine hK.out _ _ (fun _ => ⟨W2.out, B2.out⟩) ?_
      clear hK K
      try simp only [Act.put, List.setIfInBounds_toArray, List.set_cons_zero, List.set_cons_succ]
      obtain ⟨v', w3, hrun, o3, g3, _⟩ := run_append_bins _ w.heap.size k 1 1 _ _ (bcs (B k (binOf xs k))) ⟨wr.heap.size, 0, none⟩ O2.out rfl (fun j u hj => by rw [Addr.add_at, Nat.zero_add, N2.out.cell]; exact hj) (by intro x hx; simp at hx; rcases hx with rfl | rfl | rfl <;> rfl) (by omega) W2.out.size
      have R3 : Hid (OfRel w (some ⟨s, 0, none⟩) nb c t h u d (fun l => B l (binOf xs l)) (k + 1) v' w3) := ⟨B2.out.grown g3 (B2.out.row_apart O2.out (by decide)), W2.out.grown g3 W2.out.size (fun i e => (O2.out.lt i e).1), by
        rw [cel_more (fun l => B l (binOf xs l)) k] at o3
        exact o3⟩
      clear o3 g3 O2 W2 B2 N2 Y2
      refine til_one (i := 13) (o := ⟨some 25, _, _, _, _, _⟩) (by kernel_rfl) rfl (fun K hK => ?_)
      refine step_app (by rfl) 62 (.tmp 12) (.tmp 24) (by rfl) _ _ _ (by rfl) (by rfl) hrun ?_
      refine hK.out _ _ (fun _ => ⟨R3.out.be, R3.out.box⟩) ?_
      clear hK K
      clear hrun
      try simp only [Act.put, List.setIfInBounds_toArray, List.set_cons_zero, List.set_cons_succ]
      refine til_one (i := 14) (o := ⟨some 5, _, _, _, _, _⟩) (by kernel_rfl) rfl (fun K hK => ?_)
      go_simp
      refine hK.out _ _ (past (by kernel_rfl)) ?_
      clear hK K
      try simp only [Act.put, List.setIfInBounds_toArray, List.set_cons_zero, List.set_cons_succ]
      refine til_done (by kernel_rfl) ?_ _
      go_wp2_with fail
      go_roundw
      case rel => exact ⟨k + 1, by omega, by go_num, R3.out⟩
      case measure => simp [intOf]; omega
    · obtain rfl : k = nb := by omega
      have hd1 : decide ((k : Int) < (k : Int)) = false := by simp
      go_wp2_with fail
      go_ret
      exact ⟨⟨_, rfl, R1.out.row⟩, R1.out.be⟩
end Go.Proofs.Ytedpikpknlaggaa
