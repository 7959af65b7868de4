/- The contract of box's at: those whose term is over are let go. Conditions: those of each theorem. -/
import Derived.Test.YtpjeeccgpnpokaaBoxs
namespace Go.Proofs.Ytpjeeccgpnpokaa
open Go.RowKit

set_option maxRecDepth 100000 in
set_option maxHeartbeats 2000000 in
theorem bat_ (f : Pre → Nat) (h q n g : Nat) (C : Cfg) (L : List Ent) (x : Int) (w : World) (hb0 : BoxAt f h q n w g C L) (ho : POks L) :
    Calls Try.prog 22 #[.pointer (some ⟨g, 0, none⟩), .int .i64 x] w (BAtOut f h q n g C (swp L x) w) := by
  have B0 := Lib.hid hb0
  have HO := Lib.hid ho
  have hl : L.length ≤ 64 := by have := hb0.tab.fit; have := hb0.tab.le; omega
  obtain ⟨l, hn⟩ : ∃ l, L.length = l := ⟨_, rfl⟩
  have HN := Lib.hid hn
  have HLt := Lib.hid hb0.lt
  have HPos := Lib.hid hb0.pos
  have hpl : (pres L).length = l := by simp [pres, hn]
  have c0 := hb0.cells.1
  have HALL := Lib.hid (allF_ f h q n L w hb0.tab)
  rw [hn] at hl
  clear hb0 ho hn
  go_enter Try.func22, Try.ntmps22
  go_upto_region 4 with (go_at_call 26; (with_reducible refine HALL.out.mono ?_); rintro e x1 ⟨A, c, rfl, hc, hE, hB, hA⟩; rw [hpl]; clear hc)
  have M0 : Hid (Midst w f h q n g C L A (pres L) x1) := ⟨B0.out.below hB, hE, hA, ⟨HLt.out g (.inl rfl), HLt.out h (.inr (.inl rfl)), HLt.out q (.inr (.inr (.inl rfl)))⟩, fun e he => HLt.out _ (.inr (.inr (.inr ⟨e, he, rfl⟩))), Far.of_below hB _⟩
  clear hB hE hA c0 HALL
  go_loopw [6, 7, 8, 17] (fun _ _ _ i wr => ∃ k : Nat, k ≤ l ∧ i = .int .i64 k ∧ Midst w f h q n g C (mid L k x) A (pres L) wr) (fun _ _ _ i _ => l - (intOf i).toNat)
  case atStart => exact ⟨0, by omega, rfl, by rw [mid_zero]; exact M0.out⟩
  case round =>
    clear M0
    obtain ⟨k, hk, rfl, hm⟩ := hrel
    have M1 := Lib.hid hm
    clear hm
    by_cases hlt : k < l
    · have hkL : k < L.length := by rw [HN.out]; exact hlt
      have HEL : Hid (∀ W, Els kPre W A (pres L) → ∀ ad, A = some ad → ad.block ≠ W.heap.size) := fun W hE ad e hh => by
        obtain ⟨q', o', e', hr⟩ := hE k _ (pres_at hkL)
        rw [e] at e'
        cases e'
        have h1 := World.block_lt_of_cell? W _ (hr 0 _ rfl)
        simp at hh
        simp at h1
        omega
      obtain ⟨q0, o0, hA0, hs0⟩ := M1.out.els k _ (pres_at hkL)
      have HSP : Hid (wr.rangeAt q0 (o0 + k * 8) (at_ L k).p.cs) := hs0
      have HG : Hid (has (mid L k x) (at_ L k).p = true ∧ at_ (mid L k x) (idx (mid L k x) (at_ L k).p) = at_ L k) := ⟨mid_has hkL, mid_at hkL M1.out.box.tab.srt⟩
      have HPO : Hid (POks (mid L k x) ∧ (at_ L k).p.Ok) := ⟨fun e he => HO.out e (mid_mem e he), HO.out.at_ hkL⟩
      have HU : Hid (0 < (at_ L k).u) := HPos.out _ (at_mem hkL)
      have HGET : Hid (∀ W, BoxAt f h q n W g C (mid L k x) → Calls Try.prog 23 #[.pointer (some ⟨h, 0, none⟩), .agg (at_ L k).p.cs.toArray] W (Ans (.tuple #[.agg #[.int .i64 (at_ L k).u, .pointer (some ⟨f (at_ L k).p, 0, none⟩)], .bool true]) W)) := fun W hW => by
        have := getT_yes f h q n (mid L k x) (at_ L k).p W hW.tab HPO.out.1 HPO.out.2 HG.out.1 (by have := HU.out; rw [HG.out.2]; omega)
        rwa [HG.out.2] at this
      have HST : Hid (Srt (mid L k x)) := M1.out.box.tab.srt
      have hxs := @mid_stay L x k hkL
      have hxo := @mid_out L x k hkL
      generalize f (at_ L k).p = tb at *
      by_cases hu : (at_ L k).u ≤ x
      · have HX : Hid (del (mid L k x) (at_ L k).p = mid L (k + 1) x) := (hxo (by rw [clm_le HU.out]; omega) HST.out).symm
        clear hxs hxo HU HG HST hs0
        generalize (at_ L k).u = u at *
        generalize (at_ L k).p = p at *
        generalize mid L k x = Lk at *
        subst hA0
        go_upto_region 6 with (first | (refine wpList_pre (by rfl) (.tmp 19) rfl q0 (o0 + k * 8) rfl p HSP.out ?_) | (refine wpList_newp rfl (.tmp 6) (.tmp 20) rfl wr p rfl rfl ?_; intro x2 P2 hb2; have M2 := Lib.hid (M1.out.below hb2.out); have HPP : Hid (wr.heap.size ≠ h ∧ wr.heap.size ≠ q) := (by have h1 := M1.out.old; have h2 := M1.out.far.size; constructor <;> omega); clear hb2))
        clear M1 HSP
        generalize wr.heap.size = P at *
        refine wp_region_held_drew (S := fun W => W.cell? ⟨g, 0, none⟩ = some (.pointer (some ⟨h, 0, none⟩)) ∧ Blk W P 31 p.cs) (by kernel_rfl) ?_ (fun _ => ?_)
        · exact ⟨M2.out.box.cells.1, P2.out⟩
        have M3 := Lib.hid M2.out.drew
        have P3 : Hid (Blk x2.drew P 31 p.cs) := P2.out
        clear M2 P2
        generalize x2.drew = x3 at *
        have H3 : Hid (x3.cell? ⟨g, 0, none⟩ = some (.pointer (some ⟨h, 0, none⟩)) ∧ Blk x3 P 31 p.cs) := ⟨M3.out.box.cells.1, P3.out⟩
        refine wpAnyH_take (i := 0) (oi := ⟨some 22, _, _, _, _, _⟩) (v := ?_) rfl (by kernel_rfl) (by kernel_rfl) (by kernel_rfl) (fun _ _ _ h => h) (Or.inl ⟨by rfl, ?_⟩) H3.out ?_
        rotate_left
        · (intro W hSW; clear hSW; go_simp)
          first | done | (with_reducible rfl)
        try simp only [Act.put, List.setIfInBounds_toArray, List.set_cons_zero, List.set_cons_succ]
        refine wpAnyH_take (i := 1) (oi := ⟨some 23, _, _, _, _, _⟩) (v := ?_) rfl (by kernel_rfl) (by kernel_rfl) (by kernel_rfl) (fun _ _ _ h => h) (Or.inl ⟨by rfl, ?_⟩) H3.out ?_
        rotate_left
        · (intro W hSW; clear hSW; go_simp)
          first | done | (with_reducible rfl)
        try simp only [Act.put, List.setIfInBounds_toArray, List.set_cons_zero, List.set_cons_succ]
        refine wpAnyH_take (i := 2) (oi := ⟨some 24, _, _, _, _, _⟩) (v := ?_) rfl (by kernel_rfl) (by kernel_rfl) (by kernel_rfl) (fun _ _ _ h => h) (Or.inl ⟨by rfl, ?_⟩) H3.out ?_
        rotate_left
        · (intro W hSW; clear hSW; go_simp)
          first | done | (with_reducible rfl)
        try simp only [Act.put, List.setIfInBounds_toArray, List.set_cons_zero, List.set_cons_succ]
        refine wpAnyH_take (i := 3) (oi := ⟨some 25, _, _, _, _, _⟩) (v := .pointer (some ⟨h, 0, none⟩)) rfl (by kernel_rfl) (by kernel_rfl) (by kernel_rfl) (fun _ _ _ h => h) (Or.inl ⟨by rfl, ?_⟩) H3.out ?_
        · (intro W hSW; have hc := hSW.1; clear hSW; go_simp)
        try simp only [Act.put, List.setIfInBounds_toArray, List.set_cons_zero, List.set_cons_succ]
        refine wpAnyH_take (i := 4) (oi := ⟨some 26, _, _, _, _, _⟩) (v := .agg p.cs.toArray) rfl (by kernel_rfl) (by kernel_rfl) (by kernel_rfl) (fun _ _ _ h => h) (yields_pre (by rfl) (.tmp 6) rfl P 0 rfl p (fun _ h => whole_at h.2)) H3.out ?_
        try simp only [Act.put, List.setIfInBounds_toArray, List.set_cons_zero, List.set_cons_succ]
        refine wpAnyH_ready (rs := [5, 9]) (by kernel_rfl) (by simp) ?_
        refine AllReadyH.cons (o := ⟨some 27, _, _, _, _, _⟩) rfl (fun K hK => ?_) (AllReadyH.cons (o := ⟨some 7, _, _, _, _, _⟩) rfl (fun K hK => ?_) (AllReadyH.nil))
        · go_simp
          refine (HGET.out _ M3.out.box).mono ?_
          rintro e x4 ⟨rfl, hb⟩
          have M4 := Lib.hid (M3.out.below hb)
          have P4 := Lib.hid (P3.out.below hb)
          clear hb M3 P3 H3
          have H4 : Hid (x4.cell? ⟨g, 0, none⟩ = some (.pointer (some ⟨h, 0, none⟩)) ∧ Blk x4 P 31 p.cs) := ⟨M4.out.box.cells.1, P4.out⟩
          go_simp
          refine hK.out _ _ ?_ (fun _ => ?_)
          · exact H4.out
          clear hK K
          try simp only [Act.put, List.setIfInBounds_toArray, List.set_cons_zero, List.set_cons_succ]
          refine wpAnyH_take (i := 6) (oi := ⟨some 21, _, _, _, _, _⟩) (v := ?_) rfl (by kernel_rfl) (by kernel_rfl) (by kernel_rfl) (fun _ _ _ h => h) (Or.inl ⟨by rfl, ?_⟩) H4.out ?_
          rotate_left
          · (intro W hSW; clear hSW; go_simp)
            first | done | (with_reducible rfl)
          try simp only [Act.put, List.setIfInBounds_toArray, List.set_cons_zero, List.set_cons_succ]
          refine wpAnyH_take (i := 7) (oi := ⟨some 28, _, _, _, _, _⟩) (v := ?_) rfl (by kernel_rfl) (by kernel_rfl) (by kernel_rfl) (fun _ _ _ h => h) (Or.inl ⟨by rfl, ?_⟩) H4.out ?_
          rotate_left
          · (intro W hSW; clear hSW; go_simp)
            first | done | (with_reducible rfl)
          try simp only [Act.put, List.setIfInBounds_toArray, List.set_cons_zero, List.set_cons_succ]
          refine wpAnyH_take (i := 8) (oi := ⟨some 29, _, _, _, _, _⟩) (v := ?_) rfl (by kernel_rfl) (by kernel_rfl) (by kernel_rfl) (fun _ _ _ h => h) (Or.inl ⟨by rfl, ?_⟩) H4.out ?_
          rotate_left
          · (intro W hSW; clear hSW; go_simp)
            first | done | (with_reducible rfl)
          try simp only [Act.put, List.setIfInBounds_toArray, List.set_cons_zero, List.set_cons_succ]
          refine wpAnyH_ready (rs := [9]) (by kernel_rfl) (by simp) ?_
          refine AllReadyH.cons (o := ⟨some 7, _, _, _, _, _⟩) rfl (fun K hK => ?_) (AllReadyH.nil)
          go_simp
          have K5 : Hid (Blk (x4.alloc (.cells #[.int .i64 0, .pointer none] 60)) x4.heap.size 60 [.int .i64 0, .pointer none]) := Blk.new x4 60 _
          have hb5 : Below x4.heap.size x4 (x4.alloc (.cells #[.int .i64 0, .pointer none] 60)) := (Below.refl _ x4).alloc (Nat.le_refl _) (.cells #[.int .i64 0, .pointer none] 60)
          have M5 := Lib.hid (M4.out.below hb5)
          have P5 := Lib.hid (P4.out.below hb5)
          have HBb : Hid (w.heap.size ≤ x4.heap.size) := M4.out.far.size
          have HBA := Lib.hid (HEL.out x4 M4.out.els)
          have HPb : Hid (P ≠ x4.heap.size) := by have := P4.out.lt; show _ ≠ _; omega
          refine hK.out _ _ ?_ (fun _ => ?_)
          · exact ⟨M5.out.box.cells.1, P5.out⟩
          clear hK K M4 P4 H4 hb5
          try simp only [Act.put, List.setIfInBounds_toArray, List.set_cons_zero, List.set_cons_succ]
          generalize x4.alloc (.cells #[.int .i64 0, .pointer none] 60) = x5 at *
          generalize x4.heap.size = b at *
          refine wpAnyH_ready (rs := [10]) (by kernel_rfl) (by simp) ?_
          refine AllReadyH.cons (o := ⟨none, _, _, _, _, _⟩) rfl (fun K hK => ?_) (AllReadyH.nil)
          refine step_layT (by rfl) 60 2 size60 (.tmp 7) (.tmp 28) (by rfl) b [.int .i64 u, .pointer (some ⟨tb, 0, none⟩)] (by rfl) (by rfl) 60 [.int .i64 0, .pointer none] K5.out rfl rfl (stay_one _ _) ?_
          intro x6 K6 F6
          have M6 := Lib.hid (M5.out.past F6.out HBb.out (fun ad e hh => HBA.out ad e hh))
          have P6 := Lib.hid (P5.out.far F6.out (fun e => by have h1 : P = b := e; exact HPb.out h1))
          have c6 : x6.cell? ⟨b, 0, none⟩ = some (.int .i64 u) := K6.out.cell 0
          refine hK.out _ _ ?_ (fun _ => ?_)
          · exact ⟨M6.out.box.cells.1, P6.out⟩
          clear hK K K6 F6 K5 M5 P5
          try simp only [Act.put]
          have H6 : Hid (x6.cell? ⟨g, 0, none⟩ = some (.pointer (some ⟨h, 0, none⟩)) ∧ Blk x6 P 31 p.cs) := ⟨M6.out.box.cells.1, P6.out⟩
          refine wpAnyH_take (i := 11) (oi := ⟨some 8, _, _, _, _, _⟩) (v := ?_) rfl (by kernel_rfl) (by kernel_rfl) (by kernel_rfl) (fun _ _ _ h => h) (Or.inl ⟨by rfl, ?_⟩) H6.out ?_
          rotate_left
          · (intro W hSW; clear hSW; go_simp)
            first | done | (with_reducible rfl)
          try simp only [Act.put, List.setIfInBounds_toArray, List.set_cons_zero, List.set_cons_succ]
          refine wpAnyH_done (by kernel_rfl) ?_ _
          clear H6
          go_upto_region 8 with fail
          have HT0 : Hid (x6.drew.cell? ⟨g, 0, none⟩ = some (.pointer (some ⟨h, 0, none⟩)) ∧ Blk x6.drew P 31 p.cs) := ⟨M6.out.box.cells.1, P6.out⟩
          have M7 := Lib.hid M6.out.drew
          clear M6 P6 c6
          refine wp_region_held_drew (S := fun W => W.cell? ⟨g, 0, none⟩ = some (.pointer (some ⟨h, 0, none⟩)) ∧ Blk W P 31 p.cs) (by kernel_rfl) ?_ (fun _ => ?_)
          · exact HT0.out
          generalize x6.drew = x7 at *
          refine wpAnyH_take (i := 0) (oi := ⟨some 34, _, _, _, _, _⟩) (v := ?_) rfl (by kernel_rfl) (by kernel_rfl) (by kernel_rfl) (fun _ _ _ h => h) (Or.inl ⟨by rfl, ?_⟩) HT0.out ?_
          rotate_left
          · (intro W hSW; clear hSW; go_simp)
            first | done | (with_reducible rfl)
          try simp only [Act.put, List.setIfInBounds_toArray, List.set_cons_zero, List.set_cons_succ]
          refine wpAnyH_take (i := 1) (oi := ⟨some 35, _, _, _, _, _⟩) (v := ?_) rfl (by kernel_rfl) (by kernel_rfl) (by kernel_rfl) (fun _ _ _ h => h) (Or.inl ⟨by rfl, ?_⟩) HT0.out ?_
          rotate_left
          · (intro W hSW; clear hSW; go_simp)
            first | done | (with_reducible rfl)
          try simp only [Act.put, List.setIfInBounds_toArray, List.set_cons_zero, List.set_cons_succ]
          refine wpAnyH_take (i := 2) (oi := ⟨some 36, _, _, _, _, _⟩) (v := ?_) rfl (by kernel_rfl) (by kernel_rfl) (by kernel_rfl) (fun _ _ _ h => h) (Or.inl ⟨by rfl, ?_⟩) HT0.out ?_
          rotate_left
          · (intro W hSW; clear hSW; go_simp)
            first | done | (with_reducible rfl)
          try simp only [Act.put, List.setIfInBounds_toArray, List.set_cons_zero, List.set_cons_succ]
          refine wpAnyH_take (i := 3) (oi := ⟨some 37, _, _, _, _, _⟩) (v := .pointer (some ⟨h, 0, none⟩)) rfl (by kernel_rfl) (by kernel_rfl) (by kernel_rfl) (fun _ _ _ h => h) (Or.inl ⟨by rfl, ?_⟩) HT0.out ?_
          · (intro W hSW; have hc := hSW.1; clear hSW; go_simp)
          try simp only [Act.put, List.setIfInBounds_toArray, List.set_cons_zero, List.set_cons_succ]
          refine wpAnyH_take (i := 4) (oi := ⟨some 38, _, _, _, _, _⟩) (v := .agg p.cs.toArray) rfl (by kernel_rfl) (by kernel_rfl) (by kernel_rfl) (fun _ _ _ h => h) (yields_pre (by rfl) (.tmp 6) rfl P 0 rfl p (fun _ h => whole_at h.2)) HT0.out ?_
          try simp only [Act.put, List.setIfInBounds_toArray, List.set_cons_zero, List.set_cons_succ]
          refine wpAnyH_ready (rs := [5]) (by kernel_rfl) (by simp) ?_
          refine AllReadyH.cons (o := ⟨some 39, _, _, _, _, _⟩) rfl (fun K hK => ?_) AllReadyH.nil
          go_simp
          refine (delT_ f h q n _ p _ M7.out.box.tab HPO.out.1 HPO.out.2).mono ?_
          rintro e x1 ⟨rfl, ht, hf⟩
          have P8 := Lib.hid (HT0.out.2.far hf (fun e => by have h1 := HPP.out; rcases e with e | e; exact h1.1 e; exact h1.2 e))
          have M8 := Lib.hid (M7.out.turn ht hf (fun e he => del_mem e he))
          have HT1 : Hid (x1.cell? ⟨g, 0, none⟩ = some (.pointer (some ⟨h, 0, none⟩)) ∧ Blk x1 P 31 p.cs) := ⟨M8.out.box.cells.1, P8.out⟩
          clear ht hf M7 P8
          go_simp
          refine hK.out _ _ ?_ (fun _ => ?_)
          · exact HT1.out
          clear hK K
          try simp only [Act.put, List.setIfInBounds_toArray, List.set_cons_zero, List.set_cons_succ]
          refine wpAnyH_done (by kernel_rfl) ?_ _
          clear HT0 HT1
          go_wp2_with fail
          go_roundw
          case rel => exact ⟨k + 1, by omega, by go_num, HX.out ▸ M8.out⟩
          case measure => simp [intOf]; omega
        · go_simp
          have K4 : Hid (Blk (x3.alloc (.cells #[.int .i64 0, .pointer none] 60)) x3.heap.size 60 [.int .i64 0, .pointer none]) := Blk.new x3 60 _
          have hb4 : Below x3.heap.size x3 (x3.alloc (.cells #[.int .i64 0, .pointer none] 60)) := (Below.refl _ x3).alloc (Nat.le_refl _) (.cells #[.int .i64 0, .pointer none] 60)
          have M4 := Lib.hid (M3.out.below hb4)
          have P4 := Lib.hid (P3.out.below hb4)
          have HBb : Hid (w.heap.size ≤ x3.heap.size) := M3.out.far.size
          have HBA := Lib.hid (HEL.out x3 M3.out.els)
          have HPb : Hid (P ≠ x3.heap.size) := by have := P3.out.lt; show _ ≠ _; omega
          refine hK.out _ _ ?_ (fun _ => ?_)
          · exact ⟨M4.out.box.cells.1, P4.out⟩
          clear hK K M3 P3 H3 hb4
          try simp only [Act.put, List.setIfInBounds_toArray, List.set_cons_zero, List.set_cons_succ]
          generalize (x3.alloc (.cells #[.int .i64 0, .pointer none] 60)) = x4 at *
          generalize x3.heap.size = b at *
          refine wpAnyH_ready (rs := [5]) (by kernel_rfl) (by simp) ?_
          refine AllReadyH.cons (o := ⟨some 27, _, _, _, _, _⟩) rfl (fun K hK => ?_) (AllReadyH.nil)
          go_simp
          refine (HGET.out _ M4.out.box).mono ?_
          rintro e x5 ⟨rfl, hb⟩
          have M5 := Lib.hid (M4.out.below hb)
          have P5 := Lib.hid (P4.out.below hb)
          have K5 := Lib.hid (K4.out.below hb)
          clear hb M4 P4 K4
          have H5 : Hid (x5.cell? ⟨g, 0, none⟩ = some (.pointer (some ⟨h, 0, none⟩)) ∧ Blk x5 P 31 p.cs) := ⟨M5.out.box.cells.1, P5.out⟩
          go_simp
          refine hK.out _ _ ?_ (fun _ => ?_)
          · exact H5.out
          clear hK K
          try simp only [Act.put, List.setIfInBounds_toArray, List.set_cons_zero, List.set_cons_succ]
          refine wpAnyH_take (i := 6) (oi := ⟨some 21, _, _, _, _, _⟩) (v := ?_) rfl (by kernel_rfl) (by kernel_rfl) (by kernel_rfl) (fun _ _ _ h => h) (Or.inl ⟨by rfl, ?_⟩) H5.out ?_
          rotate_left
          · (intro W hSW; clear hSW; go_simp)
            first | done | (with_reducible rfl)
          try simp only [Act.put, List.setIfInBounds_toArray, List.set_cons_zero, List.set_cons_succ]
          refine wpAnyH_take (i := 7) (oi := ⟨some 28, _, _, _, _, _⟩) (v := ?_) rfl (by kernel_rfl) (by kernel_rfl) (by kernel_rfl) (fun _ _ _ h => h) (Or.inl ⟨by rfl, ?_⟩) H5.out ?_
          rotate_left
          · (intro W hSW; clear hSW; go_simp)
            first | done | (with_reducible rfl)
          try simp only [Act.put, List.setIfInBounds_toArray, List.set_cons_zero, List.set_cons_succ]
          refine wpAnyH_take (i := 8) (oi := ⟨some 29, _, _, _, _, _⟩) (v := ?_) rfl (by kernel_rfl) (by kernel_rfl) (by kernel_rfl) (fun _ _ _ h => h) (Or.inl ⟨by rfl, ?_⟩) H5.out ?_
          rotate_left
          · (intro W hSW; clear hSW; go_simp)
            first | done | (with_reducible rfl)
          try simp only [Act.put, List.setIfInBounds_toArray, List.set_cons_zero, List.set_cons_succ]
          clear H5
          refine wpAnyH_ready (rs := [10]) (by kernel_rfl) (by simp) ?_
          refine AllReadyH.cons (o := ⟨none, _, _, _, _, _⟩) rfl (fun K hK => ?_) (AllReadyH.nil)
          refine step_layT (by rfl) 60 2 size60 (.tmp 7) (.tmp 28) (by rfl) b [.int .i64 u, .pointer (some ⟨tb, 0, none⟩)] (by rfl) (by rfl) 60 [.int .i64 0, .pointer none] K5.out rfl rfl (stay_one _ _) ?_
          intro x6 K6 F6
          have M6 := Lib.hid (M5.out.past F6.out HBb.out (fun ad e hh => HBA.out ad e hh))
          have P6 := Lib.hid (P5.out.far F6.out (fun e => by have h1 : P = b := e; exact HPb.out h1))
          have c6 : x6.cell? ⟨b, 0, none⟩ = some (.int .i64 u) := K6.out.cell 0
          refine hK.out _ _ ?_ (fun _ => ?_)
          · exact ⟨M6.out.box.cells.1, P6.out⟩
          clear hK K K6 F6 K5 M5 P5
          try simp only [Act.put]
          have H6 : Hid (x6.cell? ⟨g, 0, none⟩ = some (.pointer (some ⟨h, 0, none⟩)) ∧ Blk x6 P 31 p.cs) := ⟨M6.out.box.cells.1, P6.out⟩
          refine wpAnyH_take (i := 11) (oi := ⟨some 8, _, _, _, _, _⟩) (v := ?_) rfl (by kernel_rfl) (by kernel_rfl) (by kernel_rfl) (fun _ _ _ h => h) (Or.inl ⟨by rfl, ?_⟩) H6.out ?_
          rotate_left
          · (intro W hSW; clear hSW; go_simp)
            first | done | (with_reducible rfl)
          try simp only [Act.put, List.setIfInBounds_toArray, List.set_cons_zero, List.set_cons_succ]
          refine wpAnyH_done (by kernel_rfl) ?_ _
          clear H6
          go_upto_region 8 with fail
          have HT0 : Hid (x6.drew.cell? ⟨g, 0, none⟩ = some (.pointer (some ⟨h, 0, none⟩)) ∧ Blk x6.drew P 31 p.cs) := ⟨M6.out.box.cells.1, P6.out⟩
          have M7 := Lib.hid M6.out.drew
          clear M6 P6 c6
          refine wp_region_held_drew (S := fun W => W.cell? ⟨g, 0, none⟩ = some (.pointer (some ⟨h, 0, none⟩)) ∧ Blk W P 31 p.cs) (by kernel_rfl) ?_ (fun _ => ?_)
          · exact HT0.out
          generalize x6.drew = x7 at *
          refine wpAnyH_take (i := 0) (oi := ⟨some 34, _, _, _, _, _⟩) (v := ?_) rfl (by kernel_rfl) (by kernel_rfl) (by kernel_rfl) (fun _ _ _ h => h) (Or.inl ⟨by rfl, ?_⟩) HT0.out ?_
          rotate_left
          · (intro W hSW; clear hSW; go_simp)
            first | done | (with_reducible rfl)
          try simp only [Act.put, List.setIfInBounds_toArray, List.set_cons_zero, List.set_cons_succ]
          refine wpAnyH_take (i := 1) (oi := ⟨some 35, _, _, _, _, _⟩) (v := ?_) rfl (by kernel_rfl) (by kernel_rfl) (by kernel_rfl) (fun _ _ _ h => h) (Or.inl ⟨by rfl, ?_⟩) HT0.out ?_
          rotate_left
          · (intro W hSW; clear hSW; go_simp)
            first | done | (with_reducible rfl)
          try simp only [Act.put, List.setIfInBounds_toArray, List.set_cons_zero, List.set_cons_succ]
          refine wpAnyH_take (i := 2) (oi := ⟨some 36, _, _, _, _, _⟩) (v := ?_) rfl (by kernel_rfl) (by kernel_rfl) (by kernel_rfl) (fun _ _ _ h => h) (Or.inl ⟨by rfl, ?_⟩) HT0.out ?_
          rotate_left
          · (intro W hSW; clear hSW; go_simp)
            first | done | (with_reducible rfl)
          try simp only [Act.put, List.setIfInBounds_toArray, List.set_cons_zero, List.set_cons_succ]
          refine wpAnyH_take (i := 3) (oi := ⟨some 37, _, _, _, _, _⟩) (v := .pointer (some ⟨h, 0, none⟩)) rfl (by kernel_rfl) (by kernel_rfl) (by kernel_rfl) (fun _ _ _ h => h) (Or.inl ⟨by rfl, ?_⟩) HT0.out ?_
          · (intro W hSW; have hc := hSW.1; clear hSW; go_simp)
          try simp only [Act.put, List.setIfInBounds_toArray, List.set_cons_zero, List.set_cons_succ]
          refine wpAnyH_take (i := 4) (oi := ⟨some 38, _, _, _, _, _⟩) (v := .agg p.cs.toArray) rfl (by kernel_rfl) (by kernel_rfl) (by kernel_rfl) (fun _ _ _ h => h) (yields_pre (by rfl) (.tmp 6) rfl P 0 rfl p (fun _ h => whole_at h.2)) HT0.out ?_
          try simp only [Act.put, List.setIfInBounds_toArray, List.set_cons_zero, List.set_cons_succ]
          refine wpAnyH_ready (rs := [5]) (by kernel_rfl) (by simp) ?_
          refine AllReadyH.cons (o := ⟨some 39, _, _, _, _, _⟩) rfl (fun K hK => ?_) AllReadyH.nil
          go_simp
          refine (delT_ f h q n _ p _ M7.out.box.tab HPO.out.1 HPO.out.2).mono ?_
          rintro e x1 ⟨rfl, ht, hf⟩
          have P8 := Lib.hid (HT0.out.2.far hf (fun e => by have h1 := HPP.out; rcases e with e | e; exact h1.1 e; exact h1.2 e))
          have M8 := Lib.hid (M7.out.turn ht hf (fun e he => del_mem e he))
          have HT1 : Hid (x1.cell? ⟨g, 0, none⟩ = some (.pointer (some ⟨h, 0, none⟩)) ∧ Blk x1 P 31 p.cs) := ⟨M8.out.box.cells.1, P8.out⟩
          clear ht hf M7 P8
          go_simp
          refine hK.out _ _ ?_ (fun _ => ?_)
          · exact HT1.out
          clear hK K
          try simp only [Act.put, List.setIfInBounds_toArray, List.set_cons_zero, List.set_cons_succ]
          refine wpAnyH_done (by kernel_rfl) ?_ _
          clear HT0 HT1
          go_wp2_with fail
          go_roundw
          case rel => exact ⟨k + 1, by omega, by go_num, HX.out ▸ M8.out⟩
          case measure => simp [intOf]; omega
      · have HX : Hid (mid L k x = mid L (k + 1) x) := (hxs (by rw [clm_le HU.out]; omega)).symm
        clear hxs hxo HU HG HST hs0
        generalize (at_ L k).u = u at *
        generalize (at_ L k).p = p at *
        generalize mid L k x = Lk at *
        subst hA0
        go_upto_region 6 with (first | (refine wpList_pre (by rfl) (.tmp 19) rfl q0 (o0 + k * 8) rfl p HSP.out ?_) | (refine wpList_newp rfl (.tmp 6) (.tmp 20) rfl wr p rfl rfl ?_; intro x2 P2 hb2; have M2 := Lib.hid (M1.out.below hb2.out); clear hb2))
        clear M1 HSP
        generalize wr.heap.size = P at *
        refine wp_region_held_drew (S := fun W => W.cell? ⟨g, 0, none⟩ = some (.pointer (some ⟨h, 0, none⟩)) ∧ Blk W P 31 p.cs) (by kernel_rfl) ?_ (fun _ => ?_)
        · exact ⟨M2.out.box.cells.1, P2.out⟩
        have M3 := Lib.hid M2.out.drew
        have P3 : Hid (Blk x2.drew P 31 p.cs) := P2.out
        clear M2 P2
        generalize x2.drew = x3 at *
        have H3 : Hid (x3.cell? ⟨g, 0, none⟩ = some (.pointer (some ⟨h, 0, none⟩)) ∧ Blk x3 P 31 p.cs) := ⟨M3.out.box.cells.1, P3.out⟩
        refine wpAnyH_take (i := 0) (oi := ⟨some 22, _, _, _, _, _⟩) (v := ?_) rfl (by kernel_rfl) (by kernel_rfl) (by kernel_rfl) (fun _ _ _ h => h) (Or.inl ⟨by rfl, ?_⟩) H3.out ?_
        rotate_left
        · (intro W hSW; clear hSW; go_simp)
          first | done | (with_reducible rfl)
        try simp only [Act.put, List.setIfInBounds_toArray, List.set_cons_zero, List.set_cons_succ]
        refine wpAnyH_take (i := 1) (oi := ⟨some 23, _, _, _, _, _⟩) (v := ?_) rfl (by kernel_rfl) (by kernel_rfl) (by kernel_rfl) (fun _ _ _ h => h) (Or.inl ⟨by rfl, ?_⟩) H3.out ?_
        rotate_left
        · (intro W hSW; clear hSW; go_simp)
          first | done | (with_reducible rfl)
        try simp only [Act.put, List.setIfInBounds_toArray, List.set_cons_zero, List.set_cons_succ]
        refine wpAnyH_take (i := 2) (oi := ⟨some 24, _, _, _, _, _⟩) (v := ?_) rfl (by kernel_rfl) (by kernel_rfl) (by kernel_rfl) (fun _ _ _ h => h) (Or.inl ⟨by rfl, ?_⟩) H3.out ?_
        rotate_left
        · (intro W hSW; clear hSW; go_simp)
          first | done | (with_reducible rfl)
        try simp only [Act.put, List.setIfInBounds_toArray, List.set_cons_zero, List.set_cons_succ]
        refine wpAnyH_take (i := 3) (oi := ⟨some 25, _, _, _, _, _⟩) (v := .pointer (some ⟨h, 0, none⟩)) rfl (by kernel_rfl) (by kernel_rfl) (by kernel_rfl) (fun _ _ _ h => h) (Or.inl ⟨by rfl, ?_⟩) H3.out ?_
        · (intro W hSW; have hc := hSW.1; clear hSW; go_simp)
        try simp only [Act.put, List.setIfInBounds_toArray, List.set_cons_zero, List.set_cons_succ]
        refine wpAnyH_take (i := 4) (oi := ⟨some 26, _, _, _, _, _⟩) (v := .agg p.cs.toArray) rfl (by kernel_rfl) (by kernel_rfl) (by kernel_rfl) (fun _ _ _ h => h) (yields_pre (by rfl) (.tmp 6) rfl P 0 rfl p (fun _ h => whole_at h.2)) H3.out ?_
        try simp only [Act.put, List.setIfInBounds_toArray, List.set_cons_zero, List.set_cons_succ]
        refine wpAnyH_ready (rs := [5, 9]) (by kernel_rfl) (by simp) ?_
        refine AllReadyH.cons (o := ⟨some 27, _, _, _, _, _⟩) rfl (fun K hK => ?_) (AllReadyH.cons (o := ⟨some 7, _, _, _, _, _⟩) rfl (fun K hK => ?_) (AllReadyH.nil))
        · go_simp
          refine (HGET.out _ M3.out.box).mono ?_
          rintro e x4 ⟨rfl, hb⟩
          have M4 := Lib.hid (M3.out.below hb)
          have P4 := Lib.hid (P3.out.below hb)
          clear hb M3 P3 H3
          have H4 : Hid (x4.cell? ⟨g, 0, none⟩ = some (.pointer (some ⟨h, 0, none⟩)) ∧ Blk x4 P 31 p.cs) := ⟨M4.out.box.cells.1, P4.out⟩
          go_simp
          refine hK.out _ _ ?_ (fun _ => ?_)
          · exact H4.out
          clear hK K
          try simp only [Act.put, List.setIfInBounds_toArray, List.set_cons_zero, List.set_cons_succ]
          refine wpAnyH_take (i := 6) (oi := ⟨some 21, _, _, _, _, _⟩) (v := ?_) rfl (by kernel_rfl) (by kernel_rfl) (by kernel_rfl) (fun _ _ _ h => h) (Or.inl ⟨by rfl, ?_⟩) H4.out ?_
          rotate_left
          · (intro W hSW; clear hSW; go_simp)
            first | done | (with_reducible rfl)
          try simp only [Act.put, List.setIfInBounds_toArray, List.set_cons_zero, List.set_cons_succ]
          refine wpAnyH_take (i := 7) (oi := ⟨some 28, _, _, _, _, _⟩) (v := ?_) rfl (by kernel_rfl) (by kernel_rfl) (by kernel_rfl) (fun _ _ _ h => h) (Or.inl ⟨by rfl, ?_⟩) H4.out ?_
          rotate_left
          · (intro W hSW; clear hSW; go_simp)
            first | done | (with_reducible rfl)
          try simp only [Act.put, List.setIfInBounds_toArray, List.set_cons_zero, List.set_cons_succ]
          refine wpAnyH_take (i := 8) (oi := ⟨some 29, _, _, _, _, _⟩) (v := ?_) rfl (by kernel_rfl) (by kernel_rfl) (by kernel_rfl) (fun _ _ _ h => h) (Or.inl ⟨by rfl, ?_⟩) H4.out ?_
          rotate_left
          · (intro W hSW; clear hSW; go_simp)
            first | done | (with_reducible rfl)
          try simp only [Act.put, List.setIfInBounds_toArray, List.set_cons_zero, List.set_cons_succ]
          refine wpAnyH_ready (rs := [9]) (by kernel_rfl) (by simp) ?_
          refine AllReadyH.cons (o := ⟨some 7, _, _, _, _, _⟩) rfl (fun K hK => ?_) (AllReadyH.nil)
          go_simp
          have K5 : Hid (Blk (x4.alloc (.cells #[.int .i64 0, .pointer none] 60)) x4.heap.size 60 [.int .i64 0, .pointer none]) := Blk.new x4 60 _
          have hb5 : Below x4.heap.size x4 (x4.alloc (.cells #[.int .i64 0, .pointer none] 60)) := (Below.refl _ x4).alloc (Nat.le_refl _) (.cells #[.int .i64 0, .pointer none] 60)
          have M5 := Lib.hid (M4.out.below hb5)
          have P5 := Lib.hid (P4.out.below hb5)
          have HBb : Hid (w.heap.size ≤ x4.heap.size) := M4.out.far.size
          have HBA := Lib.hid (HEL.out x4 M4.out.els)
          have HPb : Hid (P ≠ x4.heap.size) := by have := P4.out.lt; show _ ≠ _; omega
          refine hK.out _ _ ?_ (fun _ => ?_)
          · exact ⟨M5.out.box.cells.1, P5.out⟩
          clear hK K M4 P4 H4 hb5
          try simp only [Act.put, List.setIfInBounds_toArray, List.set_cons_zero, List.set_cons_succ]
          generalize x4.alloc (.cells #[.int .i64 0, .pointer none] 60) = x5 at *
          generalize x4.heap.size = b at *
          refine wpAnyH_ready (rs := [10]) (by kernel_rfl) (by simp) ?_
          refine AllReadyH.cons (o := ⟨none, _, _, _, _, _⟩) rfl (fun K hK => ?_) (AllReadyH.nil)
          refine step_layT (by rfl) 60 2 size60 (.tmp 7) (.tmp 28) (by rfl) b [.int .i64 u, .pointer (some ⟨tb, 0, none⟩)] (by rfl) (by rfl) 60 [.int .i64 0, .pointer none] K5.out rfl rfl (stay_one _ _) ?_
          intro x6 K6 F6
          have M6 := Lib.hid (M5.out.past F6.out HBb.out (fun ad e hh => HBA.out ad e hh))
          have P6 := Lib.hid (P5.out.far F6.out (fun e => by have h1 : P = b := e; exact HPb.out h1))
          have c6 : x6.cell? ⟨b, 0, none⟩ = some (.int .i64 u) := K6.out.cell 0
          refine hK.out _ _ ?_ (fun _ => ?_)
          · exact ⟨M6.out.box.cells.1, P6.out⟩
          clear hK K K6 F6 K5 M5 P5
          try simp only [Act.put]
          have H6 : Hid (x6.cell? ⟨g, 0, none⟩ = some (.pointer (some ⟨h, 0, none⟩)) ∧ Blk x6 P 31 p.cs) := ⟨M6.out.box.cells.1, P6.out⟩
          refine wpAnyH_take (i := 11) (oi := ⟨some 8, _, _, _, _, _⟩) (v := ?_) rfl (by kernel_rfl) (by kernel_rfl) (by kernel_rfl) (fun _ _ _ h => h) (Or.inl ⟨by rfl, ?_⟩) H6.out ?_
          rotate_left
          · (intro W hSW; clear hSW; go_simp)
            first | done | (with_reducible rfl)
          try simp only [Act.put, List.setIfInBounds_toArray, List.set_cons_zero, List.set_cons_succ]
          refine wpAnyH_done (by kernel_rfl) ?_ _
          clear H6
          go_wp2_with fail
          go_roundw
          case rel => exact ⟨k + 1, by omega, by go_num, HX.out ▸ M6.out⟩
          case measure => simp [intOf]; omega
        · go_simp
          have K4 : Hid (Blk (x3.alloc (.cells #[.int .i64 0, .pointer none] 60)) x3.heap.size 60 [.int .i64 0, .pointer none]) := Blk.new x3 60 _
          have hb4 : Below x3.heap.size x3 (x3.alloc (.cells #[.int .i64 0, .pointer none] 60)) := (Below.refl _ x3).alloc (Nat.le_refl _) (.cells #[.int .i64 0, .pointer none] 60)
          have M4 := Lib.hid (M3.out.below hb4)
          have P4 := Lib.hid (P3.out.below hb4)
          have HBb : Hid (w.heap.size ≤ x3.heap.size) := M3.out.far.size
          have HBA := Lib.hid (HEL.out x3 M3.out.els)
          have HPb : Hid (P ≠ x3.heap.size) := by have := P3.out.lt; show _ ≠ _; omega
          refine hK.out _ _ ?_ (fun _ => ?_)
          · exact ⟨M4.out.box.cells.1, P4.out⟩
          clear hK K M3 P3 H3 hb4
          try simp only [Act.put, List.setIfInBounds_toArray, List.set_cons_zero, List.set_cons_succ]
          generalize (x3.alloc (.cells #[.int .i64 0, .pointer none] 60)) = x4 at *
          generalize x3.heap.size = b at *
          refine wpAnyH_ready (rs := [5]) (by kernel_rfl) (by simp) ?_
          refine AllReadyH.cons (o := ⟨some 27, _, _, _, _, _⟩) rfl (fun K hK => ?_) (AllReadyH.nil)
          go_simp
          refine (HGET.out _ M4.out.box).mono ?_
          rintro e x5 ⟨rfl, hb⟩
          have M5 := Lib.hid (M4.out.below hb)
          have P5 := Lib.hid (P4.out.below hb)
          have K5 := Lib.hid (K4.out.below hb)
          clear hb M4 P4 K4
          have H5 : Hid (x5.cell? ⟨g, 0, none⟩ = some (.pointer (some ⟨h, 0, none⟩)) ∧ Blk x5 P 31 p.cs) := ⟨M5.out.box.cells.1, P5.out⟩
          go_simp
          refine hK.out _ _ ?_ (fun _ => ?_)
          · exact H5.out
          clear hK K
          try simp only [Act.put, List.setIfInBounds_toArray, List.set_cons_zero, List.set_cons_succ]
          refine wpAnyH_take (i := 6) (oi := ⟨some 21, _, _, _, _, _⟩) (v := ?_) rfl (by kernel_rfl) (by kernel_rfl) (by kernel_rfl) (fun _ _ _ h => h) (Or.inl ⟨by rfl, ?_⟩) H5.out ?_
          rotate_left
          · (intro W hSW; clear hSW; go_simp)
            first | done | (with_reducible rfl)
          try simp only [Act.put, List.setIfInBounds_toArray, List.set_cons_zero, List.set_cons_succ]
          refine wpAnyH_take (i := 7) (oi := ⟨some 28, _, _, _, _, _⟩) (v := ?_) rfl (by kernel_rfl) (by kernel_rfl) (by kernel_rfl) (fun _ _ _ h => h) (Or.inl ⟨by rfl, ?_⟩) H5.out ?_
          rotate_left
          · (intro W hSW; clear hSW; go_simp)
            first | done | (with_reducible rfl)
          try simp only [Act.put, List.setIfInBounds_toArray, List.set_cons_zero, List.set_cons_succ]
          refine wpAnyH_take (i := 8) (oi := ⟨some 29, _, _, _, _, _⟩) (v := ?_) rfl (by kernel_rfl) (by kernel_rfl) (by kernel_rfl) (fun _ _ _ h => h) (Or.inl ⟨by rfl, ?_⟩) H5.out ?_
          rotate_left
          · (intro W hSW; clear hSW; go_simp)
            first | done | (with_reducible rfl)
          try simp only [Act.put, List.setIfInBounds_toArray, List.set_cons_zero, List.set_cons_succ]
          clear H5
          refine wpAnyH_ready (rs := [10]) (by kernel_rfl) (by simp) ?_
          refine AllReadyH.cons (o := ⟨none, _, _, _, _, _⟩) rfl (fun K hK => ?_) (AllReadyH.nil)
          refine step_layT (by rfl) 60 2 size60 (.tmp 7) (.tmp 28) (by rfl) b [.int .i64 u, .pointer (some ⟨tb, 0, none⟩)] (by rfl) (by rfl) 60 [.int .i64 0, .pointer none] K5.out rfl rfl (stay_one _ _) ?_
          intro x6 K6 F6
          have M6 := Lib.hid (M5.out.past F6.out HBb.out (fun ad e hh => HBA.out ad e hh))
          have P6 := Lib.hid (P5.out.far F6.out (fun e => by have h1 : P = b := e; exact HPb.out h1))
          have c6 : x6.cell? ⟨b, 0, none⟩ = some (.int .i64 u) := K6.out.cell 0
          refine hK.out _ _ ?_ (fun _ => ?_)
          · exact ⟨M6.out.box.cells.1, P6.out⟩
          clear hK K K6 F6 K5 M5 P5
          try simp only [Act.put]
          have H6 : Hid (x6.cell? ⟨g, 0, none⟩ = some (.pointer (some ⟨h, 0, none⟩)) ∧ Blk x6 P 31 p.cs) := ⟨M6.out.box.cells.1, P6.out⟩
          refine wpAnyH_take (i := 11) (oi := ⟨some 8, _, _, _, _, _⟩) (v := ?_) rfl (by kernel_rfl) (by kernel_rfl) (by kernel_rfl) (fun _ _ _ h => h) (Or.inl ⟨by rfl, ?_⟩) H6.out ?_
          rotate_left
          · (intro W hSW; clear hSW; go_simp)
            first | done | (with_reducible rfl)
          try simp only [Act.put, List.setIfInBounds_toArray, List.set_cons_zero, List.set_cons_succ]
          refine wpAnyH_done (by kernel_rfl) ?_ _
          clear H6
          go_wp2_with fail
          go_roundw
          case rel => exact ⟨k + 1, by omega, by go_num, HX.out ▸ M6.out⟩
          case measure => simp [intOf]; omega
    · have hkn : k = l := by omega
      subst hkn
      have c0 := M1.out.box.cells.1
      have FIN : Hid (BAtOut f h q n g C (swp L x) w (.returned (.pointer (some ⟨h, 0, none⟩))) wr) := ⟨rfl, by have := M1.out.box; rwa [mid_end HN.out.symm] at this, M1.out.far⟩
      clear M1
      go_wp2
      go_ret
      exact FIN.out
end Go.Proofs.Ytpjeeccgpnpokaa
