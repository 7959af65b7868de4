/- The contract of box's Take. Conditions: those of each theorem. -/
import Derived.Test.YtpjeeccgpnpokaaBMem
namespace Go.Proofs.Ytpjeeccgpnpokaa
open Go.RowKit

theorem takeS_no {C : Cfg} {S : List Ent} {p : Pre} {x n : Int} (h : has S p = false) : takeS C S p x n = S := by simp [takeS, h]
set_option maxRecDepth 100000 in
set_option maxHeartbeats 2000000 in
theorem btake_ (f : Pre → Nat) (h q n g : Nat) (C : Cfg) (L : List Ent) (p : Pre) (x k : Int) (w : World) (hb0 : BoxAt f h q n w g C L) (ho : POks L) (hp : p.Ok) (hx : x ≤ 9223372036854775807) :
    Calls Try.prog 14 #[.pointer (some ⟨g, 0, none⟩), .agg p.cs.toArray, .int .i64 x, .int .i64 k] w (BOut f h q n g C L (takeS C (swp L x) p x k) (.bool (takeK C (swp L x) p x k)) w) := by
  have hb1 : Below w.heap.size w (w.alloc (.cells p.cs.toArray 31)) := (Below.refl _ w).alloc (Nat.le_refl _) _
  have M1 : Hid (Inn w f h q n g C L p (w.alloc (.cells p.cs.toArray 31))) := Inn.start hb0 hb1 (Blk.new w 31 p.cs)
  have HAT : Hid (∀ W, BoxAt f h q n W g C L → Calls Try.prog 22 #[.pointer (some ⟨g, 0, none⟩), .int .i64 x] W (BAtOut f h q n g C (swp L x) W)) := fun W hW => bat_ f h q n g C L x W hW ho
  have hos : POks (swp L x) := fun e he => ho e (swp_mem e he)
  obtain ⟨u, ob, bb, hbb, hob, HGET⟩ : ∃ u ob bb, has (swp L x) p = bb ∧ (bb = true → ob = some ⟨f p, 0, none⟩) ∧ Hid (∀ W, BoxAt f h q n W g C (swp L x) → Calls Try.prog 23 #[.pointer (some ⟨h, 0, none⟩), .agg p.cs.toArray] W (Ans (.tuple #[.agg #[.int .i64 u, .pointer ob], .bool bb]) W)) := by
    rcases hh : has (swp L x) p with _ | _
    · exact ⟨0, none, false, rfl, (fun e => by cases e), Lib.hid fun W hW => getT_no f h q n _ p W hW.tab hos hp hh⟩
    · exact ⟨_, _, true, rfl, (fun _ => rfl), Lib.hid fun W hW => getT_yes f h q n _ p W hW.tab hos hp hh (by have := hW.pos _ (at_mem (has_iff.1 hh)); omega)⟩
  have HB := Lib.hid hbb
  have HOB := Lib.hid hob
  have HTN : Hid (bb = false → takeK C (swp L x) p x k = false) := fun e => by simp [takeK, hbb, e]
  have HTK : Hid (∀ W, BoxAt f h q n W g C (swp L x) → bb = true → Calls Try.prog 31 #[.pointer (some ⟨f p, 0, none⟩), .int .i64 x, .int .i64 k] W (TakePost (f p) C.r (C.b * 1048576) (at_ (swp L x) (idx (swp L x) p)).l (at_ (swp L x) (idx (swp L x) p)).m x k W)) := fun W hW e => by
    have hi := has_iff.1 (hbb.trans e)
    have := hW.toks _ (at_mem hi)
    rw [idx_at hi] at this
    exact ktake_ _ _ _ _ _ _ _ _ this hx
  have HTY : Hid (bb = true → okT C.r (C.b * 1048576) (at_ (swp L x) (idx (swp L x) p)).l (at_ (swp L x) (idx (swp L x) p)).m x k = takeK C (swp L x) p x k) := fun e => by
    have hi := has_iff.1 (hbb.trans e)
    unfold takeK tkK
    rw [if_pos (hbb.trans e)]
    exact okT_clm ((hb0.toks _ (swp_mem _ (at_mem hi))).ok.m0)
  have HFI : Hid (∀ W W', Inn w f h q n g C (swp L x) p W → bb = true → TAt W' (f p) C.r (C.b * 1048576) (lef C.r (C.b * 1048576) (at_ (swp L x) (idx (swp L x) p)).l (at_ (swp L x) (idx (swp L x) p)).m x k) (max (at_ (swp L x) (idx (swp L x) p)).m x) → Far (only (f p)) W W' → BOut f h q n g C L (takeS C (swp L x) p x k) (.bool (takeK C (swp L x) p x k)) w (.returned (.bool (takeK C (swp L x) p x k))) W') := fun W W' m hb9 ht hf => by
    have hh := hbb.trans hb9
    have hi := has_iff.1 hh
    refine ⟨rfl, m.box.take hh ht hf, (m.far.mono fun _ e => boxB_two e).trans hf fun i _ e => ?_⟩
    have e' : i = f p := e
    refine .inr (.inr (.inr ⟨_, swp_mem _ (at_mem hi), ?_⟩))
    rw [e', idx_at hi]
  clear hb0 ho hp hos hbb hob hb1
  go_enter Try.func14, Try.ntmps14
  go_upto_region 1 with fail
  generalize (w.alloc (.cells p.cs.toArray 31)) = x1 at *
  have D0 : Hid (Blk x1.drew w.heap.size 31 p.cs) := M1.out.pb
  have M2 := Lib.hid M1.out.drew
  clear M1
  refine wp_region_held_drew (S := fun W => Blk W w.heap.size 31 p.cs) (by kernel_rfl) ?_ (fun _ => ?_)
  · exact D0.out
  generalize x1.drew = x2 at *
  refine wpAnyH_take (i := 0) (oi := ⟨some 12, _, _, _, _, _⟩) (v := ?_) rfl (by kernel_rfl) (by kernel_rfl) (by kernel_rfl) (fun _ _ _ h => h) (Or.inl ⟨by rfl, ?_⟩) D0.out ?_
  rotate_left
  · (intro W hSW; clear hSW; go_simp)
    first | done | (with_reducible rfl)
  try simp only [Act.put, List.setIfInBounds_toArray, List.set_cons_zero, List.set_cons_succ]
  refine wpAnyH_take (i := 1) (oi := ⟨some 13, _, _, _, _, _⟩) (v := ?_) rfl (by kernel_rfl) (by kernel_rfl) (by kernel_rfl) (fun _ _ _ h => h) (Or.inl ⟨by rfl, ?_⟩) D0.out ?_
  rotate_left
  · (intro W hSW; clear hSW; go_simp)
    first | done | (with_reducible rfl)
  try simp only [Act.put, List.setIfInBounds_toArray, List.set_cons_zero, List.set_cons_succ]
  refine wpAnyH_take (i := 3) (oi := ⟨some 15, _, _, _, _, _⟩) (v := .agg p.cs.toArray) rfl (by kernel_rfl) (by kernel_rfl) (by kernel_rfl) (fun _ _ _ h => h) (yields_pre (by rfl) (.tmp 5) rfl _ 0 rfl p (fun _ h => whole_at h)) D0.out ?_
  try simp only [Act.put, List.setIfInBounds_toArray, List.set_cons_zero, List.set_cons_succ]
  refine wpAnyH_ready (rs := [2, 8]) (by kernel_rfl) (by simp) ?_
  refine AllReadyH.cons (o := ⟨some 14, _, _, _, _, _⟩) rfl (fun K hK => ?_) (AllReadyH.cons (o := ⟨some 9, _, _, _, _, _⟩) rfl (fun K hK => ?_) (AllReadyH.nil))
  · go_simp
    refine (HAT.out _ M2.out.box).mono ?_
    rintro e x3 ⟨rfl, hx, hf⟩
    have M3 := Lib.hid (M2.out.turn hx hf swp_mem)
    clear hx hf M2 D0
    have D3 : Hid (Blk _ w.heap.size 31 p.cs) := M3.out.pb
    go_simp
    refine hK.out _ _ ?_ (fun _ => ?_)
    · exact D3.out
    clear hK K
    try simp only [Act.put, List.setIfInBounds_toArray, List.set_cons_zero, List.set_cons_succ]
    refine wpAnyH_ready (rs := [4, 8]) (by kernel_rfl) (by simp) ?_
    refine AllReadyH.cons (o := ⟨some 16, _, _, _, _, _⟩) rfl (fun K hK => ?_) (AllReadyH.cons (o := ⟨some 9, _, _, _, _, _⟩) rfl (fun K hK => ?_) (AllReadyH.nil))
    · go_simp
      refine (HGET.out _ M3.out.box).mono ?_
      rintro e x4 ⟨rfl, hb⟩
      have M4 := Lib.hid (M3.out.below hb)
      clear hb M3 D3
      have D4 : Hid (Blk _ w.heap.size 31 p.cs) := M4.out.pb
      go_simp
      refine hK.out _ _ ?_ (fun _ => ?_)
      · exact D4.out
      clear hK K
      try simp only [Act.put, List.setIfInBounds_toArray, List.set_cons_zero, List.set_cons_succ]
      refine wpAnyH_take (i := 5) (oi := ⟨some 11, _, _, _, _, _⟩) (v := ?_) rfl (by kernel_rfl) (by kernel_rfl) (by kernel_rfl) (fun _ _ _ h => h) (Or.inl ⟨by rfl, ?_⟩) D4.out ?_
      rotate_left
      · (intro W hSW; clear hSW; go_simp)
        first | done | (with_reducible rfl)
      try simp only [Act.put, List.setIfInBounds_toArray, List.set_cons_zero, List.set_cons_succ]
      refine wpAnyH_take (i := 6) (oi := ⟨some 17, _, _, _, _, _⟩) (v := ?_) rfl (by kernel_rfl) (by kernel_rfl) (by kernel_rfl) (fun _ _ _ h => h) (Or.inl ⟨by rfl, ?_⟩) D4.out ?_
      rotate_left
      · (intro W hSW; clear hSW; go_simp)
        first | done | (with_reducible rfl)
      try simp only [Act.put, List.setIfInBounds_toArray, List.set_cons_zero, List.set_cons_succ]
      refine wpAnyH_take (i := 7) (oi := ⟨some 18, _, _, _, _, _⟩) (v := ?_) rfl (by kernel_rfl) (by kernel_rfl) (by kernel_rfl) (fun _ _ _ h => h) (Or.inl ⟨by rfl, ?_⟩) D4.out ?_
      rotate_left
      · (intro W hSW; clear hSW; go_simp)
        first | done | (with_reducible rfl)
      try simp only [Act.put, List.setIfInBounds_toArray, List.set_cons_zero, List.set_cons_succ]
      refine wpAnyH_ready (rs := [8]) (by kernel_rfl) (by simp) ?_
      refine AllReadyH.cons (o := ⟨some 9, _, _, _, _, _⟩) rfl (fun K hK => ?_) (AllReadyH.nil)
      clear D4
      go_simp
      have KM5 : Hid (Blk (x4.alloc (.cells #[.int .i64 0, .pointer none] 60)) x4.heap.size 60 [.int .i64 0, .pointer none]) := Blk.new x4 60 _
      have hb0 : Below x4.heap.size x4 (x4.alloc (.cells #[.int .i64 0, .pointer none] 60)) := (Below.refl _ x4).alloc (Nat.le_refl _) (.cells #[.int .i64 0, .pointer none] 60)
      have HPb : Hid (w.heap.size < x4.heap.size) := M4.out.pb.lt
      have M5 := Lib.hid (M4.out.below hb0)
      refine hK.out _ _ ?_ (fun _ => ?_)
      · exact M5.out.pb
      clear hK K M4 hb0
      try simp only [Act.put, List.setIfInBounds_toArray, List.set_cons_zero, List.set_cons_succ]
      generalize x4.alloc (.cells #[.int .i64 0, .pointer none] 60) = x5 at *
      generalize x4.heap.size = b at *
      refine wpAnyH_ready (rs := [9]) (by kernel_rfl) (by simp) ?_
      refine AllReadyH.cons (o := ⟨none, _, _, _, _, _⟩) rfl (fun K hK => ?_) (AllReadyH.nil)
      refine step_layT (by rfl) 60 2 size60 (.tmp 9) (.tmp 17) (by rfl) b [.int .i64 u, .pointer ob] (by rfl) (by rfl) 60 [.int .i64 0, .pointer none] KM5.out rfl rfl (stay_one _ _) ?_
      intro x6 K9 F9
      have M6 := Lib.hid (M5.out.past F9.out HPb.out)
      have c9 : x6.cell? ⟨b, 1, none⟩ = some (.pointer ob) := K9.out.cell 1
      refine hK.out _ _ ?_ (fun _ => ?_)
      · exact M6.out.pb
      clear hK K K9 F9 KM5 M5
      try simp only [Act.put]
      have D9 : Hid (Blk x6 w.heap.size 31 p.cs) := M6.out.pb
      refine wpAnyH_take (i := 10) (oi := ⟨some 10, _, _, _, _, _⟩) (v := ?_) rfl (by kernel_rfl) (by kernel_rfl) (by kernel_rfl) (fun _ _ _ h => h) (Or.inl ⟨by rfl, ?_⟩) D9.out ?_
      rotate_left
      · (intro W hSW; clear hSW; go_simp)
        first | done | (with_reducible rfl)
      try simp only [Act.put, List.setIfInBounds_toArray, List.set_cons_zero, List.set_cons_succ]
      refine wpAnyH_done (by kernel_rfl) ?_ _
      clear D9
      cases bb
      · have FIN : Hid (BOut f h q n g C L (takeS C (swp L x) p x k) (.bool false) w (.returned (.bool false)) x6) := by
          have e := takeS_no (C := C) (x := x) (n := k) HB.out
          have := M6.out.out (L0 := L) (.bool false)
          rwa [← e] at this
        have HN2 := Lib.hid (HTN.out rfl)
        clear M6 c9 HTN HTK HTY HFI HOB HB
        go_wp2_with fail
        go_ret
        rw [HN2.out]
        exact FIN.out
      · have e9 := HOB.out rfl
        subst e9
        have HTK2 := Lib.hid (fun W hW => HTK.out W hW rfl)
        have HTY2 := Lib.hid (HTY.out rfl)
        have HFI2 := Lib.hid (fun W W' m => HFI.out W W' m rfl)
        clear HTN HTK HTY HFI HOB HB
        go_wp2_with (go_at_call 31; (with_reducible refine (HTK2.out _ M6.out.box).mono ?_); rintro e x7 ⟨rfl, ht, hf⟩; have FIN : Hid (BOut f h q n g C L (takeS C (swp L x) p x k) (.bool (takeK C (swp L x) p x k)) w (.returned (.bool (takeK C (swp L x) p x k))) x7) := HFI2.out _ x7 M6.out ht hf; rw [HTY2.out]; clear ht hf)
        go_ret
        exact FIN.out
    · clear D3
      go_simp
      have KM4 : Hid (Blk (x3.alloc (.cells #[.int .i64 0, .pointer none] 60)) x3.heap.size 60 [.int .i64 0, .pointer none]) := Blk.new x3 60 _
      have hb0 : Below x3.heap.size x3 (x3.alloc (.cells #[.int .i64 0, .pointer none] 60)) := (Below.refl _ x3).alloc (Nat.le_refl _) (.cells #[.int .i64 0, .pointer none] 60)
      have HPb : Hid (w.heap.size < x3.heap.size) := M3.out.pb.lt
      have M4 := Lib.hid (M3.out.below hb0)
      refine hK.out _ _ ?_ (fun _ => ?_)
      · exact M4.out.pb
      clear hK K M3 hb0
      try simp only [Act.put, List.setIfInBounds_toArray, List.set_cons_zero, List.set_cons_succ]
      generalize x3.alloc (.cells #[.int .i64 0, .pointer none] 60) = x4 at *
      generalize x3.heap.size = b at *
      refine wpAnyH_ready (rs := [4]) (by kernel_rfl) (by simp) ?_
      refine AllReadyH.cons (o := ⟨some 16, _, _, _, _, _⟩) rfl (fun K hK => ?_) (AllReadyH.nil)
      go_simp
      refine (HGET.out _ M4.out.box).mono ?_
      rintro e x5 ⟨rfl, hb⟩
      have M5 := Lib.hid (M4.out.below hb)
      have KM5 := Lib.hid (KM4.out.below hb)
      clear hb M4 KM4
      have D5 : Hid (Blk _ w.heap.size 31 p.cs) := M5.out.pb
      go_simp
      refine hK.out _ _ ?_ (fun _ => ?_)
      · exact D5.out
      clear hK K
      try simp only [Act.put, List.setIfInBounds_toArray, List.set_cons_zero, List.set_cons_succ]
      refine wpAnyH_take (i := 5) (oi := ⟨some 11, _, _, _, _, _⟩) (v := ?_) rfl (by kernel_rfl) (by kernel_rfl) (by kernel_rfl) (fun _ _ _ h => h) (Or.inl ⟨by rfl, ?_⟩) D5.out ?_
      rotate_left
      · (intro W hSW; clear hSW; go_simp)
        first | done | (with_reducible rfl)
      try simp only [Act.put, List.setIfInBounds_toArray, List.set_cons_zero, List.set_cons_succ]
      refine wpAnyH_take (i := 6) (oi := ⟨some 17, _, _, _, _, _⟩) (v := ?_) rfl (by kernel_rfl) (by kernel_rfl) (by kernel_rfl) (fun _ _ _ h => h) (Or.inl ⟨by rfl, ?_⟩) D5.out ?_
      rotate_left
      · (intro W hSW; clear hSW; go_simp)
        first | done | (with_reducible rfl)
      try simp only [Act.put, List.setIfInBounds_toArray, List.set_cons_zero, List.set_cons_succ]
      refine wpAnyH_take (i := 7) (oi := ⟨some 18, _, _, _, _, _⟩) (v := ?_) rfl (by kernel_rfl) (by kernel_rfl) (by kernel_rfl) (fun _ _ _ h => h) (Or.inl ⟨by rfl, ?_⟩) D5.out ?_
      rotate_left
      · (intro W hSW; clear hSW; go_simp)
        first | done | (with_reducible rfl)
      try simp only [Act.put, List.setIfInBounds_toArray, List.set_cons_zero, List.set_cons_succ]
      clear D5
      refine wpAnyH_ready (rs := [9]) (by kernel_rfl) (by simp) ?_
      refine AllReadyH.cons (o := ⟨none, _, _, _, _, _⟩) rfl (fun K hK => ?_) (AllReadyH.nil)
      refine step_layT (by rfl) 60 2 size60 (.tmp 9) (.tmp 17) (by rfl) b [.int .i64 u, .pointer ob] (by rfl) (by rfl) 60 [.int .i64 0, .pointer none] KM5.out rfl rfl (stay_one _ _) ?_
      intro x6 K9 F9
      have M6 := Lib.hid (M5.out.past F9.out HPb.out)
      have c9 : x6.cell? ⟨b, 1, none⟩ = some (.pointer ob) := K9.out.cell 1
      refine hK.out _ _ ?_ (fun _ => ?_)
      · exact M6.out.pb
      clear hK K K9 F9 KM5 M5
      try simp only [Act.put]
      have D9 : Hid (Blk x6 w.heap.size 31 p.cs) := M6.out.pb
      refine wpAnyH_take (i := 10) (oi := ⟨some 10, _, _, _, _, _⟩) (v := ?_) rfl (by kernel_rfl) (by kernel_rfl) (by kernel_rfl) (fun _ _ _ h => h) (Or.inl ⟨by rfl, ?_⟩) D9.out ?_
      rotate_left
      · (intro W hSW; clear hSW; go_simp)
        first | done | (with_reducible rfl)
      try simp only [Act.put, List.setIfInBounds_toArray, List.set_cons_zero, List.set_cons_succ]
      refine wpAnyH_done (by kernel_rfl) ?_ _
      clear D9
      cases bb
      · have FIN : Hid (BOut f h q n g C L (takeS C (swp L x) p x k) (.bool false) w (.returned (.bool false)) x6) := by
          have e := takeS_no (C := C) (x := x) (n := k) HB.out
          have := M6.out.out (L0 := L) (.bool false)
          rwa [← e] at this
        have HN2 := Lib.hid (HTN.out rfl)
        clear M6 c9 HTN HTK HTY HFI HOB HB
        go_wp2_with fail
        go_ret
        rw [HN2.out]
        exact FIN.out
      · have e9 := HOB.out rfl
        subst e9
        have HTK2 := Lib.hid (fun W hW => HTK.out W hW rfl)
        have HTY2 := Lib.hid (HTY.out rfl)
        have HFI2 := Lib.hid (fun W W' m => HFI.out W W' m rfl)
        clear HTN HTK HTY HFI HOB HB
        go_wp2_with (go_at_call 31; (with_reducible refine (HTK2.out _ M6.out.box).mono ?_); rintro e x7 ⟨rfl, ht, hf⟩; have FIN : Hid (BOut f h q n g C L (takeS C (swp L x) p x k) (.bool (takeK C (swp L x) p x k)) w (.returned (.bool (takeK C (swp L x) p x k))) x7) := HFI2.out _ x7 M6.out ht hf; rw [HTY2.out]; clear ht hf)
        go_ret
        exact FIN.out
  · clear D0
    go_simp
    have KM3 : Hid (Blk (x2.alloc (.cells #[.int .i64 0, .pointer none] 60)) x2.heap.size 60 [.int .i64 0, .pointer none]) := Blk.new x2 60 _
    have hb0 : Below x2.heap.size x2 (x2.alloc (.cells #[.int .i64 0, .pointer none] 60)) := (Below.refl _ x2).alloc (Nat.le_refl _) (.cells #[.int .i64 0, .pointer none] 60)
    have HPb : Hid (w.heap.size < x2.heap.size) := M2.out.pb.lt
    have M3 := Lib.hid (M2.out.below hb0)
    refine hK.out _ _ ?_ (fun _ => ?_)
    · exact M3.out.pb
    clear hK K M2 hb0
    try simp only [Act.put, List.setIfInBounds_toArray, List.set_cons_zero, List.set_cons_succ]
    generalize x2.alloc (.cells #[.int .i64 0, .pointer none] 60) = x3 at *
    generalize x2.heap.size = b at *
    refine wpAnyH_ready (rs := [2]) (by kernel_rfl) (by simp) ?_
    refine AllReadyH.cons (o := ⟨some 14, _, _, _, _, _⟩) rfl (fun K hK => ?_) (AllReadyH.nil)
    go_simp
    refine (HAT.out _ M3.out.box).mono ?_
    rintro e x4 ⟨rfl, hx, hf⟩
    have M4 := Lib.hid (M3.out.turn hx hf swp_mem)
    have KM4 := Lib.hid (KM3.out.far hf (fun e => by have h3 := M3.out.old; have h4 := HPb.out; rcases e with e | e <;> omega))
    clear hx hf M3 KM3
    have D4 : Hid (Blk _ w.heap.size 31 p.cs) := M4.out.pb
    go_simp
    refine hK.out _ _ ?_ (fun _ => ?_)
    · exact D4.out
    clear hK K
    try simp only [Act.put, List.setIfInBounds_toArray, List.set_cons_zero, List.set_cons_succ]
    refine wpAnyH_ready (rs := [4]) (by kernel_rfl) (by simp) ?_
    refine AllReadyH.cons (o := ⟨some 16, _, _, _, _, _⟩) rfl (fun K hK => ?_) (AllReadyH.nil)
    go_simp
    refine (HGET.out _ M4.out.box).mono ?_
    rintro e x5 ⟨rfl, hb⟩
    have M5 := Lib.hid (M4.out.below hb)
    have KM5 := Lib.hid (KM4.out.below hb)
    clear hb M4 KM4 D4
    have D5 : Hid (Blk _ w.heap.size 31 p.cs) := M5.out.pb
    go_simp
    refine hK.out _ _ ?_ (fun _ => ?_)
    · exact D5.out
    clear hK K
    try simp only [Act.put, List.setIfInBounds_toArray, List.set_cons_zero, List.set_cons_succ]
    refine wpAnyH_take (i := 5) (oi := ⟨some 11, _, _, _, _, _⟩) (v := ?_) rfl (by kernel_rfl) (by kernel_rfl) (by kernel_rfl) (fun _ _ _ h => h) (Or.inl ⟨by rfl, ?_⟩) D5.out ?_
    rotate_left
    · (intro W hSW; clear hSW; go_simp)
      first | done | (with_reducible rfl)
    try simp only [Act.put, List.setIfInBounds_toArray, List.set_cons_zero, List.set_cons_succ]
    refine wpAnyH_take (i := 6) (oi := ⟨some 17, _, _, _, _, _⟩) (v := ?_) rfl (by kernel_rfl) (by kernel_rfl) (by kernel_rfl) (fun _ _ _ h => h) (Or.inl ⟨by rfl, ?_⟩) D5.out ?_
    rotate_left
    · (intro W hSW; clear hSW; go_simp)
      first | done | (with_reducible rfl)
    try simp only [Act.put, List.setIfInBounds_toArray, List.set_cons_zero, List.set_cons_succ]
    refine wpAnyH_take (i := 7) (oi := ⟨some 18, _, _, _, _, _⟩) (v := ?_) rfl (by kernel_rfl) (by kernel_rfl) (by kernel_rfl) (fun _ _ _ h => h) (Or.inl ⟨by rfl, ?_⟩) D5.out ?_
    rotate_left
    · (intro W hSW; clear hSW; go_simp)
      first | done | (with_reducible rfl)
    try simp only [Act.put, List.setIfInBounds_toArray, List.set_cons_zero, List.set_cons_succ]
    clear D5
    refine wpAnyH_ready (rs := [9]) (by kernel_rfl) (by simp) ?_
    refine AllReadyH.cons (o := ⟨none, _, _, _, _, _⟩) rfl (fun K hK => ?_) (AllReadyH.nil)
    refine step_layT (by rfl) 60 2 size60 (.tmp 9) (.tmp 17) (by rfl) b [.int .i64 u, .pointer ob] (by rfl) (by rfl) 60 [.int .i64 0, .pointer none] KM5.out rfl rfl (stay_one _ _) ?_
    intro x6 K9 F9
    have M6 := Lib.hid (M5.out.past F9.out HPb.out)
    have c9 : x6.cell? ⟨b, 1, none⟩ = some (.pointer ob) := K9.out.cell 1
    refine hK.out _ _ ?_ (fun _ => ?_)
    · exact M6.out.pb
    clear hK K K9 F9 KM5 M5
    try simp only [Act.put]
    have D9 : Hid (Blk x6 w.heap.size 31 p.cs) := M6.out.pb
    refine wpAnyH_take (i := 10) (oi := ⟨some 10, _, _, _, _, _⟩) (v := ?_) rfl (by kernel_rfl) (by kernel_rfl) (by kernel_rfl) (fun _ _ _ h => h) (Or.inl ⟨by rfl, ?_⟩) D9.out ?_
    rotate_left
    · (intro W hSW; clear hSW; go_simp)
      first | done | (with_reducible rfl)
    try simp only [Act.put, List.setIfInBounds_toArray, List.set_cons_zero, List.set_cons_succ]
    refine wpAnyH_done (by kernel_rfl) ?_ _
    clear D9
    cases bb
    · have FIN : Hid (BOut f h q n g C L (takeS C (swp L x) p x k) (.bool false) w (.returned (.bool false)) x6) := by
        have e := takeS_no (C := C) (x := x) (n := k) HB.out
        have := M6.out.out (L0 := L) (.bool false)
        rwa [← e] at this
      have HN2 := Lib.hid (HTN.out rfl)
      clear M6 c9 HTN HTK HTY HFI HOB HB
      go_wp2_with fail
      go_ret
      rw [HN2.out]
      exact FIN.out
    · have e9 := HOB.out rfl
      subst e9
      have HTK2 := Lib.hid (fun W hW => HTK.out W hW rfl)
      have HTY2 := Lib.hid (HTY.out rfl)
      have HFI2 := Lib.hid (fun W W' m => HFI.out W W' m rfl)
      clear HTN HTK HTY HFI HOB HB
      go_wp2_with (go_at_call 31; (with_reducible refine (HTK2.out _ M6.out.box).mono ?_); rintro e x7 ⟨rfl, ht, hf⟩; have FIN : Hid (BOut f h q n g C L (takeS C (swp L x) p x k) (.bool (takeK C (swp L x) p x k)) w (.returned (.bool (takeK C (swp L x) p x k))) x7) := HFI2.out _ x7 M6.out ht hf; rw [HTY2.out]; clear ht hf)
      go_ret
      exact FIN.out
end Go.Proofs.Ytpjeeccgpnpokaa
