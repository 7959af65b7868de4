/- The contract of nobody's In. Conditions: those of each theorem. -/
import Derived.Test.YtpjeeccgpnpokaaBDrop
import Derived.Test.YtpjeeccgpnpokaaBIn
namespace Go.Proofs.Ytpjeeccgpnpokaa
open Go.RowKit

structure NilIn (w : World) (p : Pre) (W : World) : Prop where
  pb : Blk W w.heap.size 31 p.cs
  be : Below w.heap.size w W
section
variable {w W W' : World} {p : Pre} {b : Nat}
theorem NilIn.box (_ : NilIn w p W) : True := trivial
theorem NilIn.below (m : NilIn w p W) (h : Below W.heap.size W W') : NilIn w p W' := ⟨m.pb.below h, m.be.trans (h.mono m.be.size)⟩
theorem NilIn.drew (m : NilIn w p W) : NilIn w p W.drew := m.below (below_drewN (Below.refl _ _) 1)
theorem NilIn.turn (m : NilIn w p W) (_ : True) (h : Below W.heap.size W W') (_ : True) : NilIn w p W' := m.below h
theorem NilIn.past (m : NilIn w p W) (hf : Far (only b) W W') (hb : w.heap.size < b) : NilIn w p W' := ⟨m.pb.far hf (fun e => by have e' : w.heap.size = b := e; omega), below_only m.be hf (by omega) m.be.size⟩
end
set_option maxRecDepth 100000 in
set_option maxHeartbeats 2000000 in
theorem bin_nil (p : Pre) (x : Int) (w : World) : Calls Try.prog 9 #[.pointer none, .agg p.cs.toArray, .int .i64 x] w (Ans (.bool false) w) := by
  have M1 : Hid (NilIn w p (w.alloc (.cells p.cs.toArray 31))) := ⟨Blk.new w 31 p.cs, (Below.refl _ w).alloc (Nat.le_refl _) _⟩
  have HAT : Hid (∀ W, True → Calls Try.prog 22 #[.pointer none, .int .i64 x] W fun e w' => e = .returned (.pointer none) ∧ True ∧ Below W.heap.size W w') := fun W _ => (bat_nil x W).mono fun _ _ h => ⟨h.1, trivial, h.2⟩
  have HGET : Hid (∀ W, True → Calls Try.prog 23 #[.pointer none, .agg p.cs.toArray] W (Ans (.tuple #[.agg #[.int .i64 0, .pointer none], .bool false]) W)) := fun W _ => getT_nil p W
  have swp_mem : True := trivial
  go_enter Try.func9, Try.ntmps9
  go_upto_region 1 with fail
  generalize (w.alloc (.cells p.cs.toArray 31)) = x1 at *
  have D0 : Hid (Blk x1.drew w.heap.size 31 p.cs) := M1.out.pb
  have M2 := Lib.hid M1.out.drew
  clear M1
  refine wp_region_held_drew (S := fun W => Blk W w.heap.size 31 p.cs) (by kernel_rfl) ?_ (fun _ => ?_)
  · exact D0.out
  generalize x1.drew = x2 at *
  refine wpAnyH_take (i := 0) (oi := ⟨some 10, _, _, _, _, _⟩) (v := ?_) rfl (by kernel_rfl) (by kernel_rfl) (by kernel_rfl) (fun _ _ _ h => h) (Or.inl ⟨by rfl, ?_⟩) D0.out ?_
  rotate_left
  · (intro W hSW; clear hSW; go_simp)
    first | done | (with_reducible rfl)
  try simp only [Act.put, List.setIfInBounds_toArray, List.set_cons_zero, List.set_cons_succ]
  refine wpAnyH_take (i := 1) (oi := ⟨some 11, _, _, _, _, _⟩) (v := ?_) rfl (by kernel_rfl) (by kernel_rfl) (by kernel_rfl) (fun _ _ _ h => h) (Or.inl ⟨by rfl, ?_⟩) D0.out ?_
  rotate_left
  · (intro W hSW; clear hSW; go_simp)
    first | done | (with_reducible rfl)
  try simp only [Act.put, List.setIfInBounds_toArray, List.set_cons_zero, List.set_cons_succ]
  refine wpAnyH_take (i := 3) (oi := ⟨some 13, _, _, _, _, _⟩) (v := .agg p.cs.toArray) rfl (by kernel_rfl) (by kernel_rfl) (by kernel_rfl) (fun _ _ _ h => h) (yields_pre (by rfl) (.tmp 4) rfl _ 0 rfl p (fun _ h => whole_at h)) D0.out ?_
  try simp only [Act.put, List.setIfInBounds_toArray, List.set_cons_zero, List.set_cons_succ]
  refine wpAnyH_ready (rs := [2, 8]) (by kernel_rfl) (by simp) ?_
  refine AllReadyH.cons (o := ⟨some 12, _, _, _, _, _⟩) rfl (fun K hK => ?_) (AllReadyH.cons (o := ⟨some 7, _, _, _, _, _⟩) rfl (fun K hK => ?_) (AllReadyH.nil))
  · go_simp
    refine (HAT.out _ M2.out.box).mono ?_
    rintro e x3 ⟨rfl, hx, hf⟩
    have M3 := Lib.hid (M2.out.turn hx hf swp_mem)
    clear hx hf M2 D0
    have D3 : Hid (Blk _ w.heap.size 31 p.cs) := M3.out.pb
    go_simp
    refine hK.out _ _ ?_ (fun _ => ?_)
    · exact D3.out
    clear hK K
    try simp only [Act.put, List.setIfInBounds_toArray, List.set_cons_zero, List.set_cons_succ]
    refine wpAnyH_ready (rs := [4, 8]) (by kernel_rfl) (by simp) ?_
    refine AllReadyH.cons (o := ⟨some 14, _, _, _, _, _⟩) rfl (fun K hK => ?_) (AllReadyH.cons (o := ⟨some 7, _, _, _, _, _⟩) rfl (fun K hK => ?_) (AllReadyH.nil))
    · go_simp
      refine (HGET.out _ M3.out.box).mono ?_
      rintro e x4 ⟨rfl, hb⟩
      have M4 := Lib.hid (M3.out.below hb)
      clear hb M3 D3
      have D4 : Hid (Blk _ w.heap.size 31 p.cs) := M4.out.pb
      go_simp
      refine hK.out _ _ ?_ (fun _ => ?_)
      · exact D4.out
      clear hK K
      try simp only [Act.put, List.setIfInBounds_toArray, List.set_cons_zero, List.set_cons_succ]
      refine wpAnyH_take (i := 5) (oi := ⟨some 9, _, _, _, _, _⟩) (v := ?_) rfl (by kernel_rfl) (by kernel_rfl) (by kernel_rfl) (fun _ _ _ h => h) (Or.inl ⟨by rfl, ?_⟩) D4.out ?_
      rotate_left
      · (intro W hSW; clear hSW; go_simp)
        first | done | (with_reducible rfl)
      try simp only [Act.put, List.setIfInBounds_toArray, List.set_cons_zero, List.set_cons_succ]
      refine wpAnyH_take (i := 6) (oi := ⟨some 15, _, _, _, _, _⟩) (v := ?_) rfl (by kernel_rfl) (by kernel_rfl) (by kernel_rfl) (fun _ _ _ h => h) (Or.inl ⟨by rfl, ?_⟩) D4.out ?_
      rotate_left
      · (intro W hSW; clear hSW; go_simp)
        first | done | (with_reducible rfl)
      try simp only [Act.put, List.setIfInBounds_toArray, List.set_cons_zero, List.set_cons_succ]
      refine wpAnyH_take (i := 7) (oi := ⟨some 16, _, _, _, _, _⟩) (v := ?_) rfl (by kernel_rfl) (by kernel_rfl) (by kernel_rfl) (fun _ _ _ h => h) (Or.inl ⟨by rfl, ?_⟩) D4.out ?_
      rotate_left
      · (intro W hSW; clear hSW; go_simp)
        first | done | (with_reducible rfl)
      try simp only [Act.put, List.setIfInBounds_toArray, List.set_cons_zero, List.set_cons_succ]
      refine wpAnyH_ready (rs := [8]) (by kernel_rfl) (by simp) ?_
      refine AllReadyH.cons (o := ⟨some 7, _, _, _, _, _⟩) rfl (fun K hK => ?_) (AllReadyH.nil)
      clear D4
      go_simp
      have KM5 : Hid (Blk (x4.alloc (.cells #[.int .i64 0, .pointer none] 60)) x4.heap.size 60 [.int .i64 0, .pointer none]) := Blk.new x4 60 _
      have hb0 : Below x4.heap.size x4 (x4.alloc (.cells #[.int .i64 0, .pointer none] 60)) := (Below.refl _ x4).alloc (Nat.le_refl _) (.cells #[.int .i64 0, .pointer none] 60)
      have HPb : Hid (w.heap.size < x4.heap.size) := M4.out.pb.lt
      have M5 := Lib.hid (M4.out.below hb0)
      refine hK.out _ _ ?_ (fun _ => ?_)
      · exact M5.out.pb
      clear hK K M4 hb0
      try simp only [Act.put, List.setIfInBounds_toArray, List.set_cons_zero, List.set_cons_succ]
      generalize x4.alloc (.cells #[.int .i64 0, .pointer none] 60) = x5 at *
      generalize x4.heap.size = b at *
      refine wpAnyH_ready (rs := [9]) (by kernel_rfl) (by simp) ?_
      refine AllReadyH.cons (o := ⟨none, _, _, _, _, _⟩) rfl (fun K hK => ?_) (AllReadyH.nil)
      refine step_layT (by rfl) 60 2 size60 (.tmp 7) (.tmp 15) (by rfl) b [.int .i64 0, .pointer none] (by rfl) (by rfl) 60 [.int .i64 0, .pointer none] KM5.out rfl rfl (stay_one _ _) ?_
      intro x6 K9 F9
      have M6 := Lib.hid (M5.out.past F9.out HPb.out)
      have c9 : x6.cell? ⟨b, 1, none⟩ = some (.pointer none) := K9.out.cell 1
      refine hK.out _ _ ?_ (fun _ => ?_)
      · exact M6.out.pb
      clear hK K K9 F9 KM5 M5
      try simp only [Act.put]
      have D9 : Hid (Blk x6 w.heap.size 31 p.cs) := M6.out.pb
      refine wpAnyH_take (i := 10) (oi := ⟨some 8, _, _, _, _, _⟩) (v := ?_) rfl (by kernel_rfl) (by kernel_rfl) (by kernel_rfl) (fun _ _ _ h => h) (Or.inl ⟨by rfl, ?_⟩) D9.out ?_
      rotate_left
      · (intro W hSW; clear hSW; go_simp)
        first | done | (with_reducible rfl)
      try simp only [Act.put, List.setIfInBounds_toArray, List.set_cons_zero, List.set_cons_succ]
      refine wpAnyH_done (by kernel_rfl) ?_ _
      clear D9
      have FIN : Hid (Ans (.bool false) w (.returned (.bool false)) x6) := ⟨rfl, M6.out.be⟩
      clear M6 c9
      go_wp2_with fail
      go_ret
      exact FIN.out
    · clear D3
      go_simp
      have KM4 : Hid (Blk (x3.alloc (.cells #[.int .i64 0, .pointer none] 60)) x3.heap.size 60 [.int .i64 0, .pointer none]) := Blk.new x3 60 _
      have hb0 : Below x3.heap.size x3 (x3.alloc (.cells #[.int .i64 0, .pointer none] 60)) := (Below.refl _ x3).alloc (Nat.le_refl _) (.cells #[.int .i64 0, .pointer none] 60)
      have HPb : Hid (w.heap.size < x3.heap.size) := M3.out.pb.lt
      have M4 := Lib.hid (M3.out.below hb0)
      refine hK.out _ _ ?_ (fun _ => ?_)
      · exact M4.out.pb
      clear hK K M3 hb0
      try simp only [Act.put, List.setIfInBounds_toArray, List.set_cons_zero, List.set_cons_succ]
      generalize x3.alloc (.cells #[.int .i64 0, .pointer none] 60) = x4 at *
      generalize x3.heap.size = b at *
      refine wpAnyH_ready (rs := [4]) (by kernel_rfl) (by simp) ?_
      refine AllReadyH.cons (o := ⟨some 14, _, _, _, _, _⟩) rfl (fun K hK => ?_) (AllReadyH.nil)
      go_simp
      refine (HGET.out _ M4.out.box).mono ?_
      rintro e x5 ⟨rfl, hb⟩
      have M5 := Lib.hid (M4.out.below hb)
      have KM5 := Lib.hid (KM4.out.below hb)
      clear hb M4 KM4
      have D5 : Hid (Blk _ w.heap.size 31 p.cs) := M5.out.pb
      go_simp
      refine hK.out _ _ ?_ (fun _ => ?_)
      · exact D5.out
      clear hK K
      try simp only [Act.put, List.setIfInBounds_toArray, List.set_cons_zero, List.set_cons_succ]
      refine wpAnyH_take (i := 5) (oi := ⟨some 9, _, _, _, _, _⟩) (v := ?_) rfl (by kernel_rfl) (by kernel_rfl) (by kernel_rfl) (fun _ _ _ h => h) (Or.inl ⟨by rfl, ?_⟩) D5.out ?_
      rotate_left
      · (intro W hSW; clear hSW; go_simp)
        first | done | (with_reducible rfl)
      try simp only [Act.put, List.setIfInBounds_toArray, List.set_cons_zero, List.set_cons_succ]
      refine wpAnyH_take (i := 6) (oi := ⟨some 15, _, _, _, _, _⟩) (v := ?_) rfl (by kernel_rfl) (by kernel_rfl) (by kernel_rfl) (fun _ _ _ h => h) (Or.inl ⟨by rfl, ?_⟩) D5.out ?_
      rotate_left
      · (intro W hSW; clear hSW; go_simp)
        first | done | (with_reducible rfl)
      try simp only [Act.put, List.setIfInBounds_toArray, List.set_cons_zero, List.set_cons_succ]
      refine wpAnyH_take (i := 7) (oi := ⟨some 16, _, _, _, _, _⟩) (v := ?_) rfl (by kernel_rfl) (by kernel_rfl) (by kernel_rfl) (fun _ _ _ h => h) (Or.inl ⟨by rfl, ?_⟩) D5.out ?_
      rotate_left
      · (intro W hSW; clear hSW; go_simp)
        first | done | (with_reducible rfl)
      try simp only [Act.put, List.setIfInBounds_toArray, List.set_cons_zero, List.set_cons_succ]
      clear D5
      refine wpAnyH_ready (rs := [9]) (by kernel_rfl) (by simp) ?_
      refine AllReadyH.cons (o := ⟨none, _, _, _, _, _⟩) rfl (fun K hK => ?_) (AllReadyH.nil)
      refine step_layT (by rfl) 60 2 size60 (.tmp 7) (.tmp 15) (by rfl) b [.int .i64 0, .pointer none] (by rfl) (by rfl) 60 [.int .i64 0, .pointer none] KM5.out rfl rfl (stay_one _ _) ?_
      intro x6 K9 F9
      have M6 := Lib.hid (M5.out.past F9.out HPb.out)
      have c9 : x6.cell? ⟨b, 1, none⟩ = some (.pointer none) := K9.out.cell 1
      refine hK.out _ _ ?_ (fun _ => ?_)
      · exact M6.out.pb
      clear hK K K9 F9 KM5 M5
      try simp only [Act.put]
      have D9 : Hid (Blk x6 w.heap.size 31 p.cs) := M6.out.pb
      refine wpAnyH_take (i := 10) (oi := ⟨some 8, _, _, _, _, _⟩) (v := ?_) rfl (by kernel_rfl) (by kernel_rfl) (by kernel_rfl) (fun _ _ _ h => h) (Or.inl ⟨by rfl, ?_⟩) D9.out ?_
      rotate_left
      · (intro W hSW; clear hSW; go_simp)
        first | done | (with_reducible rfl)
      try simp only [Act.put, List.setIfInBounds_toArray, List.set_cons_zero, List.set_cons_succ]
      refine wpAnyH_done (by kernel_rfl) ?_ _
      clear D9
      have FIN : Hid (Ans (.bool false) w (.returned (.bool false)) x6) := ⟨rfl, M6.out.be⟩
      clear M6 c9
      go_wp2_with fail
      go_ret
      exact FIN.out
  · clear D0
    go_simp
    have KM3 : Hid (Blk (x2.alloc (.cells #[.int .i64 0, .pointer none] 60)) x2.heap.size 60 [.int .i64 0, .pointer none]) := Blk.new x2 60 _
    have hb0 : Below x2.heap.size x2 (x2.alloc (.cells #[.int .i64 0, .pointer none] 60)) := (Below.refl _ x2).alloc (Nat.le_refl _) (.cells #[.int .i64 0, .pointer none] 60)
    have HPb : Hid (w.heap.size < x2.heap.size) := M2.out.pb.lt
    have M3 := Lib.hid (M2.out.below hb0)
    refine hK.out _ _ ?_ (fun _ => ?_)
    · exact M3.out.pb
    clear hK K M2 hb0
    try simp only [Act.put, List.setIfInBounds_toArray, List.set_cons_zero, List.set_cons_succ]
    generalize x2.alloc (.cells #[.int .i64 0, .pointer none] 60) = x3 at *
    generalize x2.heap.size = b at *
    refine wpAnyH_ready (rs := [2]) (by kernel_rfl) (by simp) ?_
    refine AllReadyH.cons (o := ⟨some 12, _, _, _, _, _⟩) rfl (fun K hK => ?_) (AllReadyH.nil)
    go_simp
    refine (HAT.out _ M3.out.box).mono ?_
    rintro e x4 ⟨rfl, hx, hf⟩
    have M4 := Lib.hid (M3.out.turn hx hf swp_mem)
    have KM4 := Lib.hid (KM3.out.below hf)
    clear hx hf M3 KM3
    have D4 : Hid (Blk _ w.heap.size 31 p.cs) := M4.out.pb
    go_simp
    refine hK.out _ _ ?_ (fun _ => ?_)
    · exact D4.out
    clear hK K
    try simp only [Act.put, List.setIfInBounds_toArray, List.set_cons_zero, List.set_cons_succ]
    refine wpAnyH_ready (rs := [4]) (by kernel_rfl) (by simp) ?_
    refine AllReadyH.cons (o := ⟨some 14, _, _, _, _, _⟩) rfl (fun K hK => ?_) (AllReadyH.nil)
    go_simp
    refine (HGET.out _ M4.out.box).mono ?_
    rintro e x5 ⟨rfl, hb⟩
    have M5 := Lib.hid (M4.out.below hb)
    have KM5 := Lib.hid (KM4.out.below hb)
    clear hb M4 KM4 D4
    have D5 : Hid (Blk _ w.heap.size 31 p.cs) := M5.out.pb
    go_simp
    refine hK.out _ _ ?_ (fun _ => ?_)
    · exact D5.out
    clear hK K
    try simp only [Act.put, List.setIfInBounds_toArray, List.set_cons_zero, List.set_cons_succ]
    refine wpAnyH_take (i := 5) (oi := ⟨some 9, _, _, _, _, _⟩) (v := ?_) rfl (by kernel_rfl) (by kernel_rfl) (by kernel_rfl) (fun _ _ _ h => h) (Or.inl ⟨by rfl, ?_⟩) D5.out ?_
    rotate_left
    · (intro W hSW; clear hSW; go_simp)
      first | done | (with_reducible rfl)
    try simp only [Act.put, List.setIfInBounds_toArray, List.set_cons_zero, List.set_cons_succ]
    refine wpAnyH_take (i := 6) (oi := ⟨some 15, _, _, _, _, _⟩) (v := ?_) rfl (by kernel_rfl) (by kernel_rfl) (by kernel_rfl) (fun _ _ _ h => h) (Or.inl ⟨by rfl, ?_⟩) D5.out ?_
    rotate_left
    · (intro W hSW; clear hSW; go_simp)
      first | done | (with_reducible rfl)
    try simp only [Act.put, List.setIfInBounds_toArray, List.set_cons_zero, List.set_cons_succ]
    refine wpAnyH_take (i := 7) (oi := ⟨some 16, _, _, _, _, _⟩) (v := ?_) rfl (by kernel_rfl) (by kernel_rfl) (by kernel_rfl) (fun _ _ _ h => h) (Or.inl ⟨by rfl, ?_⟩) D5.out ?_
    rotate_left
    · (intro W hSW; clear hSW; go_simp)
      first | done | (with_reducible rfl)
    try simp only [Act.put, List.setIfInBounds_toArray, List.set_cons_zero, List.set_cons_succ]
    clear D5
    refine wpAnyH_ready (rs := [9]) (by kernel_rfl) (by simp) ?_
    refine AllReadyH.cons (o := ⟨none, _, _, _, _, _⟩) rfl (fun K hK => ?_) (AllReadyH.nil)
    refine step_layT (by rfl) 60 2 size60 (.tmp 7) (.tmp 15) (by rfl) b [.int .i64 0, .pointer none] (by rfl) (by rfl) 60 [.int .i64 0, .pointer none] KM5.out rfl rfl (stay_one _ _) ?_
    intro x6 K9 F9
    have M6 := Lib.hid (M5.out.past F9.out HPb.out)
    have c9 : x6.cell? ⟨b, 1, none⟩ = some (.pointer none) := K9.out.cell 1
    refine hK.out _ _ ?_ (fun _ => ?_)
    · exact M6.out.pb
    clear hK K K9 F9 KM5 M5
    try simp only [Act.put]
    have D9 : Hid (Blk x6 w.heap.size 31 p.cs) := M6.out.pb
    refine wpAnyH_take (i := 10) (oi := ⟨some 8, _, _, _, _, _⟩) (v := ?_) rfl (by kernel_rfl) (by kernel_rfl) (by kernel_rfl) (fun _ _ _ h => h) (Or.inl ⟨by rfl, ?_⟩) D9.out ?_
    rotate_left
    · (intro W hSW; clear hSW; go_simp)
      first | done | (with_reducible rfl)
    try simp only [Act.put, List.setIfInBounds_toArray, List.set_cons_zero, List.set_cons_succ]
    refine wpAnyH_done (by kernel_rfl) ?_ _
    clear D9
    have FIN : Hid (Ans (.bool false) w (.returned (.bool false)) x6) := ⟨rfl, M6.out.be⟩
    clear M6 c9
    go_wp2_with fail
    go_ret
    exact FIN.out
end Go.Proofs.Ytpjeeccgpnpokaa
