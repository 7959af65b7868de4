/- The contract of the turns' look: whether it is the turn of the first one. Conditions: those of each theorem. -/
import Derived.Test.YtknalphhnicffaaTWake
namespace Go.Proofs.Ytknalphhnicffaa
open Go.RowKit

theorem Ok.of_perm {n Q : Nat} {L L' : List Cls} (hp : L.Perm L') (ho : Ok n Q L) : Ok n Q L' :=
  ⟨(List.Perm.nodup_iff (hp.map _)).1 ho.nodup, fun y hy => ho.lt y (hp.mem_iff.2 hy), fun y hy => ho.low y (hp.mem_iff.2 hy), fun y hy => ho.high y (hp.mem_iff.2 hy)⟩
theorem sleep_first {n Q : Nat} {x : Cls} {xs : List Cls} (ho : Ok n Q (x :: xs)) : sleepOf (x :: xs) (x.n : Int) = xs := by
  have hn := ho.nodup
  simp [names] at hn
  unfold sleepOf
  rw [List.filter_cons_of_neg (by simp), List.filter_eq_self]
  intro y hy
  simp
  intro e
  exact hn.1 y hy (by omega)
theorem len_min {h : Int} (h1 : 1 ≤ h) : min h 9216 = (len h : Nat) := by unfold len; omega
theorem def_first (c d : Nat) (f : Bool) (xs : List Cls) : defOf (⟨c, f, d⟩ :: xs) (c : Int) = d := by simp [defOf]
theorem fre_first (c d : Nat) (f : Bool) (xs : List Cls) : freOf (⟨c, f, d⟩ :: xs) (c : Int) = f := by simp [freOf]
theorem last_first (y : Cls) (xs : List Cls) : lastOf (y :: xs) 0 y = xs ++ [y] := rfl
set_option maxHeartbeats 1000000 in
theorem look_sleeps (b : Nat → Prop) (g n Q : Nat) (x : Cls) (xs : List Cls) (h : Int) (w : World) (ht : TAt b w g n Q (x :: xs)) (h1 : h < 1) :
    Calls Try.prog 31 #[.pointer (some ⟨g, 0, none⟩), .int .i64 (x.n : Nat), .int .i64 h] w fun e w' => e = .returned (.bool false) ∧ TAt b w' g n Q xs ∧ Far b w w' := by
  have HT := Lib.hid ht
  have HS : Hid (sleepOf (x :: xs) (x.n : Int) = xs) := sleep_first ht.ok
  have d0 : decide (h < 1) = true := by simpa using h1
  clear ht
  go_enter Try.func31, Try.ntmps31
  go_wp2_with (go_at_call 14; (with_reducible refine (sleep_ b g n Q _ _ _ HT.out).mono ?_); rintro e w2 ⟨rfl, ht, hf⟩; rw [HS.out] at ht; have T2 := Lib.hid ht; have F2 := Lib.hid hf; clear ht hf)
  go_ret
  exact ⟨rfl, T2.out, F2.out⟩
set_option maxHeartbeats 2000000 in
theorem look_fresh_takes (b : Nat → Prop) (g n Q : Nat) (x : Cls) (xs : List Cls) (h : Int) (w : World) (ht : TAt b w g n Q (x :: xs)) (hf : x.fresh = true) (h1 : 1 ≤ h) (hm : len h ≤ due Q x) :
    Calls Try.prog 31 #[.pointer (some ⟨g, 0, none⟩), .int .i64 (x.n : Nat), .int .i64 h] w fun e w' => e = .returned (.bool true) ∧ TAt b w' g n Q (⟨x.n, false, due Q x - len h⟩ :: xs) ∧ Far b w w' := by
  have HT := Lib.hid ht
  have hx : x.n < 129 := by have := ht.ok.lt x (by simp); have := ht.n_le; omega
  have hQ : Q ≤ 1073741824 := ht.2.2.2.1
  have hd : x.d ≤ 9216 := ht.ok.low x (by simp) hf
  have HOK := Lib.hid (ht.ok.takes (len h))
  have hmin := len_min h1
  have hlen := len_le h
  obtain ⟨cs, HB, HG⟩ := TAt.open_ ht
  clear ht
  obtain ⟨c, fr, d⟩ := x
  simp only at hf hx hd
  subst hf
  have e0 : due Q ⟨c, true, d⟩ = (d + Q) := by simp [due]
  rw [e0] at HOK hm ⊢
  clear e0
  generalize len h = m at *
  have d0 : decide (h < 1) = false := by simp; omega
  have q0 : w.cell? ⟨g, 0, none⟩ = some (.int .i64 (Q : Nat)) := (HB.out.cell 0).trans HG.out.q
  have q1 : w.cell? ⟨g, 2 + c * 2, none⟩ = some (.int .i64 (d : Nat)) := by rw [HB.out.cell, HG.out.d c hx, def_first]
  have q2 : w.cell? ⟨g, 2 + c * 2 + 1, none⟩ = some (.bool true) := by rw [HB.out.cell, HG.out.f c hx, fre_first]
  have q3 := HB.out.frozen (2 + c * 2)
  have q4 := HB.out.frozen (2 + c * 2 + 1)
  go_enter Try.func31, Try.ntmps31
  go_wp2
  go_region
  go_upto_region 7 with fail
  have HB2' : Hid (Blk (w.setCell ⟨g, 2 + c * 2, none⟩ (.int .i64 ((d : Int) + (Q : Int)))).drew g 65 _) := (HB.out.set_ (2 + c * 2) (.int .i64 ((d : Int) + (Q : Int)))).drewN 1
  have HG2 : Hid (Good n Q (⟨c, true, d + Q⟩ :: xs) (cs.set (2 + c * 2) (.int .i64 ((d : Int) + (Q : Int))))) := HG.out.due hx (d + Q)
  have F2 : Hid (Far (sole g) w (w.setCell ⟨g, 2 + c * 2, none⟩ (.int .i64 ((d : Int) + (Q : Int)))).drew) := (sole_set (Far.refl _ _) _ _).drew
  generalize (w.setCell ⟨g, 2 + c * 2, none⟩ (.int .i64 ((d : Int) + (Q : Int)))).drew = w2 at *
  generalize cs.set (2 + c * 2) (.int .i64 ((d : Int) + (Q : Int))) = cs2 at *
  clear q0 q1 q2 q3 q4
  have q2 : w2.cell? ⟨g, 2 + c * 2 + 1, none⟩ = some (.bool true) := by rw [HB2'.out.cell, HG2.out.f c hx, fre_first]
  have q4 := HB2'.out.frozen (2 + c * 2 + 1)
  go_upto_region 8 with fail
  have HB3 : Hid (Blk (w2.setCell ⟨g, 2 + c * 2 + 1, none⟩ (.bool false)) g 65 _) := HB2'.out.set_ (2 + c * 2 + 1) (.bool false)
  have HG3 : Hid (Good n Q (⟨c, false, d + Q⟩ :: xs) (cs2.set (2 + c * 2 + 1) (.bool false))) := HG2.out.fre hx false
  have F3 : Hid (Far (sole g) w (w2.setCell ⟨g, 2 + c * 2 + 1, none⟩ (.bool false))) := sole_set F2.out _ _
  generalize w2.setCell ⟨g, 2 + c * 2 + 1, none⟩ (.bool false) = w3 at *
  generalize cs2.set (2 + c * 2 + 1) (.bool false) = cs3 at *
  clear q2 q4 HB2' HG2 F2
  have q1 : w3.cell? ⟨g, 2 + c * 2, none⟩ = some (.int .i64 ((d : Int) + (Q : Int))) := by rw [HB3.out.cell, HG3.out.d c hx, def_first]; rfl
  have q3 := HB3.out.frozen (2 + c * 2)
  have q2 : w3.cell? ⟨g, 2 + c * 2 + 1, none⟩ = some (.bool false) := by rw [HB3.out.cell, HG3.out.f c hx, fre_first]
  have q4 := HB3.out.frozen (2 + c * 2 + 1)
  have d1 : decide (((d : Int) + (Q : Int)) < (m : Int)) = false := by simp; omega
  have hs : (((d + Q) - m : Nat) : Int) = ((d : Int) + (Q : Int)) - (m : Int) := by omega
  go_upto_region 13 with fail
  go_wp2_with fail
  go_ret
  refine ⟨rfl, HT.out.put HOK.out (HB3.out.set_ (2 + c * 2) (.int .i64 (((d : Int) + (Q : Int)) - (m : Int)))) ?_, (sole_set F3.out _ _).mono (fun i e => by rw [e]; exact HT.out.1)⟩
  rw [← hs]
  exact HG3.out.due hx ((d + Q) - m)
set_option maxHeartbeats 2000000 in
theorem look_fresh_waits (b : Nat → Prop) (g n Q : Nat) (x : Cls) (xs : List Cls) (h : Int) (w : World) (ht : TAt b w g n Q (x :: xs)) (hf : x.fresh = true) (h1 : 1 ≤ h) (hm : due Q x < len h) :
    Calls Try.prog 31 #[.pointer (some ⟨g, 0, none⟩), .int .i64 (x.n : Nat), .int .i64 h] w fun e w' => e = .returned (.bool false) ∧ TAt b w' g n Q (xs ++ [⟨x.n, true, due Q x⟩]) ∧ Far b w w' := by
  have HT := Lib.hid ht
  have hx : x.n < 129 := by have := ht.ok.lt x (by simp); have := ht.n_le; omega
  have hQ : Q ≤ 1073741824 := ht.2.2.2.1
  have hd : x.d ≤ 9216 := ht.ok.low x (by simp) hf
  have HOK := Lib.hid (ht.ok.waits hm)
  have hmin := len_min h1
  have hlen := len_le h
  obtain ⟨cs, HB, HG⟩ := TAt.open_ ht
  clear ht
  obtain ⟨c, fr, d⟩ := x
  simp only at hf hx hd
  subst hf
  have e0 : due Q ⟨c, true, d⟩ = (d + Q) := by simp [due]
  rw [e0] at HOK hm ⊢
  clear e0
  generalize len h = m at *
  have d0 : decide (h < 1) = false := by simp; omega
  have q0 : w.cell? ⟨g, 0, none⟩ = some (.int .i64 (Q : Nat)) := (HB.out.cell 0).trans HG.out.q
  have q1 : w.cell? ⟨g, 2 + c * 2, none⟩ = some (.int .i64 (d : Nat)) := by rw [HB.out.cell, HG.out.d c hx, def_first]
  have q2 : w.cell? ⟨g, 2 + c * 2 + 1, none⟩ = some (.bool true) := by rw [HB.out.cell, HG.out.f c hx, fre_first]
  have q3 := HB.out.frozen (2 + c * 2)
  have q4 := HB.out.frozen (2 + c * 2 + 1)
  go_enter Try.func31, Try.ntmps31
  go_wp2
  go_region
  go_upto_region 7 with fail
  have HB2' : Hid (Blk (w.setCell ⟨g, 2 + c * 2, none⟩ (.int .i64 ((d : Int) + (Q : Int)))).drew g 65 _) := (HB.out.set_ (2 + c * 2) (.int .i64 ((d : Int) + (Q : Int)))).drewN 1
  have HG2 : Hid (Good n Q (⟨c, true, d + Q⟩ :: xs) (cs.set (2 + c * 2) (.int .i64 ((d : Int) + (Q : Int))))) := HG.out.due hx (d + Q)
  have F2 : Hid (Far (sole g) w (w.setCell ⟨g, 2 + c * 2, none⟩ (.int .i64 ((d : Int) + (Q : Int)))).drew) := (sole_set (Far.refl _ _) _ _).drew
  generalize (w.setCell ⟨g, 2 + c * 2, none⟩ (.int .i64 ((d : Int) + (Q : Int)))).drew = w2 at *
  generalize cs.set (2 + c * 2) (.int .i64 ((d : Int) + (Q : Int))) = cs2 at *
  clear q0 q1 q2 q3 q4
  have q2 : w2.cell? ⟨g, 2 + c * 2 + 1, none⟩ = some (.bool true) := by rw [HB2'.out.cell, HG2.out.f c hx, fre_first]
  have q4 := HB2'.out.frozen (2 + c * 2 + 1)
  go_upto_region 8 with fail
  have HB3 : Hid (Blk (w2.setCell ⟨g, 2 + c * 2 + 1, none⟩ (.bool false)) g 65 _) := HB2'.out.set_ (2 + c * 2 + 1) (.bool false)
  have HG3 : Hid (Good n Q (⟨c, false, d + Q⟩ :: xs) (cs2.set (2 + c * 2 + 1) (.bool false))) := HG2.out.fre hx false
  have F3 : Hid (Far (sole g) w (w2.setCell ⟨g, 2 + c * 2 + 1, none⟩ (.bool false))) := sole_set F2.out _ _
  generalize w2.setCell ⟨g, 2 + c * 2 + 1, none⟩ (.bool false) = w3 at *
  generalize cs2.set (2 + c * 2 + 1) (.bool false) = cs3 at *
  clear q2 q4 HB2' HG2 F2
  have q1 : w3.cell? ⟨g, 2 + c * 2, none⟩ = some (.int .i64 ((d : Int) + (Q : Int))) := by rw [HB3.out.cell, HG3.out.d c hx, def_first]; rfl
  have q3 := HB3.out.frozen (2 + c * 2)
  have q2 : w3.cell? ⟨g, 2 + c * 2 + 1, none⟩ = some (.bool false) := by rw [HB3.out.cell, HG3.out.f c hx, fre_first]
  have q4 := HB3.out.frozen (2 + c * 2 + 1)
  have d1 : decide (((d : Int) + (Q : Int)) < (m : Int)) = true := by simp; omega
  go_upto_region 11 with fail
  have T4 : Hid (TAt b (w3.setCell ⟨g, 2 + c * 2 + 1, none⟩ (.bool true)) g n Q (⟨c, true, (d + Q)⟩ :: xs)) := HT.out.put (Ok.of_perm (List.perm_append_comm (l₁ := xs) (l₂ := [⟨c, true, (d + Q)⟩])) HOK.out) (HB3.out.set_ (2 + c * 2 + 1) (.bool true)) (HG3.out.fre hx true)
  have F4 : Hid (Far b w (w3.setCell ⟨g, 2 + c * 2 + 1, none⟩ (.bool true))) := (sole_set F3.out _ _).mono (fun i e => by rw [e]; exact HT.out.1)
  generalize w3.setCell ⟨g, 2 + c * 2 + 1, none⟩ (.bool true) = w4 at *
  have C29 := Lib.hid (last_ b g n Q 0 0 ⟨c, true, (d + Q)⟩ (⟨c, true, (d + Q)⟩ :: xs) w4 T4.out rfl rfl)
  go_wp2_with (go_at_call 29; (with_reducible refine C29.out.mono ?_); rintro e w5 ⟨rfl, ht, hf⟩; rw [last_first] at ht; have T5 := Lib.hid ht; have F5 : Hid (Far b w w5) := F4.out.trans hf (fun i _ e => by rw [e]; exact HT.out.1); clear ht hf)
  go_ret
  exact ⟨rfl, T5.out, F5.out⟩
set_option maxHeartbeats 2000000 in
theorem look_stale_takes (b : Nat → Prop) (g n Q : Nat) (x : Cls) (xs : List Cls) (h : Int) (w : World) (ht : TAt b w g n Q (x :: xs)) (hf : x.fresh = false) (h1 : 1 ≤ h) (hm : len h ≤ due Q x) :
    Calls Try.prog 31 #[.pointer (some ⟨g, 0, none⟩), .int .i64 (x.n : Nat), .int .i64 h] w fun e w' => e = .returned (.bool true) ∧ TAt b w' g n Q (⟨x.n, false, due Q x - len h⟩ :: xs) ∧ Far b w w' := by
  have HT := Lib.hid ht
  have hx : x.n < 129 := by have := ht.ok.lt x (by simp); have := ht.n_le; omega
  have hQ : Q ≤ 1073741824 := ht.2.2.2.1
  have hd : x.d ≤ Q + 9216 := ht.ok.high x (by simp)
  have HOK := Lib.hid (ht.ok.takes (len h))
  have hmin := len_min h1
  have hlen := len_le h
  obtain ⟨cs, HB, HG⟩ := TAt.open_ ht
  clear ht
  obtain ⟨c, fr, d⟩ := x
  simp only at hf hx hd
  subst hf
  have e0 : due Q ⟨c, false, d⟩ = d := by simp [due]
  rw [e0] at HOK hm ⊢
  clear e0
  generalize len h = m at *
  have d0 : decide (h < 1) = false := by simp; omega
  have q0 : w.cell? ⟨g, 0, none⟩ = some (.int .i64 (Q : Nat)) := (HB.out.cell 0).trans HG.out.q
  have q1 : w.cell? ⟨g, 2 + c * 2, none⟩ = some (.int .i64 (d : Nat)) := by rw [HB.out.cell, HG.out.d c hx, def_first]
  have q2 : w.cell? ⟨g, 2 + c * 2 + 1, none⟩ = some (.bool false) := by rw [HB.out.cell, HG.out.f c hx, fre_first]
  have q3 := HB.out.frozen (2 + c * 2)
  have q4 := HB.out.frozen (2 + c * 2 + 1)
  go_enter Try.func31, Try.ntmps31
  have HB3 := HB
  have HG3 := HG
  have F3 : Hid (Far (sole g) w w) := Far.refl _ _
  have d1 : decide ((d : Int) < (m : Int)) = false := by simp; omega
  have hs : ((d - m : Nat) : Int) = (d : Int) - (m : Int) := by omega
  go_upto_region 13 with fail
  go_wp2_with fail
  go_ret
  refine ⟨rfl, HT.out.put HOK.out (HB3.out.set_ (2 + c * 2) (.int .i64 ((d : Int) - (m : Int)))) ?_, (sole_set F3.out _ _).mono (fun i e => by rw [e]; exact HT.out.1)⟩
  rw [← hs]
  exact HG3.out.due hx (d - m)
set_option maxHeartbeats 2000000 in
theorem look_stale_waits (b : Nat → Prop) (g n Q : Nat) (x : Cls) (xs : List Cls) (h : Int) (w : World) (ht : TAt b w g n Q (x :: xs)) (hf : x.fresh = false) (h1 : 1 ≤ h) (hm : due Q x < len h) :
    Calls Try.prog 31 #[.pointer (some ⟨g, 0, none⟩), .int .i64 (x.n : Nat), .int .i64 h] w fun e w' => e = .returned (.bool false) ∧ TAt b w' g n Q (xs ++ [⟨x.n, true, due Q x⟩]) ∧ Far b w w' := by
  have HT := Lib.hid ht
  have hx : x.n < 129 := by have := ht.ok.lt x (by simp); have := ht.n_le; omega
  have hQ : Q ≤ 1073741824 := ht.2.2.2.1
  have hd : x.d ≤ Q + 9216 := ht.ok.high x (by simp)
  have HOK := Lib.hid (ht.ok.waits hm)
  have hmin := len_min h1
  have hlen := len_le h
  obtain ⟨cs, HB, HG⟩ := TAt.open_ ht
  clear ht
  obtain ⟨c, fr, d⟩ := x
  simp only at hf hx hd
  subst hf
  have e0 : due Q ⟨c, false, d⟩ = d := by simp [due]
  rw [e0] at HOK hm ⊢
  clear e0
  generalize len h = m at *
  have d0 : decide (h < 1) = false := by simp; omega
  have q0 : w.cell? ⟨g, 0, none⟩ = some (.int .i64 (Q : Nat)) := (HB.out.cell 0).trans HG.out.q
  have q1 : w.cell? ⟨g, 2 + c * 2, none⟩ = some (.int .i64 (d : Nat)) := by rw [HB.out.cell, HG.out.d c hx, def_first]
  have q2 : w.cell? ⟨g, 2 + c * 2 + 1, none⟩ = some (.bool false) := by rw [HB.out.cell, HG.out.f c hx, fre_first]
  have q3 := HB.out.frozen (2 + c * 2)
  have q4 := HB.out.frozen (2 + c * 2 + 1)
  go_enter Try.func31, Try.ntmps31
  have HB3 := HB
  have HG3 := HG
  have F3 : Hid (Far (sole g) w w) := Far.refl _ _
  have d1 : decide ((d : Int) < (m : Int)) = true := by simp; omega
  go_upto_region 11 with fail
  have T4 : Hid (TAt b (w.setCell ⟨g, 2 + c * 2 + 1, none⟩ (.bool true)) g n Q (⟨c, true, d⟩ :: xs)) := HT.out.put (Ok.of_perm (List.perm_append_comm (l₁ := xs) (l₂ := [⟨c, true, d⟩])) HOK.out) (HB3.out.set_ (2 + c * 2 + 1) (.bool true)) (HG3.out.fre hx true)
  have F4 : Hid (Far b w (w.setCell ⟨g, 2 + c * 2 + 1, none⟩ (.bool true))) := (sole_set F3.out _ _).mono (fun i e => by rw [e]; exact HT.out.1)
  generalize w.setCell ⟨g, 2 + c * 2 + 1, none⟩ (.bool true) = w4 at *
  have C29 := Lib.hid (last_ b g n Q 0 0 ⟨c, true, d⟩ (⟨c, true, d⟩ :: xs) w4 T4.out rfl rfl)
  go_wp2_with (go_at_call 29; (with_reducible refine C29.out.mono ?_); rintro e w5 ⟨rfl, ht, hf⟩; rw [last_first] at ht; have T5 := Lib.hid ht; have F5 : Hid (Far b w w5) := F4.out.trans hf (fun i _ e => by rw [e]; exact HT.out.1); clear ht hf)
  go_ret
  exact ⟨rfl, T5.out, F5.out⟩
end Go.Proofs.Ytknalphhnicffaa
