/- The contracts of bytes.Compare at seven bytes and of the program's Less. Conditions: those of each theorem. -/
import Derived.Test.YtpjeeccgpnpokaaTLess
namespace Go.Proofs.Ytpjeeccgpnpokaa
open Go.RowKit

set_option maxHeartbeats 400000 in
theorem compare_ (a b ca cb : Nat) (p q : Pre) (w : World) (hp : p.Ok) (hq : q.Ok) (ha : Blk w a 31 p.cs) (hb : Blk w b 31 q.cs) :
    Calls Try.prog 50 #[.slice (some ⟨a, 1, none⟩) 7 ca, .slice (some ⟨b, 1, none⟩) 7 cb] w fun e w' => e = .returned (.int .i64 (cmpP p q)) ∧ ∃ m, w' = w.drewN m := by
  have hr := run_cmp a b ca cb p q w hp hq ha hb
  clear hp hq ha hb
  generalize cmpP p q = z at *
  go_enter Try.func50, Try.ntmps50
  go_wp2
  go_ret
  exact ⟨rfl, 0, rfl⟩
theorem run_arr (g o : Nat) (w : World) : (Instr.sliceAt 29 (.pointer (some ⟨g, o, none⟩)) none none none).run Try.prog w = .ok (.slice (some ⟨g, o, none⟩) 7 7) w := by
  have hal : Try.prog.arrayLen 29 = 7 := by kernel_rfl
  have hel : Try.prog.elem 29 = 5 := by kernel_rfl
  have hsz : (sizeOf 5).run Try.prog w = .ok 1 w := by kernel_rfl
  rw [run_sliceAt_array_all w 29 _ (by rw [hal, hel]; exact Try.underlying29), hel, hsz, hal]
  simp [slicedAt, Result.andThen, Addr.add_at]
theorem yields_arr {ops : Array Oper} {S : World → Prop} {op : Oper} {a : Act} (hw : Region.wanted op (yielded ops a.tmps) = true) (x : Operand) (ho : op.op = .slice 29 x none none none) (g o : Nat) (hx : a.eval x = .pointer (some ⟨g, o, none⟩)) :
    YieldsIf Try.prog ops S op (.slice (some ⟨g, o, none⟩) 7 7) a :=
  .inl ⟨hw, fun w _ => by
    have h := run_arr g o w
    simp only [execOp, ho]
    simp [hx, h]⟩
set_option maxHeartbeats 1000000 in
theorem tless_ (p q : Pre) (w : World) (hp : p.Ok) (hq : q.Ok) : Calls Try.prog 43 #[.agg p.cs.toArray, .agg q.cs.toArray] w (Ans (.bool (ltP p q)) w) := by
  obtain ⟨n1, n2, n3⟩ := two_new p q w
  have P1 := Lib.hid n1
  have Q1 := Lib.hid n2
  have W1 := Lib.hid n3
  clear n1 n2 n3
  go_enter Try.func43, Try.ntmps43
  go_upto_region 1 with fail
  generalize ((w.alloc (.cells p.cs.toArray 31)).alloc (.cells q.cs.toArray 31)) = x at *
  have d0 : x.cell? ⟨w.heap.size, 0, none⟩ = some (.bool p.v) := P1.out.cell 0
  have d1 : x.cell? ⟨w.heap.size + 1, 0, none⟩ = some (.bool q.v) := Q1.out.cell 0
  by_cases hv : p.v = q.v
  · have HL : Hid (decide (cmpP p q < 0) = ltP p q) := by show _ = _; unfold ltP; rw [if_pos hv]; exact cmpP_lt hp hq
    have hb : (p.v == q.v) = true := by simp [hv]
    have HPQ : Hid (p.Ok ∧ q.Ok) := ⟨hp, hq⟩
    clear hv hp hq
    go_wp2_with fail
    refine wp_region_held_drew (S := fun W => Below x.heap.size x W) (by kernel_rfl) ?_ (fun _ => ?_)
    · exact (Below.refl _ _).drew
    have HS0 : Hid (Below x.heap.size x x.drew) := (Below.refl _ _).drew
    generalize x.drew = x0 at *
    refine wpAnyH_take (i := 0) (oi := ⟨some 12, _, _, _, _, _⟩) (v := ?_) rfl (by kernel_rfl) (by kernel_rfl) (by kernel_rfl) (fun _ _ _ h => h) (Or.inl ⟨by rfl, ?_⟩) HS0.out ?_
    rotate_left
    · (intro W hSW; clear hSW; go_simp)
      first | done | (with_reducible rfl)
    try simp only [Act.put, List.setIfInBounds_toArray, List.set_cons_zero, List.set_cons_succ]
    refine wpAnyH_take (i := 1) (oi := ⟨some 13, _, _, _, _, _⟩) (v := .slice (some ⟨w.heap.size, 1, none⟩) 7 7) rfl (by kernel_rfl) (by kernel_rfl) (by kernel_rfl) (fun _ _ _ h => h) (yields_arr (by rfl) (.tmp 12) rfl _ 1 rfl) HS0.out ?_
    try simp only [Act.put, List.setIfInBounds_toArray, List.set_cons_zero, List.set_cons_succ]
    refine wpAnyH_take (i := 2) (oi := ⟨some 14, _, _, _, _, _⟩) (v := ?_) rfl (by kernel_rfl) (by kernel_rfl) (by kernel_rfl) (fun _ _ _ h => h) (Or.inl ⟨by rfl, ?_⟩) HS0.out ?_
    rotate_left
    · (intro W hSW; clear hSW; go_simp)
      first | done | (with_reducible rfl)
    try simp only [Act.put, List.setIfInBounds_toArray, List.set_cons_zero, List.set_cons_succ]
    refine wpAnyH_take (i := 3) (oi := ⟨some 15, _, _, _, _, _⟩) (v := .slice (some ⟨w.heap.size + 1, 1, none⟩) 7 7) rfl (by kernel_rfl) (by kernel_rfl) (by kernel_rfl) (fun _ _ _ h => h) (yields_arr (by rfl) (.tmp 14) rfl _ 1 rfl) HS0.out ?_
    try simp only [Act.put, List.setIfInBounds_toArray, List.set_cons_zero, List.set_cons_succ]
    refine wpAnyH_ready (rs := [4]) (by kernel_rfl) (by simp) ?_
    refine AllReadyH.cons (o := ⟨some 16, _, _, _, _, _⟩) rfl (fun K hK => ?_) AllReadyH.nil
    go_simp
    refine (compare_ w.heap.size (w.heap.size + 1) 7 7 p q _ HPQ.out.1 HPQ.out.2 (P1.out.below HS0.out) (Q1.out.below HS0.out)).mono ?_
    rintro e x1 ⟨rfl, m, rfl⟩
    have HS1 : Hid (Below x.heap.size x (x0.drewN m)) := below_drewN HS0.out m
    clear HS0
    go_simp
    refine hK.out _ _ ?_ (fun _ => ?_)
    · exact HS1.out
    clear hK K
    try simp only [Act.put, List.setIfInBounds_toArray, List.set_cons_zero, List.set_cons_succ]
    refine wpAnyH_take (i := 5) (oi := ⟨some 17, _, _, _, _, _⟩) (v := ?_) rfl (by kernel_rfl) (by kernel_rfl) (by kernel_rfl) (fun _ _ _ h => h) (Or.inl ⟨by rfl, ?_⟩) HS1.out ?_
    rotate_left
    · (intro W hSW; clear hSW; go_simp)
      first | done | (with_reducible rfl)
    try simp only [Act.put, List.setIfInBounds_toArray, List.set_cons_zero, List.set_cons_succ]
    refine wpAnyH_take (i := 6) (oi := ⟨some 4, _, _, _, _, _⟩) (v := ?_) rfl (by kernel_rfl) (by kernel_rfl) (by kernel_rfl) (fun _ _ _ h => h) (Or.inl ⟨by rfl, ?_⟩) HS1.out ?_
    rotate_left
    · (intro W hSW; clear hSW; go_simp)
      first | done | (with_reducible rfl)
    try simp only [Act.put, List.setIfInBounds_toArray, List.set_cons_zero, List.set_cons_succ]
    refine wpAnyH_done (by kernel_rfl) ?_ _
    go_wp2
    go_ret
    exact ⟨ret_bool HL.out, W1.out.trans (HS1.out.mono W1.out.size)⟩
  · have HL : Hid (ltP p q = q.v) := by show _ = _; unfold ltP; rw [if_neg hv]
    have hb : (p.v == q.v) = false := by simp [hv]
    clear hv
    go_wp2
    go_ret
    exact ⟨ret_bool HL.out.symm, W1.out⟩
end Go.Proofs.Ytpjeeccgpnpokaa
