/- The contract of slices.Insert of one entry where there is room. Conditions: there is room; the one to be put in lies elsewhere. -/
import Derived.Test.YtpjeeccgpnpokaaCuts
namespace Go.Proofs.Ytpjeeccgpnpokaa
open Go.RowKit

theorem slT : Try.prog.underlying 83 = some (.slice (Try.prog.elem 83)) := by kernel_rfl
theorem usT : Try.prog.underlying 83 = some (.slice 91) := by kernel_rfl
theorem szT (W : World) : (sizeOf (Try.prog.elem 83)).run Try.prog W = .ok 10 W := by kernel_rfl
theorem seT (W : World) : (sizeOf 91).run Try.prog W = .ok 10 W := by kernel_rfl
theorem zeroT (f : Pre → Nat) : (Value.agg (pre0.cs ++ [Value.int .i64 0, Value.pointer none]).toArray).cells.toList = ((kSt f)).cs ent0 := by rfl
theorem infoET (f : Pre → Nat) : (Try.prog.info? 91).map (fun i => (i.zero, i.size, i.bytes)) = some (some (.agg (pre0.cs ++ [Value.int .i64 0, Value.pointer none]).toArray), ((kSt f)).n, 24) := by kernel_rfl
theorem sizeET (f : Pre → Nat) : (Try.prog.info? 91).map (·.size) = some ((kSt f)).n := by kernel_rfl
theorem overT (a b o la ca lb cb : Nat) (w : World) (A B : List Value) (tA tB : TypeId) (ha : Blk w a tA A) (hbb : Blk w b tB B) (hne : a ≠ b) (hB : B.length ≠ 0) :
    (callFunc 44 #[.slice (some ⟨a, 0, none⟩) la ca, .slice (some ⟨b, o, none⟩) lb cb]).run Try.prog w = .ok (.value (.bool false)) w :=
  run_overT 44 _ 83 91 Try.func44 (by kernel_rfl) (by kernel_rfl) (by kernel_rfl) (by kernel_rfl) usT seT a b o la ca lb cb w A B tA tB ha hbb hne hB
set_option maxRecDepth 100000 in
set_option maxHeartbeats 1000000 in
theorem insT_ (f : Pre → Nat) (q q2 k c : Nat) (L : List Ent) (x : Ent) (w : World) (hb : Blk w q 91 (((kSt f)).flat (L ++ zs (c - L.length)))) (hx : Blk w q2 91 (((kSt f)).cs x)) (hq : q ≠ q2) (hk : k ≤ L.length) (hc : L.length < c) (hc2 : c ≤ 64) :
    Calls Try.prog 35 #[.slice (some ⟨q, 0, none⟩) (L.length : Nat) c, .int .i64 (k : Int), .slice (some ⟨q2, 0, none⟩) 1 1] w (InsOut (kSt f) 91 q c (ins L k x) w) := by
  have hX : (L ++ zs (c - L.length)).length = c := by rw [List.length_append, zs_len]; omega
  have hil := ins_length (s := x) hk
  obtain ⟨V1, hV1⟩ := run_cutT1 (n := L.length) (c := c) slT szT (some ⟨q, 0, none⟩) (k : Int) k rfl hk
  have HB := Lib.hid hb
  obtain ⟨l, hl⟩ : ∃ l, L.length = l := ⟨_, rfl⟩
  have HL := Lib.hid hl
  by_cases hkl : k = l
  · have hr := run_appE (K := (kSt f)) (Y := [x]) (ty := 83) usT (infoET f ) hb L.length c ⟨q2, 0, none⟩ 1 1 rfl (fun _ => Els.of_blk hx) (by omega) (by omega)
    have hB2 := setRow_blk hb (((kSt f)).flat ((((L ++ zs (c - L.length)).take L.length ++ [x]) ++ (L ++ zs (c - L.length)).drop (L.length + [x].length))))
    have hF2 := setRow_far w q (((kSt f)).flat ((((L ++ zs (c - L.length)).take L.length ++ [x]) ++ (L ++ zs (c - L.length)).drop (L.length + [x].length)))).toArray
    generalize w.setRow q (((kSt f)).flat ((((L ++ zs (c - L.length)).take L.length ++ [x]) ++ (L ++ zs (c - L.length)).drop (L.length + [x].length)))).toArray = w2 at *
    rw [show [x].length = 1 from rfl, row_end hc] at hB2
    have FIN : Hid (InsOut (kSt f) 91 q c (ins L k x) w (.returned (.slice (some ⟨q, 0, none⟩) (l + 1 : Nat) c)) w2) := by
      refine ⟨by rw [hil, hl], ?_, hF2⟩
      rw [hil, hkl, ← hl]
      exact hB2
    rw [hl] at hr hV1 ⊢
    have hkk : ((k : Int) == (l : Int)) = true := by simp [hkl]
    clear hB2 hF2 HB hb hx hX hk hil hl hkl hc
    go_enter Try.func35, Try.ntmps35
    go_upto_region 1 with fail
    go_upto_region 2 with (refine wpList_sliceT rfl 83 slT (.tmp 10) (some (.tmp 11)) none none rfl (.slice (some ⟨q, 0, none⟩) l c) (some (.int .i64 (k : Int))) none none rfl rfl rfl rfl V1 (hV1 _) ?_)
    go_upto_region 7 with fail
    go_wp2_with (at_builtin; refine wpList_app rfl 83 (.tmp 23) (.tmp 24) rfl _ _ _ rfl rfl hr ?_; clear hr)
    go_ret
    exact FIN.out
  · have hkl' : k < l := by omega
    have hcl : ¬ ((c : Int) < (l : Int) + 1) := by omega
    have hkk : ((k : Int) == (l : Int)) = false := by simp; omega
    have HS1 := Lib.hid (fun W => run_upT (n := l) (c := c) slT szT (some ⟨q, 0, none⟩) ((l : Int) + 1) (l + 1) (by omega) (by omega) W)
    have HS2 := Lib.hid (fun W => run_fromT (q := q) (n := l + 1) (c := c) slT szT ((k : Int) + 1) (k + 1) (by omega) (by omega) (by omega) W)
    rw [show l + 1 - (k + 1) = l - k by omega] at HS2
    have hwk : IntKind.i64.wrap ((k : Int) + 1) = (k : Int) + 1 := by rw [IntKind.wrap_i64]; omega
    have HS3 := Lib.hid (fun W => run_fromT (q := q) (n := l + 1) (c := c) slT szT (k : Int) k rfl (by omega) (by omega) W)
    have hov := fun la ca lb cb o => overT q2 q o la ca lb cb w _ _ _ _ hx hb (fun e => hq e.symm) (by rw [Kin.flat_length, hX]; show c * 10 ≠ 0; omega)
    have hE0 : Els (kSt f) w (some ⟨q, 0, none⟩) (L ++ zs (c - L.length)) := Els.of_row hb
    have hE1 : Els (kSt f) w (some ⟨q, 0, none⟩) L := by
      have := hE0.upto L.length
      rwa [List.take_left] at this
    have hEk : Els (kSt f) w.drew (some ⟨q, k * 10, none⟩) (L.drop k) := by
      have := (hE1.drew).tail k
      rwa [Nat.zero_add] at this
    have hd : (L.drop k).length = L.length - k := by simp
    have hr1 : (Builtin.copy_ #[83, 83] 3 #[.slice (some ⟨q, (k + 1) * 10, none⟩) (l - k) (c - (k + 1)), .slice (some ⟨q, k * 10, none⟩) (l + 1 - k) (c - k)]).run Try.prog w.drew = _ :=
      run_copyE (K := (kSt f)) (ty := 3) usT (sizeET f ) hb.drew (k + 1) (l - k) (c - (k + 1)) ⟨q, k * 10, none⟩ (l + 1 - k) (c - k) (by rw [hd]; show _ = min _ _; omega) hEk (by rw [hd, hX]; omega) (by rw [hd]; omega)
    rw [hd, row_shift hk hc] at hr1
    have hB2 := setRow_blk (hb.drew) (((kSt f)).flat ((((L ++ zs (c - L.length)).take (k + 1) ++ L.drop k)) ++ zs (c - (L.length + 1))))
    have hF2 := setRow_far w.drew q (((kSt f)).flat ((((L ++ zs (c - L.length)).take (k + 1) ++ L.drop k)) ++ zs (c - (L.length + 1)))).toArray
    generalize w.drew.setRow q (((kSt f)).flat ((((L ++ zs (c - L.length)).take (k + 1) ++ L.drop k)) ++ zs (c - (L.length + 1)))).toArray = w2 at *
    have hx2 : Blk w2 q2 91 (((kSt f)).cs x) := (hx.drew).far hF2 (fun e => hq e.symm)
    have hX2 : ((((L ++ zs (c - L.length)).take (k + 1) ++ L.drop k)) ++ zs (c - (L.length + 1))).length = c := by simp [zs_len]; omega
    have hr2 : (Builtin.copy_ #[83, 83] 3 #[.slice (some ⟨q, k * 10, none⟩) (l + 1 - k) (c - k), .slice (some ⟨q2, 0, none⟩) 1 1]).run Try.prog w2 = _ :=
      run_copyE (K := (kSt f)) (Y := [x]) (ty := 3) usT (sizeET f ) hB2 k (l + 1 - k) (c - k) ⟨q2, 0, none⟩ 1 1 (by show 1 = min _ _; omega) (Els.of_blk hx2) (by rw [hX2]; show k + 1 ≤ c; omega) (by show 0 < 1; omega)
    rw [show [x].length = 1 from rfl, row_lay (by omega)] at hr2
    have hB3 := setRow_blk hB2 (((kSt f)).flat (ins L k x ++ zs (c - (L.length + 1))))
    have hF3 := setRow_far w2 q (((kSt f)).flat (ins L k x ++ zs (c - (L.length + 1)))).toArray
    generalize w2.setRow q (((kSt f)).flat (ins L k x ++ zs (c - (L.length + 1)))).toArray = w3 at *
    have FIN : Hid (InsOut (kSt f) 91 q c (ins L k x) w (.returned (.slice (some ⟨q, 0, none⟩) (l + 1 : Nat) c)) w3) := by
      refine ⟨by rw [hil, hl], ?_, Far.trans (S := only q) ((Far.refl (only q) w).drew) (hF2.trans hF3 (fun _ _ e => e)) (fun _ _ e => e)⟩
      rw [hil]
      exact hB3
    have R1 := Lib.hid hr1
    have R2 := Lib.hid hr2
    have HV := Lib.hid hV1
    rw [hl] at HV ⊢
    clear hB2 hF2 hB3 hF3 HB hb hx hx2 hX hX2 hk hil hl hkl hc hr1 hr2 hd hE0 hE1 hEk hV1 HL
    have hov1 := hov 1 1 (l - k) (c - (k + 1)) ((k + 1) * 10)
    clear hov
    go_enter Try.func35, Try.ntmps35
    go_upto_region 1 with fail
    go_upto_region 2 with (refine wpList_sliceT rfl 83 slT (.tmp 10) (some (.tmp 11)) none none rfl (.slice (some ⟨q, 0, none⟩) l c) (some (.int .i64 (k : Int))) none none rfl rfl rfl rfl V1 (HV.out _) ?_)
    go_upto_region 13 with fail
    go_upto_region 14 with (refine wpList_sliceT rfl 83 slT (.tmp 56) none (some (.tmp 59)) none rfl (.slice (some ⟨q, 0, none⟩) l c) none (some (.int .i64 ((l : Int) + 1))) none rfl rfl rfl rfl (.slice (some ⟨q, 0, none⟩) (l + 1) c) (HS1.out _) ?_)
    go_upto_region 15 with (refine wpList_sliceT rfl 83 slT (.tmp 62) (some (.tmp 65)) none none rfl (.slice (some ⟨q, 0, none⟩) (l + 1) c) (some (.int .i64 ((k : Int) + 1))) none none rfl rfl rfl rfl (.slice (some ⟨q, (k + 1) * 10, none⟩) (l - k) (c - (k + 1))) (HS2.out _) ?_)
    refine wp_region_held_drew (S := fun _ => True) (by kernel_rfl) ?_ (fun _ => ?_)
    · exact trivial
    have HS0 : Hid True := Lib.hid trivial
    refine wpAnyH_take (i := 0) (oi := ⟨some 69, _, _, _, _, _⟩) (v := ?_) rfl (by kernel_rfl) (by kernel_rfl) (by kernel_rfl) (fun _ _ _ h => h) (Or.inl ⟨by rfl, ?_⟩) HS0.out ?_
    rotate_left
    · (intro W hSW; clear hSW; go_simp)
      first | done | (with_reducible rfl)
    try simp only [Act.put, List.setIfInBounds_toArray, List.set_cons_zero, List.set_cons_succ]
    refine wpAnyH_take (i := 1) (oi := ⟨some 70, _, _, _, _, _⟩) (v := ?_) rfl (by kernel_rfl) (by kernel_rfl) (by kernel_rfl) (fun _ _ _ h => h) (Or.inl ⟨by rfl, ?_⟩) HS0.out ?_
    rotate_left
    · (intro W hSW; clear hSW; go_simp)
      first | done | (with_reducible rfl)
    try simp only [Act.put, List.setIfInBounds_toArray, List.set_cons_zero, List.set_cons_succ]
    refine wpAnyH_take (i := 2) (oi := ⟨some 71, _, _, _, _, _⟩) (v := ?_) rfl (by kernel_rfl) (by kernel_rfl) (by kernel_rfl) (fun _ _ _ h => h) (Or.inl ⟨by rfl, ?_⟩) HS0.out ?_
    rotate_left
    · (intro W hSW; clear hSW; go_simp)
      first | done | (with_reducible rfl)
    try simp only [Act.put, List.setIfInBounds_toArray, List.set_cons_zero, List.set_cons_succ]
    refine wpAnyH_take (i := 3) (oi := ⟨some 72, _, _, _, _, _⟩) (v := .int .i64 ((k : Int) + 1)) rfl (by kernel_rfl) (by kernel_rfl) (by kernel_rfl) (fun _ _ _ h => h) (Or.inl ⟨by rfl, ?_⟩) HS0.out ?_
    · (intro W hSW; clear hSW; go_simp)
    try simp only [Act.put, List.setIfInBounds_toArray, List.set_cons_zero, List.set_cons_succ]
    refine wpAnyH_take (i := 4) (oi := ⟨some 73, _, _, _, _, _⟩) (v := .slice (some ⟨q, (k + 1) * 10, none⟩) (l - k) (c - (k + 1))) rfl (by kernel_rfl) (by kernel_rfl) (by kernel_rfl) (fun _ _ _ h => h) (yields_sliceT (by rfl) 83 slT (.tmp 69) (some (.tmp 72)) none none rfl (.slice (some ⟨q, 0, none⟩) (l + 1 : Nat) c) (some (.int .i64 ((k : Int) + 1))) none none (by rfl) (by rfl) (by rfl) (by rfl) _ HS2.out) HS0.out ?_
    try simp only [Act.put, List.setIfInBounds_toArray, List.set_cons_zero, List.set_cons_succ]
    refine wpAnyH_take (i := 5) (oi := ⟨some 74, _, _, _, _, _⟩) (v := ?_) rfl (by kernel_rfl) (by kernel_rfl) (by kernel_rfl) (fun _ _ _ h => h) (Or.inl ⟨by rfl, ?_⟩) HS0.out ?_
    rotate_left
    · (intro W hSW; clear hSW; go_simp)
      first | done | (with_reducible rfl)
    try simp only [Act.put, List.setIfInBounds_toArray, List.set_cons_zero, List.set_cons_succ]
    refine wpAnyH_take (i := 6) (oi := ⟨some 75, _, _, _, _, _⟩) (v := ?_) rfl (by kernel_rfl) (by kernel_rfl) (by kernel_rfl) (fun _ _ _ h => h) (Or.inl ⟨by rfl, ?_⟩) HS0.out ?_
    rotate_left
    · (intro W hSW; clear hSW; go_simp)
      first | done | (with_reducible rfl)
    try simp only [Act.put, List.setIfInBounds_toArray, List.set_cons_zero, List.set_cons_succ]
    refine wpAnyH_take (i := 7) (oi := ⟨some 76, _, _, _, _, _⟩) (v := .slice (some ⟨q, k * 10, none⟩) (l + 1 - k) (c - k)) rfl (by kernel_rfl) (by kernel_rfl) (by kernel_rfl) (fun _ _ _ h => h) (yields_sliceT (by rfl) 83 slT (.tmp 74) (some (.tmp 75)) none none rfl (.slice (some ⟨q, 0, none⟩) (l + 1 : Nat) c) (some (.int .i64 (k : Int))) none none (by rfl) (by rfl) (by rfl) (by rfl) _ HS3.out) HS0.out ?_
    try simp only [Act.put, List.setIfInBounds_toArray, List.set_cons_zero, List.set_cons_succ]
    refine wpAnyH_ready (rs := [8]) (by kernel_rfl) (by simp) ?_
    refine AllReadyH.cons (o := ⟨some 77, _, _, _, _, _⟩) rfl (fun K hK => ?_) AllReadyH.nil
    refine step_copyT (by rfl) 83 (.tmp 73) (.tmp 76) rfl _ _ _ rfl rfl R1.out ?_
    refine hK.out _ _ ?_ (fun _ => ?_)
    · exact trivial
    clear hK K
    try simp only [Act.put, List.setIfInBounds_toArray, List.set_cons_zero, List.set_cons_succ]
    refine wpAnyH_done (by kernel_rfl) ?_ _
    go_upto_region 17 with (first | (refine wpList_copyT rfl 83 (.tmp 80) (.tmp 81) rfl _ _ _ rfl rfl R2.out ?_) | (refine wpList_sliceT rfl 83 slT (.tmp 78) (some (.tmp 79)) none none rfl (.slice (some ⟨q, 0, none⟩) (l + 1) c) (some (.int .i64 (k : Int))) none none rfl rfl rfl rfl (.slice (some ⟨q, k * 10, none⟩) (l + 1 - k) (c - k)) (HS3.out _) ?_))
    go_wp2_with fail
    go_ret
    exact FIN.out
end Go.Proofs.Ytpjeeccgpnpokaa
