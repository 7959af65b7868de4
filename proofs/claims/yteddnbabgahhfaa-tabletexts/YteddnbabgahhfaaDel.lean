/- The contract of the document's Del. Conditions: those of each theorem. -/
import Derived.Test.YteddnbabgahhfaaSteps
namespace Go.Proofs.Yteddnbabgahhfaa
open Go.RowKit

set_option maxHeartbeats 1000000 in
theorem del_ (A : Option Addr) (c : Nat) (L : List Ent) (p : Pre) (w : World) (h : Els kEnt w A L) (ho : Oks L) (hp : p.Ok) (hc : L.length ≤ c) (hl : L.length ≤ 1000) : Calls Try.prog 16 #[.slice A L.length c, .agg p.cs.toArray] w (DResF kEnt A (del L p) w) := by
  have n3 : Below w.heap.size w (w.alloc (.cells p.cs.toArray 31)) := (Below.refl _ w).alloc (Nat.le_refl _) _
  have P1 := Lib.hid (Blk.new w 31 p.cs)
  have W1 := Lib.hid n3
  have H := Lib.hid (fun W (hW : Below w.heap.size w W) => h.below hW)
  have HF := Lib.hid (fun W (hW : Below w.heap.size w W) => find_ A c L p W (h.below hW) ho hp (by omega))
  have hcL := hc
  obtain ⟨n, hn⟩ : ∃ n, L.length = n := ⟨_, rfl⟩
  have HN := Lib.hid hn
  rw [hn] at hl hc HF ⊢
  have HC0 := Lib.hid hc
  rcases hh : has L p with _ | _
  · have HV : Hid (∀ W, Below w.heap.size w W → DResF kEnt A (del L p) w (.returned (.slice A n c)) W) := fun W hW => by
      have e : del L p = L := by simp [del, hh]
      rw [e]
      exact ⟨A, c, by rw [hn], hcL, h.below hW, hW, .inl rfl⟩
    rw [fnd_not hh] at HF
    clear n3 h hp ho hn hh hcL
    go_enter Try.func16, Try.ntmps16
    go_upto_region 1 with fail
    generalize (w.alloc (.cells p.cs.toArray 31)) = x at *
    go_wp2_with (first | (refine wpList_pre (by rfl) (.tmp 3) rfl _ _ rfl p (whole_at P1.out) ?_) | (go_at_call 13; (with_reducible refine (HF.out _ W1.out).mono ?_); rintro e w3 ⟨rfl, hb3⟩; have W3 := Lib.hid (W1.out.trans (hb3.mono W1.out.size)); clear hb3))
    go_ret
    exact HV.out _ W3.out
  · have HJ := has_iff.1 hh
    have hdl : del L p = L.take (idx L p) ++ L.drop (idx L p + 1) := by simp [del, hh]
    rw [fnd_has hh] at HF
    generalize idx L p = j at *
    have HDEL : Hid (([] ++ L.take j) ++ L.drop (j + 1) = del L p) := hdl.symm
    have hjn : j < n := by rw [← hn]; exact HJ
    have HS1 := Lib.hid (fun W => run_upto36 (A := A) (n := n) (c := c) (k := j) W (by omega))
    have HS2 := Lib.hid (fun W => run_from36 (A := A) (n := n) (c := c) (k := j + 1) W (by omega))
    have HZ := Lib.hid (fun W (hW : Els kEnt W A L) => hW.from_ (k := j + 1) (cap := c) hcL)
    generalize hzz : (if c = j + 1 then A else A.map (·.add ((j + 1) * 9))) = Z at HS2
    have HZ2 : Hid (∀ W, Els kEnt W A L → Els kEnt W Z (L.drop (j + 1))) := hzz ▸ HZ
    clear hzz HZ
    have hwp : IntKind.i64.wrap ((j : Int) + 1) = ((j + 1 : Nat) : Int) := by rw [IntKind.wrap_i64]; omega
    clear n3 h hp ho hn hh HJ hdl
    go_enter Try.func16, Try.ntmps16
    go_upto_region 1 with fail
    generalize (w.alloc (.cells p.cs.toArray 31)) = x at *
    go_upto_region 4 with (first | (refine wpList_pre (by rfl) (.tmp 3) rfl _ _ rfl p (whole_at P1.out) ?_) | (go_at_call 13; (with_reducible refine (HF.out _ W1.out).mono ?_); rintro e w3 ⟨rfl, hb3⟩; have W3 := Lib.hid (W1.out.trans (hb3.mono W1.out.size)); clear hb3))
    refine wp_region_held_drew (S := fun _ => True) (by kernel_rfl) ?_ (fun _ => ?_)
    · exact trivial
    have HS0 : Hid True := Lib.hid trivial
    have W4 : Hid (Below w.heap.size w w3.drew) := W3.out.drew
    have W4z := W4.out.size
    have E4 := Lib.hid (H.out _ W4.out)
    generalize w3.drew = w4 at *
    have hb5 : Below w4.heap.size w4 (w4.alloc (.cells #[] 43)) := (Below.refl _ w4).alloc (Nat.le_refl _) _
    have O5 : Ow kEnt 43 w4.heap.size (.slice (some ⟨w4.heap.size, 0, none⟩) 0 0) [] (w4.alloc (.cells #[] 43)) := Ow.new w4 (Nat.le_refl _)
    obtain ⟨v6, w6, hrun6, o6, g6, b6⟩ := run_app (P := Try.prog) (R := L.take j) (w4.alloc (.cells #[] 43)) 36 36 (.agg ent0.cs.toArray) 16 Try.underlying36 info43 rfl (by decide) O5 (A := A) ((E4.out.upto j).below hb5) c (by simp; omega) hb5.size
    have hb6 : Below w4.heap.size w4 w6 := hb5.trans ((Far.grown (S := fun k => k = w4.heap.size) (Far.refl _ _) g6 (fun k hk _ => by simpa [Value.ownBlock] using hk.symm)).below hb5.size (fun k hk e => by omega))
    obtain ⟨v7, w7, hrun7, o7, g7, b7⟩ := run_app (P := Try.prog) (R := L.drop (j + 1)) w6 36 36 (.agg ent0.cs.toArray) 16 Try.underlying36 info43 rfl (by decide) o6 ((HZ2.out _ E4.out).below hb6) (c - (j + 1)) (by have := HN.out; simp; omega) (hb6.size)
    have hb7 : Below w4.heap.size w4 w7 := hb6.trans ((Far.grown (S := fun k => w4.heap.size ≤ k) (Far.refl _ _) g7 (fun k hk _ => (o6.lt k hk).1)).below hb6.size (fun k hk e => by omega))
    have hlt7 := o7.lt
    obtain ⟨A7, c7, hv7, hc7, _, E7, ho7, _⟩ := o7.els
    have hfrm : Frm A w w7 A7 := Frm.own ho7 hlt7 W4z
    clear hlt7 ho7
    subst hv7
    have HD : Hid (([] ++ L.take j) ++ L.drop (j + 1) = del L p) := HDEL.out
    rw [HD.out] at hrun7 hc7 E7
    rw [List.length_take, HN.out, Nat.min_eq_left (by omega)] at hrun6
    rw [List.length_drop, HN.out] at hrun7
    have R6 := Lib.hid hrun6
    have R7 := Lib.hid hrun7
    have FIN : Hid (DResF kEnt A (del L p) w (.returned (.slice A7 (del L p).length c7)) w7) := ⟨A7, c7, rfl, hc7, E7, W4.out.trans (hb7.mono W4z), hfrm⟩
    clear hrun6 hrun7 hc7 E7 o6 O5 g6 g7 b6 b7 hb5 hb6 hb7
    refine wpAnyH_take (i := 1) (oi := ⟨some 13, _, _, _, _, _⟩) (v := ?_) rfl (by kernel_rfl) (by kernel_rfl) (by kernel_rfl) (fun _ _ _ h => h) (Or.inl ⟨by rfl, ?_⟩) HS0.out ?_
    rotate_left
    · (intro W hSW; clear hSW; go_simp)
      first | done | (with_reducible rfl)
    try simp only [Act.put, List.setIfInBounds_toArray, List.set_cons_zero, List.set_cons_succ]
    refine wpAnyH_take (i := 2) (oi := ⟨some 14, _, _, _, _, _⟩) (v := ?_) rfl (by kernel_rfl) (by kernel_rfl) (by kernel_rfl) (fun _ _ _ h => h) (Or.inl ⟨by rfl, ?_⟩) HS0.out ?_
    rotate_left
    · (intro W hSW; clear hSW; go_simp)
      first | done | (with_reducible rfl)
    try simp only [Act.put, List.setIfInBounds_toArray, List.set_cons_zero, List.set_cons_succ]
    refine wpAnyH_take (i := 3) (oi := ⟨some 15, _, _, _, _, _⟩) (v := .slice A j c) rfl (by kernel_rfl) (by kernel_rfl) (by kernel_rfl) (fun _ _ _ h => h) (yields_slice (by rfl) (.tmp 13) none (some (.tmp 14)) none rfl (.slice A n c) none (some (.int .i64 (j : Nat))) none (by rfl) (by rfl) (by rfl) (by rfl) _ HS1.out) HS0.out ?_
    try simp only [Act.put, List.setIfInBounds_toArray, List.set_cons_zero, List.set_cons_succ]
    refine wpAnyH_take (i := 5) (oi := ⟨some 17, _, _, _, _, _⟩) (v := ?_) rfl (by kernel_rfl) (by kernel_rfl) (by kernel_rfl) (fun _ _ _ h => h) (Or.inl ⟨by rfl, ?_⟩) HS0.out ?_
    rotate_left
    · (intro W hSW; clear hSW; go_simp)
      first | done | (with_reducible rfl)
    try simp only [Act.put, List.setIfInBounds_toArray, List.set_cons_zero, List.set_cons_succ]
    refine wpAnyH_take (i := 6) (oi := ⟨some 18, _, _, _, _, _⟩) (v := ?_) rfl (by kernel_rfl) (by kernel_rfl) (by kernel_rfl) (fun _ _ _ h => h) (Or.inl ⟨by rfl, ?_⟩) HS0.out ?_
    rotate_left
    · (intro W hSW; clear hSW; go_simp)
      first | done | (with_reducible rfl)
    try simp only [Act.put, List.setIfInBounds_toArray, List.set_cons_zero, List.set_cons_succ]
    refine wpAnyH_take (i := 7) (oi := ⟨some 19, _, _, _, _, _⟩) (v := .int .i64 ((j + 1 : Nat) : Int)) rfl (by kernel_rfl) (by kernel_rfl) (by kernel_rfl) (fun _ _ _ h => h) (Or.inl ⟨by rfl, ?_⟩) HS0.out ?_
    · (intro W hSW; clear hSW; go_simp)
    try simp only [Act.put, List.setIfInBounds_toArray, List.set_cons_zero, List.set_cons_succ]
    refine wpAnyH_take (i := 8) (oi := ⟨some 20, _, _, _, _, _⟩) (v := .slice Z (n - (j + 1)) (c - (j + 1))) rfl (by kernel_rfl) (by kernel_rfl) (by kernel_rfl) (fun _ _ _ h => h) (yields_slice (by rfl) (.tmp 17) (some (.tmp 19)) none none rfl (.slice A n c) (some (.int .i64 ((j + 1 : Nat) : Int))) none none (by rfl) (by rfl) (by rfl) (by rfl) _ HS2.out) HS0.out ?_
    try simp only [Act.put, List.setIfInBounds_toArray, List.set_cons_zero, List.set_cons_succ]
    refine wpAnyH_ready (rs := [0]) (by kernel_rfl) (by simp) ?_
    refine AllReadyH.cons (o := ⟨some 12, _, _, _, _, _⟩) rfl (fun K hK => ?_) AllReadyH.nil
    refine step_emp (by rfl) rfl ?_
    refine hK.out _ _ ?_ (fun _ => ?_)
    · exact trivial
    clear hK K
    try simp only [Act.put, List.setIfInBounds_toArray, List.set_cons_zero, List.set_cons_succ]
    refine wpAnyH_ready (rs := [4]) (by kernel_rfl) (by simp) ?_
    refine AllReadyH.cons (o := ⟨some 16, _, _, _, _, _⟩) rfl (fun K hK => ?_) AllReadyH.nil
    refine step_app (by rfl) 36 (.tmp 12) (.tmp 15) rfl _ _ _ rfl rfl R6.out ?_
    refine hK.out _ _ ?_ (fun _ => ?_)
    · exact trivial
    clear hK K
    try simp only [Act.put, List.setIfInBounds_toArray, List.set_cons_zero, List.set_cons_succ]
    refine wpAnyH_ready (rs := [9]) (by kernel_rfl) (by simp) ?_
    refine AllReadyH.cons (o := ⟨some 21, _, _, _, _, _⟩) rfl (fun K hK => ?_) AllReadyH.nil
    refine step_app (by rfl) 36 (.tmp 16) (.tmp 20) rfl _ _ _ rfl rfl R7.out ?_
    refine hK.out _ _ ?_ (fun _ => ?_)
    · exact trivial
    clear hK K
    try simp only [Act.put, List.setIfInBounds_toArray, List.set_cons_zero, List.set_cons_succ]
    refine wpAnyH_take (i := 10) (oi := ⟨some 4, _, _, _, _, _⟩) (v := ?_) rfl (by kernel_rfl) (by kernel_rfl) (by kernel_rfl) (fun _ _ _ h => h) (Or.inl ⟨by rfl, ?_⟩) HS0.out ?_
    rotate_left
    · (intro W hSW; clear hSW; go_simp)
      first | done | (with_reducible rfl)
    try simp only [Act.put, List.setIfInBounds_toArray, List.set_cons_zero, List.set_cons_succ]
    refine wpAnyH_done (by kernel_rfl) ?_ _
    go_wp2_with fail
    go_ret
    exact FIN.out
end Go.Proofs.Yteddnbabgahhfaa
