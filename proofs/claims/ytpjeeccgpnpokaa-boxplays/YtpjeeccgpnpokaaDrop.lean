/- The contract of the document's Drop. Conditions: those of each theorem. -/
import Derived.Test.YtpjeeccgpnpokaaFind
import Derived.Test.YtpjeeccgpnpokaaUntil
namespace Go.Proofs.Ytpjeeccgpnpokaa
open Go.RowKit

set_option maxRecDepth 4000 in
set_option maxHeartbeats 2000000 in
theorem drop_ (A : Option Addr) (c : Nat) (L : List Ent) (C : Cfg) (p : Pre) (x : Int) (w : World) (h : Els (kEnt C.r C.b) w A L) (ho : Oks C L) (hp : p.Ok) (hl : L.length ≤ 1000) :
    Calls Try.prog 17 #[bx A L.length c C, .agg p.cs.toArray, .int .i64 x] w (BRes (del (swp L x) p) C (fun v => .tuple #[v, .bool (has (swp L x) p)]) w) := by
  obtain ⟨n, hn⟩ : ∃ n, L.length = n := ⟨_, rfl⟩
  obtain ⟨n0, n1, n2, n3⟩ := three_new A n c C p w
  have N0 := Lib.hid n0
  have N1 := Lib.hid n1
  have N2 := Lib.hid n2
  have W0 := Lib.hid n3
  have H := Lib.hid (h.below n3)
  have HS := Lib.hid (fun W hW => hn ▸ sweep_ A c L C x W hW hl)
  have hsl : (swp L x).length ≤ 1000 := Nat.le_trans (swp_len L x) hl
  have HO := Lib.hid (And.intro (ho.swp x) hp)
  rw [hn]
  clear hn n0 n1 n2 n3 h ho hp hl
  obtain ⟨S, hS⟩ : ∃ S, swp L x = S := ⟨_, rfl⟩
  rw [hS] at HS HO hsl ⊢
  clear hS
  have hall : ∀ A2 n2 c2, (bcs A2 n2 c2 C).toArray.all (·.oneCell') = true := fun A2 n2 c2 => all_oneCell_toArray (bcs_each _ _ _ _)
  go_enter Try.func17, Try.ntmps17
  go_upto_region 1 with fail
  generalize (((w.alloc (.cells (bcs A n c C).toArray 37)).alloc (.cells p.cs.toArray 31)).alloc (.cells #[.slice none 0 0, .int .i64 0, .int .i64 0, .int .i64 0, .int .i64 0] 37)) = x1 at *
  go_upto_region 2 with (first
    | (refine wpList_loadE (by rfl) 37 _ Try.underlying37 rfl (.tmp 3) rfl w.heap.size 0 rfl _ (whole_at N0.out) size37 ?_)
    | (go_at_call 12; (with_reducible refine (HS.out _ H.out).mono ?_); rintro e x2 ⟨A2, c2, rfl, hc2, hE2, hb2, hfr2⟩; have N0' := Lib.hid (N0.out.below hb2))
    | (refine wpList_lay rfl 37 5 size37 (.tmp 3) (.tmp 11) rfl _ (bcs A2 S.length c2 C) rfl rfl 37 _ N0'.out rfl rfl (hall _ _ _) ?_; intro x3 hB3 hF3; have D1 := Lib.hid (Hd.first N1.out N2.out W0.out hb2 hE2 hc2 hfr2 hB3.out hF3.out); clear hB3 hF3))
  clear hc2 hE2 hb2 hfr2 N0 N0' N1 N2 W0 H HS
  go_upto_region 3 with (first
    | (refine wpList_loadE (by rfl) 37 _ Try.underlying37 rfl (.tmp 3) rfl w.heap.size 0 rfl _ (whole_at D1.out.b) size37 ?_)
    | (refine wpList_pre (by rfl) (.tmp 4) rfl _ 0 rfl p (whole_at D1.out.p) ?_)
    | (go_at_call 13; (with_reducible refine (find_ A2 c2 S C p _ D1.out.els HO.out.1 HO.out.2 hsl).mono ?_); rintro e x4 ⟨rfl, hb⟩; have D2 := Lib.hid (D1.out.below hb); clear hb))
  clear D1
  rcases hh : has S p with _ | _
  · rw [fnd_not hh]
    have HFN : Hid (∀ W, BRes S C (fun v => .tuple #[v, .bool false]) w (.returned (.tuple #[bx A2 S.length c2 C, .bool false])) W → BRes (del S p) C (fun v => .tuple #[v, .bool (has S p)]) w (.returned (.tuple #[bx A2 S.length c2 C, .bool false])) W) := fun W hW => by
      have hdel : del S p = S := by simp [del, hh]
      rw [hdel, hh]
      exact hW
    clear hh
    go_wp2_with (first
      | (refine wpList_loadE (by rfl) 37 _ Try.underlying37 rfl (.tmp 3) rfl w.heap.size 0 rfl _ (whole_at D2.out.b) size37 ?_)
      | (refine wpList_lay rfl 37 5 size37 (.tmp 6) (.tmp 17) rfl _ (bcs A2 S.length c2 C) rfl rfl 37 _ D2.out.r rfl rfl (hall _ _ _) ?_; intro x9 hB9 hF9; have hv := load_bx hB9.out rfl; have FIN := Lib.hid (D2.out.fin hF9.out (fun v => .tuple #[v, .bool false]))))
    refine bodyPost_ret (v := .tuple #[bx A2 S.length c2 C, .bool false]) (by simp [results, Try.results17, asAddr, hv]) rfl (HFN.out _ FIN.out)
  · have HJ := has_iff.1 hh
    rw [fnd_has hh]
    have hdl : del S p = S.take (idx S p) ++ S.drop (idx S p + 1) := by simp [del, hh]
    have hcap := D2.out.cap
    obtain ⟨n2, hn2⟩ : ∃ n2, S.length = n2 := ⟨_, rfl⟩
    rw [hn2] at HJ hcap
    have HN2 := Lib.hid hn2
    have HHH := Lib.hid hh
    generalize idx S p = j at *
    have hj1 : j + 1 ≤ n2 := HJ
    have HDEL : Hid (([] ++ S.take j) ++ S.drop (j + 1) = del S p) := hdl.symm
    have HS1 := Lib.hid (fun W => run_upto35 (A := A2) (n := n2) (c := c2) (k := j) W (by omega))
    have HS2 := Lib.hid (fun W => run_from35 (A := A2) (n := n2) (c := c2) (k := j + 1) W (by omega))
    have HZ := Lib.hid (fun W (hW : Els (kEnt C.r C.b) W A2 S) => hW.from_ (k := j + 1) (cap := c2) (by omega))
    generalize hzz : (if c2 = j + 1 then A2 else A2.map (·.add ((j + 1) * 13))) = Z at HS2
    have HZ2 : Hid (∀ W, Els (kEnt C.r C.b) W A2 S → Els (kEnt C.r C.b) W Z (S.drop (j + 1))) := hzz ▸ HZ
    clear hzz HZ hdl hh
    have hwp : IntKind.i64.wrap ((j : Int) + 1) = ((j + 1 : Nat) : Int) := by rw [IntKind.wrap_i64]; omega
    go_upto_region 5 with fail
    have hSz := D2.out.size
    have HC0 : x4.drew.cell? ⟨w.heap.size, 0, none⟩ = some (.slice A2 n2 c2) := HN2.out ▸ D2.out.b.cell 0
    refine til_begin (fun W => W.cell? ⟨w.heap.size, 0, none⟩ = some (.slice A2 n2 c2)) 12 (by kernel_rfl) ?_
    have D0 := Lib.hid HC0
    have D3 : Hid (Hd w S C p A2 c2 x4.drew) := D2.out.below ((Below.refl _ x4).drew)
    clear HC0 D2
    generalize x4.drew = w4 at *
    have HC : Hid (∀ W, Below w4.heap.size w4 W → W.cell? ⟨w.heap.size, 0, none⟩ = some (.slice A2 n2 c2)) := fun W hW => HN2.out ▸ (D3.out.b.below hW).cell 0
    have hb5 : Below w4.heap.size w4 (w4.alloc (.cells #[] 77)) := (Below.refl _ w4).alloc (Nat.le_refl _) _
    have O5 : Ow (kEnt C.r C.b) 77 w4.heap.size (.slice (some ⟨w4.heap.size, 0, none⟩) 0 0) [] (w4.alloc (.cells #[] 77)) := Ow.new w4 (Nat.le_refl _)
    obtain ⟨v6, w6, hrun6, o6, g6, b6⟩ := run_app (P := Try.prog) (R := S.take j) (w4.alloc (.cells #[] 77)) 35 35 (.agg (ent0.cs 0 0).toArray) 48 Try.underlying35 (info77 C.r C.b) rfl (by omega) O5 (A := A2) ((D3.out.els.upto j).below hb5) c2 (by simp; omega) hb5.size
    have hb6 : Below w4.heap.size w4 w6 := hb5.trans ((Far.grown (S := fun k => k = w4.heap.size) (Far.refl _ _) g6 (fun k hk _ => by simpa [Value.ownBlock] using hk.symm)).below hb5.size (fun k hk e => by omega))
    obtain ⟨v7, w7, hrun7, o7, g7, b7⟩ := run_app (P := Try.prog) (R := S.drop (j + 1)) w6 35 35 (.agg (ent0.cs 0 0).toArray) 48 Try.underlying35 (info77 C.r C.b) rfl (by omega) o6 ((HZ2.out _ D3.out.els).below hb6) (c2 - (j + 1)) (by have := HN2.out; simp; omega) (hb6.size)
    have hb7 : Below w4.heap.size w4 w7 := hb6.trans ((Far.grown (S := fun k => w4.heap.size ≤ k) (Far.refl _ _) g7 (fun k hk _ => (o6.lt k hk).1)).below hb6.size (fun k hk e => by omega))
    have hlt7 := o7.lt
    obtain ⟨A7, c7, hv7, hc7, _, E7, ho7, _⟩ := o7.els
    have hfr7 : ∀ ad, A7 = some ad → w.heap.size + 3 ≤ ad.block ∧ ad.block < w7.heap.size := fun ad e => by
      subst e
      have h1 := hlt7 _ ho7
      have h2 : w4.heap.size ≤ ad.block := h1.1
      have h3 := D3.out.size
      exact ⟨by show _ ≤ ad.block; omega, h1.2⟩
    clear hlt7 ho7
    subst hv7
    rw [HDEL.out] at hrun7 hc7 E7
    rw [List.length_take, HN2.out, Nat.min_eq_left (by omega)] at hrun6
    rw [List.length_drop, HN2.out] at hrun7
    have R6 := Lib.hid hrun6
    have R7 := Lib.hid hrun7
    have B5 := Lib.hid hb5
    have B6 := Lib.hid hb6
    have B7 := Lib.hid hb7
    have D7 := D3.out.below hb7
    have HF7 : Hid (w7.frozen? ⟨w.heap.size, 0, none⟩ = false) := D7.b.frozen 0
    have D8 : Hid (Hd w (del S p) C p A7 c7 (w7.setCell ⟨w.heap.size, 0, none⟩ (.slice A7 (del S p).length c7))) :=
      D7.turn ((Far.refl (only w.heap.size) w7).set_ (p := ⟨w.heap.size, 0, none⟩) (fun _ => rfl) _) (D7.b.set_ 0 _) E7 hc7 hfr7
    clear hrun6 hrun7 hc7 E7 o6 O5 g6 g7 b6 b7 hb5 hb6 hb7 D7 D3 hfr7 o7 HDEL HZ2
    have HFN : Hid (∀ A c W, BRes (del S p) C (fun v => .tuple #[v, .bool true]) w (.returned (.tuple #[bx A (del S p).length c C, .bool true])) W → BRes (del S p) C (fun v => .tuple #[v, .bool (has S p)]) w (.returned (.tuple #[bx A (del S p).length c C, .bool true])) W) := fun A c W hW => by
      rw [HHH.out]
      exact hW
    clear HHH
    refine til_take (i := 1) (oi := ⟨some 19, _, _, _, _, _⟩) (v := ?_) rfl (by kernel_rfl) (by kernel_rfl) (by kernel_rfl) (by decide) (by kernel_rfl) (by kernel_rfl) (fun _ _ _ h => h) (Or.inl ⟨by rfl, ?_⟩) D0.out ?_
    rotate_left
    · (intro W hSW; clear hSW; go_simp)
      first | done | (with_reducible rfl)
    try simp only [Act.put, List.setIfInBounds_toArray, List.set_cons_zero, List.set_cons_succ]
    refine til_take (i := 2) (oi := ⟨some 20, _, _, _, _, _⟩) (v := ?_) rfl (by kernel_rfl) (by kernel_rfl) (by kernel_rfl) (by decide) (by kernel_rfl) (by kernel_rfl) (fun _ _ _ h => h) (Or.inl ⟨by rfl, ?_⟩) D0.out ?_
    rotate_left
    · (intro W hSW; have k0 := hSW; clear hSW; go_simp)
      first | done | (with_reducible rfl)
    try simp only [Act.put, List.setIfInBounds_toArray, List.set_cons_zero, List.set_cons_succ]
    refine til_take (i := 3) (oi := ⟨some 21, _, _, _, _, _⟩) (v := ?_) rfl (by kernel_rfl) (by kernel_rfl) (by kernel_rfl) (by decide) (by kernel_rfl) (by kernel_rfl) (fun _ _ _ h => h) (Or.inl ⟨by rfl, ?_⟩) D0.out ?_
    rotate_left
    · (intro W hSW; clear hSW; go_simp)
      first | done | (with_reducible rfl)
    try simp only [Act.put, List.setIfInBounds_toArray, List.set_cons_zero, List.set_cons_succ]
    refine til_take (i := 4) (oi := ⟨some 22, _, _, _, _, _⟩) (v := .slice A2 j c2) rfl (by kernel_rfl) (by kernel_rfl) (by kernel_rfl) (by decide) (by kernel_rfl) (by kernel_rfl) (fun _ _ _ h => h) (yields_slice (by rfl) (.tmp 20) none (some (.tmp 21)) none rfl (.slice A2 n2 c2) none (some (.int .i64 (j : Nat))) none (by rfl) (by rfl) (by rfl) (by rfl) _ HS1.out) D0.out ?_
    try simp only [Act.put, List.setIfInBounds_toArray, List.set_cons_zero, List.set_cons_succ]
    refine til_take (i := 6) (oi := ⟨some 24, _, _, _, _, _⟩) (v := ?_) rfl (by kernel_rfl) (by kernel_rfl) (by kernel_rfl) (by decide) (by kernel_rfl) (by kernel_rfl) (fun _ _ _ h => h) (Or.inl ⟨by rfl, ?_⟩) D0.out ?_
    rotate_left
    · (intro W hSW; clear hSW; go_simp)
      first | done | (with_reducible rfl)
    try simp only [Act.put, List.setIfInBounds_toArray, List.set_cons_zero, List.set_cons_succ]
    refine til_take (i := 7) (oi := ⟨some 25, _, _, _, _, _⟩) (v := ?_) rfl (by kernel_rfl) (by kernel_rfl) (by kernel_rfl) (by decide) (by kernel_rfl) (by kernel_rfl) (fun _ _ _ h => h) (Or.inl ⟨by rfl, ?_⟩) D0.out ?_
    rotate_left
    · (intro W hSW; have k0 := hSW; clear hSW; go_simp)
      first | done | (with_reducible rfl)
    try simp only [Act.put, List.setIfInBounds_toArray, List.set_cons_zero, List.set_cons_succ]
    refine til_take (i := 8) (oi := ⟨some 26, _, _, _, _, _⟩) (v := ?_) rfl (by kernel_rfl) (by kernel_rfl) (by kernel_rfl) (by decide) (by kernel_rfl) (by kernel_rfl) (fun _ _ _ h => h) (Or.inl ⟨by rfl, ?_⟩) D0.out ?_
    rotate_left
    · (intro W hSW; clear hSW; go_simp)
      first | done | (with_reducible rfl)
    try simp only [Act.put, List.setIfInBounds_toArray, List.set_cons_zero, List.set_cons_succ]
    refine til_take (i := 9) (oi := ⟨some 27, _, _, _, _, _⟩) (v := .int .i64 ((j + 1 : Nat) : Int)) rfl (by kernel_rfl) (by kernel_rfl) (by kernel_rfl) (by decide) (by kernel_rfl) (by kernel_rfl) (fun _ _ _ h => h) (Or.inl ⟨by rfl, ?_⟩) D0.out ?_
    · (intro W hSW; clear hSW; go_simp)
    try simp only [Act.put, List.setIfInBounds_toArray, List.set_cons_zero, List.set_cons_succ]
    refine til_take (i := 10) (oi := ⟨some 28, _, _, _, _, _⟩) (v := .slice Z (n2 - (j + 1)) (c2 - (j + 1))) rfl (by kernel_rfl) (by kernel_rfl) (by kernel_rfl) (by decide) (by kernel_rfl) (by kernel_rfl) (fun _ _ _ h => h) (yields_slice (by rfl) (.tmp 25) (some (.tmp 27)) none none rfl (.slice A2 n2 c2) (some (.int .i64 ((j + 1 : Nat) : Int))) none none (by rfl) (by rfl) (by rfl) (by rfl) _ HS2.out) D0.out ?_
    try simp only [Act.put, List.setIfInBounds_toArray, List.set_cons_zero, List.set_cons_succ]
    refine til_one (i := 0) (o := ⟨some 18, _, _, _, _, _⟩) (by kernel_rfl) rfl (fun K hK => ?_)
    refine step_emp (by rfl) rfl ?_
    refine hK.out _ _ (fun _ => HC.out _ B5.out) ?_
    clear hK K
    try simp only [Act.put, List.setIfInBounds_toArray, List.set_cons_zero, List.set_cons_succ]
    refine til_one (i := 5) (o := ⟨some 23, _, _, _, _, _⟩) (by kernel_rfl) rfl (fun K hK => ?_)
    refine step_app (by rfl) 35 (.tmp 18) (.tmp 22) rfl _ _ _ rfl rfl R6.out ?_
    refine hK.out _ _ (fun _ => HC.out _ B6.out) ?_
    clear hK K
    try simp only [Act.put, List.setIfInBounds_toArray, List.set_cons_zero, List.set_cons_succ]
    refine til_one (i := 11) (o := ⟨some 29, _, _, _, _, _⟩) (by kernel_rfl) rfl (fun K hK => ?_)
    refine step_app (by rfl) 35 (.tmp 23) (.tmp 28) rfl _ _ _ rfl rfl R7.out ?_
    refine hK.out _ _ (fun _ => HC.out _ B7.out) ?_
    clear hK K
    have k7 := HC.out _ B7.out
    have f7 := HF7.out
    try simp only [Act.put, List.setIfInBounds_toArray, List.set_cons_zero, List.set_cons_succ]
    refine til_one (i := 12) (o := ⟨some 30, _, _, _, _, _⟩) (by kernel_rfl) rfl (fun K hK => ?_)
    go_simp
    refine hK.out _ _ (past (by kernel_rfl)) ?_
    clear hK K
    try simp only [Act.put, List.setIfInBounds_toArray, List.set_cons_zero, List.set_cons_succ]
    refine til_one (i := 13) (o := ⟨none, _, _, _, _, _⟩) (by kernel_rfl) rfl (fun K hK => ?_)
    go_simp
    refine hK.out _ _ (past (by kernel_rfl)) ?_
    clear hK K
    try simp only [Act.put]
    refine til_done (by kernel_rfl) ?_ _
    go_wp2_with (first
      | (refine wpList_loadE (by rfl) 37 _ Try.underlying37 rfl (.tmp 3) rfl w.heap.size 0 rfl _ (whole_at D8.out.b) size37 ?_)
      | (refine wpList_lay rfl 37 5 size37 (.tmp 6) (.tmp 31) rfl _ (bcs A7 (del S p).length c7 C) rfl rfl 37 _ D8.out.r rfl rfl (hall _ _ _) ?_; intro x9 hB9 hF9; have hv := load_bx hB9.out rfl; have FIN := Lib.hid (D8.out.fin hF9.out (fun v => .tuple #[v, .bool true]))))
    refine bodyPost_ret (v := .tuple #[bx A7 (del S p).length c7 C, .bool true]) (by simp [results, Try.results17, asAddr, hv]) rfl (HFN.out _ _ _ FIN.out)
end Go.Proofs.Ytpjeeccgpnpokaa
