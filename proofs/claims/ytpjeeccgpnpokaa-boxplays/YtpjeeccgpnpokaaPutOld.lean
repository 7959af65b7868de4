/- The contract of the document's Put, where it changes nobody. Conditions: those of each theorem. -/
import Derived.Test.YtpjeeccgpnpokaaProgs
namespace Go.Proofs.Ytpjeeccgpnpokaa
open Go.RowKit

set_option maxRecDepth 4000 in
set_option maxHeartbeats 2000000 in
theorem put_old (A : Option Addr) (c : Nat) (L : List Ent) (C : Cfg) (p : Pre) (x : Int) (w : World) (h : Els (kEnt C.r C.b) w A L) (ho : Oks C L) (hp : p.Ok) (hl : L.length ≤ 1000) (hno : putE C (swp L x) p ≠ 0) :
    Calls Try.prog 11 #[bx A L.length c C, .agg p.cs.toArray, .int .i64 x] w (BRes (putS C (swp L x) p x) C (fun v => .tuple #[v, .int .i64 (putE C (swp L x) p)]) w) := by
  obtain ⟨n, hn⟩ : ∃ n, L.length = n := ⟨_, rfl⟩
  obtain ⟨n0, n1, n2, n3⟩ := three_new A n c C p w
  have N0 := Lib.hid n0
  have N1 := Lib.hid n1
  have N2 := Lib.hid n2
  have W0 := Lib.hid n3
  have H := Lib.hid (h.below n3)
  have HS := Lib.hid (fun W hW => hn ▸ sweep_ A c L C x W hW hl)
  have hsl : (swp L x).length ≤ 1000 := Nat.le_trans (swp_len L x) hl
  have HO := Lib.hid (And.intro (ho.swp x) hp)
  rw [hn]
  clear hn n0 n1 n2 n3 h ho hp hl
  obtain ⟨S, hS⟩ : ∃ S, swp L x = S := ⟨_, rfl⟩
  rw [hS] at HS HO hsl hno ⊢
  clear hS
  have hall : ∀ A2 n2 c2, (bcs A2 n2 c2 C).toArray.all (·.oneCell') = true := fun A2 n2 c2 => all_oneCell_toArray (bcs_each _ _ _ _)
  go_enter Try.func11, Try.ntmps11
  go_upto_region 1 with fail
  generalize (((w.alloc (.cells (bcs A n c C).toArray 37)).alloc (.cells p.cs.toArray 31)).alloc (.cells #[.slice none 0 0, .int .i64 0, .int .i64 0, .int .i64 0, .int .i64 0] 37)) = x1 at *
  go_upto_region 2 with (first
    | (refine wpList_loadE (by rfl) 37 _ Try.underlying37 rfl (.tmp 3) rfl w.heap.size 0 rfl _ (whole_at N0.out) size37 ?_)
    | (go_at_call 12; (with_reducible refine (HS.out _ H.out).mono ?_); rintro e x2 ⟨A2, c2, rfl, hc2, hE2, hb2, hfr2⟩; have N0' := Lib.hid (N0.out.below hb2))
    | (refine wpList_lay rfl 37 5 size37 (.tmp 3) (.tmp 13) rfl _ (bcs A2 S.length c2 C) rfl rfl 37 _ N0'.out rfl rfl (hall _ _ _) ?_; intro x3 hB3 hF3; have D1 := Lib.hid (Hd.first N1.out N2.out W0.out hb2 hE2 hc2 hfr2 hB3.out hF3.out); clear hB3 hF3))
  clear hc2 hE2 hb2 hfr2 N0 N0' N1 N2 W0 H HS
  rcases hh : has S p with _ | _
  · have hfd := fnd_not hh
    go_upto_region 4 with (first
      | (refine wpList_loadE (by rfl) 37 _ Try.underlying37 rfl (.tmp 3) rfl w.heap.size 0 rfl _ (whole_at D1.out.b) size37 ?_)
      | (refine wpList_pre (by rfl) (.tmp 4) rfl _ 0 rfl p (whole_at D1.out.p) ?_)
      | (go_at_call 13; (with_reducible refine (find_ A2 c2 S C p _ D1.out.els HO.out.1 HO.out.2 hsl).mono ?_); rintro e x4 ⟨rfl, hb⟩; rw [hfd]; have D2 := Lib.hid (D1.out.below hb); clear hb))
    clear D1
    by_cases hr : C.room ≤ (S.length : Int)
    · have HFN : Hid (∀ W, BRes S C (fun v => .tuple #[v, .int .i64 6]) w (.returned (.tuple #[bx A2 S.length c2 C, .int .i64 6])) W → BRes (putS C S p x) C (fun v => .tuple #[v, .int .i64 (putE C S p)]) w (.returned (.tuple #[bx A2 S.length c2 C, .int .i64 6])) W) := fun W hW => by
        rw [show putS C S p x = S by simp [putS, hh, hr], show putE C S p = 6 by simp [putE, hh, hr]]
        exact hW
      clear hh hno
      have c0 := D2.out.b.cell 0
      have c1 := D2.out.b.cell 1
      have c0' : x4.cell? ⟨w.heap.size, 0, none⟩ = some (.slice A2 S.length c2) := c0
      have c1' : x4.cell? ⟨w.heap.size, 1, none⟩ = some (.int .i64 C.room) := c1
      clear c0 c1
      go_wp2_with (first
        | (refine wpList_loadE (by rfl) 37 _ Try.underlying37 rfl (.tmp 3) rfl w.heap.size 0 rfl _ (whole_at D2.out.b) size37 ?_)
        | (refine wpList_lay rfl 37 5 size37 (.tmp 6) (.tmp 25) rfl _ (bcs A2 S.length c2 C) rfl rfl 37 _ D2.out.r rfl rfl (hall _ _ _) ?_; intro x9 hB9 hF9; have hv := load_bx hB9.out rfl; have FIN := Lib.hid (D2.out.fin hF9.out (fun v => .tuple #[v, .int .i64 6]))))
      refine bodyPost_ret (v := .tuple #[bx A2 S.length c2 C, .int .i64 6]) (by simp [results, Try.results11, asAddr, hv]) rfl (HFN.out _ FIN.out)
    · exact absurd (by simp [putE, hh, hr]) hno
  · have HJ := has_iff.1 hh
    have hfd := fnd_has hh
    go_upto_region 3 with (first
      | (refine wpList_loadE (by rfl) 37 _ Try.underlying37 rfl (.tmp 3) rfl w.heap.size 0 rfl _ (whole_at D1.out.b) size37 ?_)
      | (refine wpList_pre (by rfl) (.tmp 4) rfl _ 0 rfl p (whole_at D1.out.p) ?_)
      | (go_at_call 13; (with_reducible refine (find_ A2 c2 S C p _ D1.out.els HO.out.1 HO.out.2 hsl).mono ?_); rintro e x4 ⟨rfl, hb⟩; rw [hfd]; have D2 := Lib.hid (D1.out.below hb); clear hb))
    clear D1
    have HFN : Hid (∀ W, BRes S C (fun v => .tuple #[v, .int .i64 7]) w (.returned (.tuple #[bx A2 S.length c2 C, .int .i64 7])) W → BRes (putS C S p x) C (fun v => .tuple #[v, .int .i64 (putE C S p)]) w (.returned (.tuple #[bx A2 S.length c2 C, .int .i64 7])) W) := fun W hW => by
      rw [show putS C S p x = S by simp [putS, hh], show putE C S p = 7 by simp [putE, hh]]
      exact hW
    clear hh hno
    go_wp2_with (first
      | (refine wpList_loadE (by rfl) 37 _ Try.underlying37 rfl (.tmp 3) rfl w.heap.size 0 rfl _ (whole_at D2.out.b) size37 ?_)
      | (refine wpList_lay rfl 37 5 size37 (.tmp 6) (.tmp 18) rfl _ (bcs A2 S.length c2 C) rfl rfl 37 _ D2.out.r rfl rfl (hall _ _ _) ?_; intro x9 hB9 hF9; have hv := load_bx hB9.out rfl; have FIN := Lib.hid (D2.out.fin hF9.out (fun v => .tuple #[v, .int .i64 7]))))
    refine bodyPost_ret (v := .tuple #[bx A2 S.length c2 C, .int .i64 7]) (by simp [results, Try.results11, asAddr, hv]) rfl (HFN.out _ FIN.out)
end Go.Proofs.Ytpjeeccgpnpokaa
