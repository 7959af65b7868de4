/- The contract of the document's Parse. Conditions: those of each theorem. -/
import Derived.Test.YtebpemknmcgamaaPortsParse
namespace Go.Proofs.Ytebpemknmcgamaa.ports
open Go.RowKit

theorem ret3 {a b c : Int} {x y z : Int} (h1 : a = x) (h2 : b = y) (h3 : c = z) : Ending.returned (.tuple #[.int .i64 a, .int .i64 b, .int .i64 c]) = .returned (.tuple #[.int .i64 x, .int .i64 y, .int .i64 z]) := by rw [h1, h2, h3]

set_option maxRecDepth 100000 in
set_option maxHeartbeats 4000000 in
theorem ref_any (v f : Bool) (p : Int) (s d bs : List Int) (A : Option Addr) (n c x y r : Nat) (w : World) (hs : Sixteen s) (hd : Sixteen d) (h : Byts w A n bs) (ho : Octs bs) (hm : n ≤ 9223372036854775807) (hR : look v p f bs = (x, y, r)) :
    Calls Try.prog 21 #[.bool v, .agg (net p s d (.slice A n c) f).toArray] w fun e w' => e = .returned (.tuple #[.int .i64 ((x : Nat) : Int), .int .i64 ((y : Nat) : Int), .int .i64 ((r : Nat) : Int)]) ∧ Below w.heap.size w w' := by
  have hbn := h.1
  have L1 : Hid (Blk (w.alloc (.cells (net p s d (.slice A n c) f).toArray 54)) w.heap.size 54 (net p s d (.slice A n c) f)) := Blk.new w 54 _
  have W1 : Hid (Below w.heap.size w (w.alloc (.cells (net p s d (.slice A n c) f).toArray 54))) := (Below.refl _ w).alloc (Nat.le_refl _) _
  have HA : Hid (Byts _ A n bs) := h.below W1.out
  have HO := Lib.hid ho
  have HS := Lib.hid hs
  have HD := Lib.hid hd
  have HR := Lib.hid hR
  clear h hs hd ho hR
  go_enter Try.func21, Try.ntmps21
  go_upto_region 1 with (fail)
  generalize (w.alloc (.cells (net p s d (.slice A n c) f).toArray 54)) = w1 at *
  have c0 : w1.cell? ⟨w.heap.size, 0, none⟩ = some (.int .u8 p) := (L1.out.cell 0).trans net_0
  have c3 : w1.cell? ⟨w.heap.size, 33, none⟩ = some (.slice A n c) := (L1.out.cell 33).trans (net_33 HS.out HD.out)
  have c4 : w1.cell? ⟨w.heap.size, 34, none⟩ = some (.bool f) := (L1.out.cell 34).trans (net_34 HS.out HD.out)
  clear L1 HS HD
  cases f
  · obtain ⟨rfl, rfl, rfl⟩ : x = 0 ∧ y = 0 ∧ r = 0 := by
      have := HR.out
      rw [look_later] at this
      simp at this
      omega
    clear HR
    cases v
    · go_wp2
      refine bodyPost_ret (v := .tuple #[.int .i64 0, .int .i64 0, .int .i64 0]) (by simp [results, Try.results21]) rfl ⟨rfl, W1.out⟩
    · go_wp2
      refine bodyPost_ret (v := .tuple #[.int .i64 0, .int .i64 0, .int .i64 0]) (by simp [results, Try.results21]) rfl ⟨rfl, W1.out⟩
  · cases v
    · by_cases e0 : p = 6
      · have hz : sz false p = 4 := sz_four (.inl e0)
        subst e0
        by_cases hsh : n < 4
        · obtain ⟨rfl, rfl, rfl⟩ : x = 0 ∧ y = 0 ∧ r = 1 := by
            have := HR.out
            rw [look_short (by rw [hz]; omega)] at this
            simp at this
            omega
          clear HR hz
          have hlt : decide ((n : Int) < 4) = true := by simp; omega
          have hlt2 : decide (n < 4) = true := by simp; omega
          go_wp2
          refine bodyPost_ret (v := .tuple #[.int .i64 0, .int .i64 0, .int .i64 1]) (by simp [results, Try.results21]) rfl ⟨rfl, W1.out⟩
        · obtain ⟨hx, hy, rfl⟩ : x = wd bs 0 ∧ y = wd bs 2 ∧ r = 0 := by
            have := HR.out
            rw [look_both hz (by omega)] at this
            simp at this
            omega
          clear HR hz
          have hlt : decide ((n : Int) < 4) = false := by simp; omega
          have hlt2 : decide (n < 4) = false := by simp; omega
          obtain ⟨ad, rfl, hcell⟩ := HA.out.2 (by omega)
          have hc0 : w1.cell? ad = some (.int .u8 (bs.getD 0 0)) := by simpa [Addr.add] using hcell 0 (by omega)
          have hc1 : w1.cell? ⟨ad.block, ad.off + 1, none⟩ = some (.int .u8 (bs.getD 1 0)) := by simpa [Addr.add] using hcell 1 (by omega)
          have hc2 : w1.cell? ⟨ad.block, ad.off + 2, none⟩ = some (.int .u8 (bs.getD 2 0)) := by simpa [Addr.add] using hcell 2 (by omega)
          have hc3 : w1.cell? ⟨ad.block, ad.off + 3, none⟩ = some (.int .u8 (bs.getD 3 0)) := by simpa [Addr.add] using hcell 3 (by omega)
          have hp0 : 0 < n := by omega
          have b0 := HO.out.at_ 0
          have hp1 : 1 < n := by omega
          have b1 := HO.out.at_ 1
          have hp2 : 2 < n := by omega
          have b2 := HO.out.at_ 2
          have hp3 : 3 < n := by omega
          have b3 := HO.out.at_ 3
          have HX : Hid (bs.getD 0 0 * 256 + bs.getD 1 0 = ((x : Nat) : Int)) := by rw [hx]; exact wd_int HO.out 0
          have HY : Hid (bs.getD 2 0 * 256 + bs.getD 3 0 = ((y : Nat) : Int)) := by rw [hy]; exact wd_int HO.out 2
          clear hcell HA hx hy HO
          generalize bs.getD 0 0 = u0 at *
          generalize bs.getD 1 0 = u1 at *
          generalize bs.getD 2 0 = u2 at *
          generalize bs.getD 3 0 = u3 at *
          go_upto_region 13 with (fail)
          go_quiet (fail)
          go_wp2
          refine bodyPost_ret (v := .tuple #[.int .i64 (u0 * 256 + u1), .int .i64 (u2 * 256 + u3), .int .i64 0]) (by simp [results, Try.results21]) rfl ⟨ret3 HX.out HY.out rfl, below_drewN W1.out _⟩
      · by_cases e1 : p = 17
        · have hz : sz false p = 4 := sz_four (.inr e1)
          subst e1
          by_cases hsh : n < 4
          · obtain ⟨rfl, rfl, rfl⟩ : x = 0 ∧ y = 0 ∧ r = 1 := by
              have := HR.out
              rw [look_short (by rw [hz]; omega)] at this
              simp at this
              omega
            clear HR hz
            have hlt : decide ((n : Int) < 4) = true := by simp; omega
            have hlt2 : decide (n < 4) = true := by simp; omega
            go_wp2
            refine bodyPost_ret (v := .tuple #[.int .i64 0, .int .i64 0, .int .i64 1]) (by simp [results, Try.results21]) rfl ⟨rfl, W1.out⟩
          · obtain ⟨hx, hy, rfl⟩ : x = wd bs 0 ∧ y = wd bs 2 ∧ r = 0 := by
              have := HR.out
              rw [look_both hz (by omega)] at this
              simp at this
              omega
            clear HR hz
            have hlt : decide ((n : Int) < 4) = false := by simp; omega
            have hlt2 : decide (n < 4) = false := by simp; omega
            obtain ⟨ad, rfl, hcell⟩ := HA.out.2 (by omega)
            have hc0 : w1.cell? ad = some (.int .u8 (bs.getD 0 0)) := by simpa [Addr.add] using hcell 0 (by omega)
            have hc1 : w1.cell? ⟨ad.block, ad.off + 1, none⟩ = some (.int .u8 (bs.getD 1 0)) := by simpa [Addr.add] using hcell 1 (by omega)
            have hc2 : w1.cell? ⟨ad.block, ad.off + 2, none⟩ = some (.int .u8 (bs.getD 2 0)) := by simpa [Addr.add] using hcell 2 (by omega)
            have hc3 : w1.cell? ⟨ad.block, ad.off + 3, none⟩ = some (.int .u8 (bs.getD 3 0)) := by simpa [Addr.add] using hcell 3 (by omega)
            have hp0 : 0 < n := by omega
            have b0 := HO.out.at_ 0
            have hp1 : 1 < n := by omega
            have b1 := HO.out.at_ 1
            have hp2 : 2 < n := by omega
            have b2 := HO.out.at_ 2
            have hp3 : 3 < n := by omega
            have b3 := HO.out.at_ 3
            have HX : Hid (bs.getD 0 0 * 256 + bs.getD 1 0 = ((x : Nat) : Int)) := by rw [hx]; exact wd_int HO.out 0
            have HY : Hid (bs.getD 2 0 * 256 + bs.getD 3 0 = ((y : Nat) : Int)) := by rw [hy]; exact wd_int HO.out 2
            clear hcell HA hx hy HO
            generalize bs.getD 0 0 = u0 at *
            generalize bs.getD 1 0 = u1 at *
            generalize bs.getD 2 0 = u2 at *
            generalize bs.getD 3 0 = u3 at *
            go_upto_region 13 with (fail)
            go_quiet (fail)
            go_wp2
            refine bodyPost_ret (v := .tuple #[.int .i64 (u0 * 256 + u1), .int .i64 (u2 * 256 + u3), .int .i64 0]) (by simp [results, Try.results21]) rfl ⟨ret3 HX.out HY.out rfl, below_drewN W1.out _⟩
        · by_cases e2 : p = 1
          · have hz : sz false p = 2 := sz_two e0 e1 e2
            subst e2
            clear e0 e1
            by_cases hsh : n < 2
            · obtain ⟨rfl, rfl, rfl⟩ : x = 0 ∧ y = 0 ∧ r = 1 := by
                have := HR.out
                rw [look_short (by rw [hz]; omega)] at this
                simp at this
                omega
              clear HR hz
              have hlt : decide ((n : Int) < 2) = true := by simp; omega
              have hlt2 : decide (n < 2) = true := by simp; omega
              go_wp2
              refine bodyPost_ret (v := .tuple #[.int .i64 0, .int .i64 0, .int .i64 1]) (by simp [results, Try.results21]) rfl ⟨rfl, W1.out⟩
            · obtain ⟨hx, rfl, rfl⟩ : x = wd bs 0 ∧ y = 0 ∧ r = 0 := by
                have := HR.out
                rw [look_one hz (by omega)] at this
                simp at this
                omega
              clear HR hz
              have hlt : decide ((n : Int) < 2) = false := by simp; omega
              have hlt2 : decide (n < 2) = false := by simp; omega
              obtain ⟨ad, rfl, hcell⟩ := HA.out.2 (by omega)
              have hc0 : w1.cell? ad = some (.int .u8 (bs.getD 0 0)) := by simpa [Addr.add] using hcell 0 (by omega)
              have hc1 : w1.cell? ⟨ad.block, ad.off + 1, none⟩ = some (.int .u8 (bs.getD 1 0)) := by simpa [Addr.add] using hcell 1 (by omega)
              have hp0 : 0 < n := by omega
              have b0 := HO.out.at_ 0
              have hp1 : 1 < n := by omega
              have b1 := HO.out.at_ 1
              have HX : Hid (bs.getD 0 0 * 256 + bs.getD 1 0 = ((x : Nat) : Int)) := by rw [hx]; exact wd_int HO.out 0
              clear hcell HA hx HO
              generalize bs.getD 0 0 = u0 at *
              generalize bs.getD 1 0 = u1 at *
              go_upto_region 11 with (fail)
              go_quiet (fail)
              go_wp2
              refine bodyPost_ret (v := .tuple #[.int .i64 (u0 * 256 + u1), .int .i64 0, .int .i64 0]) (by simp [results, Try.results21]) rfl ⟨ret3 HX.out rfl rfl, below_drewN W1.out _⟩
          · have hz : sz false p = 0 := sz_zero e0 e1 e2
            obtain ⟨rfl, rfl, rfl⟩ : x = 0 ∧ y = 0 ∧ r = 0 := by
              have := HR.out
              rw [look_none hz] at this
              simp at this
              omega
            have d0 : (p == 6) = false := by simpa using e0
            have d1 : (p == 17) = false := by simpa using e1
            have d2 : (p == 1) = false := by simpa using e2
            clear HR hz e0 e1 e2
            go_wp2
            refine bodyPost_ret (v := .tuple #[.int .i64 0, .int .i64 0, .int .i64 0]) (by simp [results, Try.results21]) rfl ⟨rfl, W1.out⟩
    · by_cases e0 : p = 6
      · have hz : sz true p = 4 := sz_four (.inl e0)
        subst e0
        by_cases hsh : n < 4
        · obtain ⟨rfl, rfl, rfl⟩ : x = 0 ∧ y = 0 ∧ r = 1 := by
            have := HR.out
            rw [look_short (by rw [hz]; omega)] at this
            simp at this
            omega
          clear HR hz
          have hlt : decide ((n : Int) < 4) = true := by simp; omega
          have hlt2 : decide (n < 4) = true := by simp; omega
          go_wp2
          refine bodyPost_ret (v := .tuple #[.int .i64 0, .int .i64 0, .int .i64 1]) (by simp [results, Try.results21]) rfl ⟨rfl, W1.out⟩
        · obtain ⟨hx, hy, rfl⟩ : x = wd bs 0 ∧ y = wd bs 2 ∧ r = 0 := by
            have := HR.out
            rw [look_both hz (by omega)] at this
            simp at this
            omega
          clear HR hz
          have hlt : decide ((n : Int) < 4) = false := by simp; omega
          have hlt2 : decide (n < 4) = false := by simp; omega
          obtain ⟨ad, rfl, hcell⟩ := HA.out.2 (by omega)
          have hc0 : w1.cell? ad = some (.int .u8 (bs.getD 0 0)) := by simpa [Addr.add] using hcell 0 (by omega)
          have hc1 : w1.cell? ⟨ad.block, ad.off + 1, none⟩ = some (.int .u8 (bs.getD 1 0)) := by simpa [Addr.add] using hcell 1 (by omega)
          have hc2 : w1.cell? ⟨ad.block, ad.off + 2, none⟩ = some (.int .u8 (bs.getD 2 0)) := by simpa [Addr.add] using hcell 2 (by omega)
          have hc3 : w1.cell? ⟨ad.block, ad.off + 3, none⟩ = some (.int .u8 (bs.getD 3 0)) := by simpa [Addr.add] using hcell 3 (by omega)
          have hp0 : 0 < n := by omega
          have b0 := HO.out.at_ 0
          have hp1 : 1 < n := by omega
          have b1 := HO.out.at_ 1
          have hp2 : 2 < n := by omega
          have b2 := HO.out.at_ 2
          have hp3 : 3 < n := by omega
          have b3 := HO.out.at_ 3
          have HX : Hid (bs.getD 0 0 * 256 + bs.getD 1 0 = ((x : Nat) : Int)) := by rw [hx]; exact wd_int HO.out 0
          have HY : Hid (bs.getD 2 0 * 256 + bs.getD 3 0 = ((y : Nat) : Int)) := by rw [hy]; exact wd_int HO.out 2
          clear hcell HA hx hy HO
          generalize bs.getD 0 0 = u0 at *
          generalize bs.getD 1 0 = u1 at *
          generalize bs.getD 2 0 = u2 at *
          generalize bs.getD 3 0 = u3 at *
          go_upto_region 13 with (fail)
          go_quiet (fail)
          go_wp2
          refine bodyPost_ret (v := .tuple #[.int .i64 (u0 * 256 + u1), .int .i64 (u2 * 256 + u3), .int .i64 0]) (by simp [results, Try.results21]) rfl ⟨ret3 HX.out HY.out rfl, below_drewN W1.out _⟩
      · by_cases e1 : p = 17
        · have hz : sz true p = 4 := sz_four (.inr e1)
          subst e1
          by_cases hsh : n < 4
          · obtain ⟨rfl, rfl, rfl⟩ : x = 0 ∧ y = 0 ∧ r = 1 := by
              have := HR.out
              rw [look_short (by rw [hz]; omega)] at this
              simp at this
              omega
            clear HR hz
            have hlt : decide ((n : Int) < 4) = true := by simp; omega
            have hlt2 : decide (n < 4) = true := by simp; omega
            go_wp2
            refine bodyPost_ret (v := .tuple #[.int .i64 0, .int .i64 0, .int .i64 1]) (by simp [results, Try.results21]) rfl ⟨rfl, W1.out⟩
          · obtain ⟨hx, hy, rfl⟩ : x = wd bs 0 ∧ y = wd bs 2 ∧ r = 0 := by
              have := HR.out
              rw [look_both hz (by omega)] at this
              simp at this
              omega
            clear HR hz
            have hlt : decide ((n : Int) < 4) = false := by simp; omega
            have hlt2 : decide (n < 4) = false := by simp; omega
            obtain ⟨ad, rfl, hcell⟩ := HA.out.2 (by omega)
            have hc0 : w1.cell? ad = some (.int .u8 (bs.getD 0 0)) := by simpa [Addr.add] using hcell 0 (by omega)
            have hc1 : w1.cell? ⟨ad.block, ad.off + 1, none⟩ = some (.int .u8 (bs.getD 1 0)) := by simpa [Addr.add] using hcell 1 (by omega)
            have hc2 : w1.cell? ⟨ad.block, ad.off + 2, none⟩ = some (.int .u8 (bs.getD 2 0)) := by simpa [Addr.add] using hcell 2 (by omega)
            have hc3 : w1.cell? ⟨ad.block, ad.off + 3, none⟩ = some (.int .u8 (bs.getD 3 0)) := by simpa [Addr.add] using hcell 3 (by omega)
            have hp0 : 0 < n := by omega
            have b0 := HO.out.at_ 0
            have hp1 : 1 < n := by omega
            have b1 := HO.out.at_ 1
            have hp2 : 2 < n := by omega
            have b2 := HO.out.at_ 2
            have hp3 : 3 < n := by omega
            have b3 := HO.out.at_ 3
            have HX : Hid (bs.getD 0 0 * 256 + bs.getD 1 0 = ((x : Nat) : Int)) := by rw [hx]; exact wd_int HO.out 0
            have HY : Hid (bs.getD 2 0 * 256 + bs.getD 3 0 = ((y : Nat) : Int)) := by rw [hy]; exact wd_int HO.out 2
            clear hcell HA hx hy HO
            generalize bs.getD 0 0 = u0 at *
            generalize bs.getD 1 0 = u1 at *
            generalize bs.getD 2 0 = u2 at *
            generalize bs.getD 3 0 = u3 at *
            go_upto_region 13 with (fail)
            go_quiet (fail)
            go_wp2
            refine bodyPost_ret (v := .tuple #[.int .i64 (u0 * 256 + u1), .int .i64 (u2 * 256 + u3), .int .i64 0]) (by simp [results, Try.results21]) rfl ⟨ret3 HX.out HY.out rfl, below_drewN W1.out _⟩
        · by_cases e2 : p = 58
          · have hz : sz true p = 2 := sz_two e0 e1 e2
            subst e2
            clear e0 e1
            by_cases hsh : n < 2
            · obtain ⟨rfl, rfl, rfl⟩ : x = 0 ∧ y = 0 ∧ r = 1 := by
                have := HR.out
                rw [look_short (by rw [hz]; omega)] at this
                simp at this
                omega
              clear HR hz
              have hlt : decide ((n : Int) < 2) = true := by simp; omega
              have hlt2 : decide (n < 2) = true := by simp; omega
              go_wp2
              refine bodyPost_ret (v := .tuple #[.int .i64 0, .int .i64 0, .int .i64 1]) (by simp [results, Try.results21]) rfl ⟨rfl, W1.out⟩
            · obtain ⟨hx, rfl, rfl⟩ : x = wd bs 0 ∧ y = 0 ∧ r = 0 := by
                have := HR.out
                rw [look_one hz (by omega)] at this
                simp at this
                omega
              clear HR hz
              have hlt : decide ((n : Int) < 2) = false := by simp; omega
              have hlt2 : decide (n < 2) = false := by simp; omega
              obtain ⟨ad, rfl, hcell⟩ := HA.out.2 (by omega)
              have hc0 : w1.cell? ad = some (.int .u8 (bs.getD 0 0)) := by simpa [Addr.add] using hcell 0 (by omega)
              have hc1 : w1.cell? ⟨ad.block, ad.off + 1, none⟩ = some (.int .u8 (bs.getD 1 0)) := by simpa [Addr.add] using hcell 1 (by omega)
              have hp0 : 0 < n := by omega
              have b0 := HO.out.at_ 0
              have hp1 : 1 < n := by omega
              have b1 := HO.out.at_ 1
              have HX : Hid (bs.getD 0 0 * 256 + bs.getD 1 0 = ((x : Nat) : Int)) := by rw [hx]; exact wd_int HO.out 0
              clear hcell HA hx HO
              generalize bs.getD 0 0 = u0 at *
              generalize bs.getD 1 0 = u1 at *
              go_upto_region 11 with (fail)
              go_quiet (fail)
              go_wp2
              refine bodyPost_ret (v := .tuple #[.int .i64 (u0 * 256 + u1), .int .i64 0, .int .i64 0]) (by simp [results, Try.results21]) rfl ⟨ret3 HX.out rfl rfl, below_drewN W1.out _⟩
          · have hz : sz true p = 0 := sz_zero e0 e1 e2
            obtain ⟨rfl, rfl, rfl⟩ : x = 0 ∧ y = 0 ∧ r = 0 := by
              have := HR.out
              rw [look_none hz] at this
              simp at this
              omega
            have d0 : (p == 6) = false := by simpa using e0
            have d1 : (p == 17) = false := by simpa using e1
            have d2 : (p == 58) = false := by simpa using e2
            clear HR hz e0 e1 e2
            go_wp2
            refine bodyPost_ret (v := .tuple #[.int .i64 0, .int .i64 0, .int .i64 0]) (by simp [results, Try.results21]) rfl ⟨rfl, W1.out⟩
end Go.Proofs.Ytebpemknmcgamaa.ports
