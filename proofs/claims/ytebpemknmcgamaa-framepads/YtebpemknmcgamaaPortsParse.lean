/- The contract of ports.Parse. Conditions: those of each theorem. -/
import Derived.Test.YtebpemknmcgamaaPortsCalls
namespace Go.Proofs.Ytebpemknmcgamaa.ports
open Go.RowKit

set_option maxRecDepth 100000 in
set_option maxHeartbeats 2000000 in
theorem parse_any (v f : Bool) (p : Int) (s d bs : List Int) (A : Option Addr) (n c x y r : Nat) (w : World) (hs : Sixteen s) (hd : Sixteen d) (h : Byts w A n bs) (ho : Octs bs) (hm : n ≤ 9223372036854775807) (hc : n ≤ c) (hR : look v p f bs = (x, y, r)) :
    Calls Try.prog 34 #[.bool v, .agg (net p s d (.slice A n c) f).toArray] w fun e w' => e = .returned (.tuple #[.int .u16 ((x : Nat) : Int), .int .u16 ((y : Nat) : Int), .int .i64 ((r : Nat) : Int)]) ∧ Below w.heap.size w w' := by
  have hbn := h.1
  have L1 : Hid (Blk (w.alloc (.cells (net p s d (.slice A n c) f).toArray 72)) w.heap.size 72 (net p s d (.slice A n c) f)) := Blk.new w 72 _
  have W1 : Hid (Below w.heap.size w (w.alloc (.cells (net p s d (.slice A n c) f).toArray 72))) := (Below.refl _ w).alloc (Nat.le_refl _) _
  have HA : Hid (Byts _ A n bs) := h.below W1.out
  have HO := Lib.hid ho
  have HS := Lib.hid hs
  have HD := Lib.hid hd
  have HR := Lib.hid hR
  clear h hs hd ho hR
  go_enter Try.func34, Try.ntmps34
  go_upto_region 1 with (fail)
  generalize (w.alloc (.cells (net p s d (.slice A n c) f).toArray 72)) = w1 at *
  have c0 : w1.cell? ⟨w.heap.size, 0, none⟩ = some (.int .u8 p) := (L1.out.cell 0).trans net_0
  have c3 : w1.cell? ⟨w.heap.size, 33, none⟩ = some (.slice A n c) := (L1.out.cell 33).trans (net_33 HS.out HD.out)
  have c4 : w1.cell? ⟨w.heap.size, 34, none⟩ = some (.bool f) := (L1.out.cell 34).trans (net_34 HS.out HD.out)
  cases f
  · obtain ⟨rfl, rfl, rfl⟩ : x = 0 ∧ y = 0 ∧ r = 0 := by
      have := HR.out
      rw [look_later] at this
      simp at this
      omega
    clear HR
    go_wp2
    refine bodyPost_ret (v := .tuple #[.int .u16 0, .int .u16 0, .int .i64 0]) (by simp [results, Try.results34]) rfl ⟨rfl, W1.out⟩
  · by_cases hsh : n < sz v p
    · obtain ⟨rfl, rfl, rfl⟩ : x = 0 ∧ y = 0 ∧ r = 1 := by
        have := HR.out
        rw [look_short (by omega)] at this
        simp at this
        omega
      have HB := Lib.hid (fun w => bytes_any v p w _ rfl)
      clear HR
      generalize sz v p = k at *
      have hlt : decide ((n : Int) < (k : Int)) = true := by simp; omega
      have hlt2 : decide (n < k) = true := by simpa using hsh
      go_wp2_with (go_at_call 43; (with_reducible refine (HB.out _).mono ?_); rintro e w2 ⟨rfl, rfl⟩)
      refine bodyPost_ret (v := .tuple #[.int .u16 0, .int .u16 0, .int .i64 1]) (by simp [results, Try.results34]) rfl ⟨rfl, W1.out⟩
    · rcases sz_cases v p with hz | hz | hz
      · obtain ⟨rfl, rfl, rfl⟩ : x = 0 ∧ y = 0 ∧ r = 0 := by
          have := HR.out
          rw [look_none hz] at this
          simp at this
          omega
        have HB : Hid (∀ w, Calls Try.prog 43 #[.bool v, .int .u8 p] w fun e w' => e = .returned (.int .i64 0) ∧ w = w') := fun w => bytes_any v p w 0 hz
        rw [hz] at hsh
        have hlt : decide ((n : Int) < 0) = false := by simp
        have hlt2 : decide (n < 0) = false := by simp
        have hcut : ∀ W, (Instr.slice 22 (.slice A n c) none (some (.int .i64 0)) none).run Try.prog W = .ok (.slice A 0 c) W := fun W => run_upto (k := 0) W (by omega)
        have HK : Hid (Byts w1 A 0 (bs.take 0)) := HA.out.upto (by omega)
        have hl : (bs.take 0).length = 0 := by simp
        have ho4 : Octs (bs.take 0) := HO.out.take 0
        have HL := Lib.hid hl
        have HQ := Lib.hid ho4
        clear hl ho4 HR 
        generalize bs.take 0 = ks at *
        go_upto_region 7 with (first | (go_at_call 43; (with_reducible refine (HB.out _).mono ?_); rintro e w2 ⟨rfl, rfl⟩) | (go_at_call 26; (with_reducible refine (new_in A 0 c ks _ (by omega) HK.out).mono ?_); rintro e w2 ⟨g, q, rfl, hin, hg, hq, hb⟩; have HI2 := Lib.hid hin; have W2 : Hid (Below w.heap.size w w2) := W1.out.trans (hb.mono W1.out.size); have hg2 : w.heap.size ≤ g := Nat.le_trans W1.out.size hg; clear hin hb hg hq))
        go_upto_region 8 with (go_at_call 28; (with_reducible refine (inU16_bad g q false ks _ HI2.out (by rw [HL.out]; omega)).mono ?_); rintro e w3 ⟨rfl, hin, hf3⟩; have HI3 := Lib.hid hin; have W3 : Hid (Below w.heap.size w w3) := below_only W2.out hf3 hg2 W2.out.size; clear hin hf3)
        go_wp2_with (go_at_call 28; (with_reducible refine (inU16_bad g q true [] _ HI3.out (by decide)).mono ?_); rintro e w4 ⟨rfl, _, hf4⟩; have W4 : Hid (Below w.heap.size w w4) := below_only W3.out hf4 hg2 W3.out.size; clear hf4)
        refine bodyPost_ret (v := .tuple #[.int .u16 0, .int .u16 0, .int .i64 0]) (by simp [results, Try.results34]) rfl ⟨rfl, W4.out⟩
      · obtain ⟨hx, rfl, rfl⟩ : x = wd bs 0 ∧ y = 0 ∧ r = 0 := by
          have := HR.out
          rw [look_one hz (by omega)] at this
          simp at this
          omega
        have HB : Hid (∀ w, Calls Try.prog 43 #[.bool v, .int .u8 p] w fun e w' => e = .returned (.int .i64 2) ∧ w = w') := fun w => bytes_any v p w 2 hz
        rw [hz] at hsh
        have hlt : decide ((n : Int) < 2) = false := by simp; omega
        have hlt2 : decide (n < 2) = false := by simp; omega
        have hcut : ∀ W, (Instr.slice 22 (.slice A n c) none (some (.int .i64 2)) none).run Try.prog W = .ok (.slice A 2 c) W := fun W => run_upto (k := 2) W (by omega)
        have HK : Hid (Byts w1 A 2 (bs.take 2)) := HA.out.upto (by omega)
        have hl : (bs.take 2).length = 2 := by simp; omega
        have ho4 : Octs (bs.take 2) := HO.out.take 2
        have hN : numF 0 ((bs.take 2).take 2) = ((x : Nat) : Int) := by rw [List.take_take, hx]; exact num_two HO.out (by omega)
        have hl2 : ((bs.take 2).drop 2).length < 2 := by rw [List.length_drop]; omega
        have HL := Lib.hid hl
        have HQ := Lib.hid ho4
        have XhN := Lib.hid hN
        have Xhl2 := Lib.hid hl2
        clear hl ho4 HR hN hl2
        clear hx
        generalize bs.take 2 = ks at *
        go_upto_region 7 with (first | (go_at_call 43; (with_reducible refine (HB.out _).mono ?_); rintro e w2 ⟨rfl, rfl⟩) | (go_at_call 26; (with_reducible refine (new_in A 2 c ks _ (by omega) HK.out).mono ?_); rintro e w2 ⟨g, q, rfl, hin, hg, hq, hb⟩; have HI2 := Lib.hid hin; have W2 : Hid (Below w.heap.size w w2) := W1.out.trans (hb.mono W1.out.size); have hg2 : w.heap.size ≤ g := Nat.le_trans W1.out.size hg; clear hin hb hg hq))
        go_upto_region 8 with (go_at_call 28; (with_reducible refine (inU16_ok g q false ks (ks.take 2) _ HI2.out (by rw [HL.out]; omega) rfl (HQ.out.take 2)).mono ?_); rintro e w3 ⟨rfl, hin, hf3⟩; rw [XhN.out]; have HI3 := Lib.hid hin; have W3 : Hid (Below w.heap.size w w3) := below_only W2.out hf3 hg2 W2.out.size; clear hin hf3)
        go_wp2_with (go_at_call 28; (with_reducible refine (inU16_bad g q false (ks.drop 2) _ HI3.out Xhl2.out).mono ?_); rintro e w4 ⟨rfl, _, hf4⟩; have W4 : Hid (Below w.heap.size w w4) := below_only W3.out hf4 hg2 W3.out.size; clear hf4)
        refine bodyPost_ret (v := .tuple #[.int .u16 ((x : Nat) : Int), .int .u16 0, .int .i64 0]) (by simp [results, Try.results34]) rfl ⟨rfl, W4.out⟩
      · obtain ⟨hx, hy, rfl⟩ : x = wd bs 0 ∧ y = wd bs 2 ∧ r = 0 := by
          have := HR.out
          rw [look_both hz (by omega)] at this
          simp at this
          omega
        have HB : Hid (∀ w, Calls Try.prog 43 #[.bool v, .int .u8 p] w fun e w' => e = .returned (.int .i64 4) ∧ w = w') := fun w => bytes_any v p w 4 hz
        rw [hz] at hsh
        have hlt : decide ((n : Int) < 4) = false := by simp; omega
        have hlt2 : decide (n < 4) = false := by simp; omega
        have hcut : ∀ W, (Instr.slice 22 (.slice A n c) none (some (.int .i64 4)) none).run Try.prog W = .ok (.slice A 4 c) W := fun W => run_upto (k := 4) W (by omega)
        have HK : Hid (Byts w1 A 4 (bs.take 4)) := HA.out.upto (by omega)
        have hl : (bs.take 4).length = 4 := by simp; omega
        have ho4 : Octs (bs.take 4) := HO.out.take 4
        have hN : numF 0 ((bs.take 4).take 2) = ((x : Nat) : Int) := by rw [List.take_take, hx]; exact num_two HO.out (by omega)
        have hN2 : numF 0 (((bs.take 4).drop 2).take 2) = ((y : Nat) : Int) := by
          have := num_two (HO.out.drop 2) (by rw [List.length_drop]; omega)
          rw [wd_drop, Nat.add_zero] at this
          rw [hy, ← this, List.drop_take, List.take_take]
          rfl
        have hl2 : 2 ≤ ((bs.take 4).drop 2).length := by rw [List.length_drop]; omega
        have ho2 : Octs (((bs.take 4).drop 2).take 2) := (ho4.drop 2).take 2
        have HL := Lib.hid hl
        have HQ := Lib.hid ho4
        have XhN := Lib.hid hN
        have XhN2 := Lib.hid hN2
        have Xhl2 := Lib.hid hl2
        have Xho2 := Lib.hid ho2
        clear hl ho4 HR hN hN2 hl2 ho2
        clear hx
        clear hy
        generalize bs.take 4 = ks at *
        go_upto_region 7 with (first | (go_at_call 43; (with_reducible refine (HB.out _).mono ?_); rintro e w2 ⟨rfl, rfl⟩) | (go_at_call 26; (with_reducible refine (new_in A 4 c ks _ (by omega) HK.out).mono ?_); rintro e w2 ⟨g, q, rfl, hin, hg, hq, hb⟩; have HI2 := Lib.hid hin; have W2 : Hid (Below w.heap.size w w2) := W1.out.trans (hb.mono W1.out.size); have hg2 : w.heap.size ≤ g := Nat.le_trans W1.out.size hg; clear hin hb hg hq))
        go_upto_region 8 with (go_at_call 28; (with_reducible refine (inU16_ok g q false ks (ks.take 2) _ HI2.out (by rw [HL.out]; omega) rfl (HQ.out.take 2)).mono ?_); rintro e w3 ⟨rfl, hin, hf3⟩; rw [XhN.out]; have HI3 := Lib.hid hin; have W3 : Hid (Below w.heap.size w w3) := below_only W2.out hf3 hg2 W2.out.size; clear hin hf3)
        go_wp2_with (go_at_call 28; (with_reducible refine (inU16_ok g q false (ks.drop 2) ((ks.drop 2).take 2) _ HI3.out Xhl2.out rfl Xho2.out).mono ?_); rintro e w4 ⟨rfl, _, hf4⟩; rw [XhN2.out]; have W4 : Hid (Below w.heap.size w w4) := below_only W3.out hf4 hg2 W3.out.size; clear hf4)
        refine bodyPost_ret (v := .tuple #[.int .u16 ((x : Nat) : Int), .int .u16 ((y : Nat) : Int), .int .i64 0]) (by simp [results, Try.results34]) rfl ⟨rfl, W4.out⟩
end Go.Proofs.Ytebpemknmcgamaa.ports
