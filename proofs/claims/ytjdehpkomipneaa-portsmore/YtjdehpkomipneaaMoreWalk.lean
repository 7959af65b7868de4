/- The walk of the law PortsMore: for any packet and any bytes behind it returns true and turns nothing that was there. -/
import Derived.Test.YtjdehpkomipneaaUntil
namespace Go.Proofs.Ytjdehpkomipneaa
open Go.RowKit

theorem past {b : Bool} {q : Prop} (h : b = true) : b = false → q := fun e => by rw [h] at e; cases e

set_option maxRecDepth 100000 in
set_option maxHeartbeats 1000000 in
theorem more_far1 (v f : Bool) (p : Int) (s d : List Int) (A B : Option Addr) (n c m k : Nat) (w : World) (hs : Sixteen s) (hd : Sixteen d) (hn : 2000 < n) :
    Calls Try.prog 5 #[.bool v, .agg (net p s d (.slice A n c) f).toArray, .slice B m k] w fun e w' => e = .returned (.bool true) ∧ Below w.heap.size w w' := by
  have L1 : Hid (Blk (w.alloc (.cells (net p s d (.slice A n c) f).toArray 25)) w.heap.size 25 (net p s d (.slice A n c) f)) := Blk.new w 25 _
  have W1 : Hid (Below w.heap.size w (w.alloc (.cells (net p s d (.slice A n c) f).toArray 25))) := (Below.refl _ w).alloc (Nat.le_refl _) _
  have HS := Lib.hid hs
  have HD := Lib.hid hd
  clear hs hd
  have hdc : decide ((2000 : Int) < (n : Int)) = true := by simp; omega
  have hdc2 : decide (2000 < n) = true := by simpa using hn
  go_enter Try.func5, Try.ntmps5
  go_upto_region 1 with (fail)
  generalize (w.alloc (.cells (net p s d (.slice A n c) f).toArray 25)) = w1 at *
  go_wp2_with fail
  refine (awake_any _).mono ?_
  rintro e x1 ⟨rfl, hb⟩
  have k3 : x1.cell? ⟨w.heap.size, 33, none⟩ = some (.slice A n c) := ((box_kept L1.out hb).cell 33).trans (net_33 HS.out HD.out)
  have W2 : Hid (Below w.heap.size w x1) := W1.out.trans (hb.mono W1.out.size)
  clear hb
  go_wp2_with fail
  refine (awake_any _).mono ?_
  rintro e x2 ⟨rfl, hb⟩
  have W3 : Hid (Below w.heap.size w x2) := W2.out.trans (hb.mono W2.out.size)
  clear hb
  go_wp2
  go_ret
  exact ⟨rfl, W3.out⟩

set_option maxRecDepth 100000 in
set_option maxHeartbeats 1000000 in
theorem more_far2 (v f : Bool) (p : Int) (s d : List Int) (A B : Option Addr) (n c m k : Nat) (w : World) (hs : Sixteen s) (hd : Sixteen d) (hn : n ≤ 2000 ∧ 200 < m) :
    Calls Try.prog 5 #[.bool v, .agg (net p s d (.slice A n c) f).toArray, .slice B m k] w fun e w' => e = .returned (.bool true) ∧ Below w.heap.size w w' := by
  have L1 : Hid (Blk (w.alloc (.cells (net p s d (.slice A n c) f).toArray 25)) w.heap.size 25 (net p s d (.slice A n c) f)) := Blk.new w 25 _
  have W1 : Hid (Below w.heap.size w (w.alloc (.cells (net p s d (.slice A n c) f).toArray 25))) := (Below.refl _ w).alloc (Nat.le_refl _) _
  have HS := Lib.hid hs
  have HD := Lib.hid hd
  clear hs hd
  have hdc : decide ((2000 : Int) < (n : Int)) = false := by simp; omega
  have hdc2 : decide (2000 < n) = false := by simp; omega
  have hdd : decide ((200 : Int) < (m : Int)) = true := by simp; omega
  have hdd2 : decide (200 < m) = true := by simp; omega
  go_enter Try.func5, Try.ntmps5
  go_upto_region 1 with (fail)
  generalize (w.alloc (.cells (net p s d (.slice A n c) f).toArray 25)) = w1 at *
  go_wp2_with fail
  refine (awake_any _).mono ?_
  rintro e x1 ⟨rfl, hb⟩
  have k3 : x1.cell? ⟨w.heap.size, 33, none⟩ = some (.slice A n c) := ((box_kept L1.out hb).cell 33).trans (net_33 HS.out HD.out)
  have W2 : Hid (Below w.heap.size w x1) := W1.out.trans (hb.mono W1.out.size)
  clear hb
  go_wp2_with fail
  refine (awake_any _).mono ?_
  rintro e x2 ⟨rfl, hb⟩
  have W3 : Hid (Below w.heap.size w x2) := W2.out.trans (hb.mono W2.out.size)
  clear hb
  go_wp2
  go_ret
  exact ⟨rfl, W3.out⟩

theorem more_far (v f : Bool) (p : Int) (s d : List Int) (A B : Option Addr) (n c m k : Nat) (w : World) (hs : Sixteen s) (hd : Sixteen d) (hn : 2000 < n ∨ 200 < m) :
    Calls Try.prog 5 #[.bool v, .agg (net p s d (.slice A n c) f).toArray, .slice B m k] w fun e w' => e = .returned (.bool true) ∧ Below w.heap.size w w' := by
  by_cases h : 2000 < n
  · exact more_far1 v f p s d A B n c m k w hs hd h
  · exact more_far2 v f p s d A B n c m k w hs hd (by omega)

set_option maxRecDepth 100000 in
set_option maxHeartbeats 4000000 in
theorem more_near (v f : Bool) (p : Int) (s d bs ms : List Int) (A B : Option Addr) (n c m k : Nat) (w : World) (hs : Sixteen s) (hd : Sixteen d) (h : Byts w A n bs) (ho : Octs bs) (hc : n ≤ c) (h' : Byts w B m ms) (ho' : Octs ms) (hn : n ≤ 2000) (hm : m ≤ 200) :
    Calls Try.prog 5 #[.bool v, .agg (net p s d (.slice A n c) f).toArray, .slice B m k] w fun e w' => e = .returned (.bool true) ∧ Below w.heap.size w w' := by
  obtain ⟨⟨x, y, r⟩, hR⟩ : ∃ R, look v p f bs = R := ⟨_, rfl⟩
  obtain ⟨bx, by_, hr⟩ := look_cases ho hR
  have L1 : Hid (Blk (w.alloc (.cells (net p s d (.slice A n c) f).toArray 25)) w.heap.size 25 (net p s d (.slice A n c) f)) := Blk.new w 25 _
  have W1 : Hid (Below w.heap.size w (w.alloc (.cells (net p s d (.slice A n c) f).toArray 25))) := (Below.refl _ w).alloc (Nat.le_refl _) _
  have LN : Hid (∀ p f, (net p s d (.slice A n c) f).length = 35) := fun _ _ => net_length hs hd
  have H := Lib.hid h
  have HO := Lib.hid ho
  have H' := Lib.hid h'
  have HO' := Lib.hid ho'
  have HS := Lib.hid hs
  have HD := Lib.hid hd
  have HR := Lib.hid hR
  clear h ho hs hd hR h' ho'
  have hdc : decide ((2000 : Int) < (n : Int)) = false := by simp; omega
  have hdc2 : decide (2000 < n) = false := by simp; omega
  have hdd : decide ((200 : Int) < (m : Int)) = false := by simp; omega
  have hdd2 : decide (200 < m) = false := by simp; omega
  go_enter Try.func5, Try.ntmps5
  go_upto_region 1 with (fail)
  generalize (w.alloc (.cells (net p s d (.slice A n c) f).toArray 25)) = w1 at *
  go_upto_region 3 with (go_at_call 6; (with_reducible refine (awake_any _).mono ?_); rintro e x1 ⟨rfl, hb⟩; have L2 := Lib.hid (box_kept L1.out hb); have k3 : x1.cell? ⟨w.heap.size, 33, none⟩ = some (.slice A n c) := (L2.out.cell 33).trans (net_33 HS.out HD.out); have W2 : Hid (Below w.heap.size w x1) := W1.out.trans (hb.mono W1.out.size); clear hb)
  clear k3
  go_upto_region 4 with (first | (refine wpList_whole25 (by rfl) (.tmp 4) rfl w.heap.size rfl (net p s d (.slice A n c) f) L2.out (LN.out _ _) ?_) | (go_at_call 7; (with_reducible refine (parse_any v f p s d bs A n c x y r _ HS.out HD.out (H.out.below W2.out) HO.out (by omega) hc HR.out).mono ?_); rintro e x2 ⟨rfl, hb⟩; have L3 := Lib.hid (box_kept L2.out hb); have W3 : Hid (Below w.heap.size w x2) := W2.out.trans (hb.mono W2.out.size); clear hb))
  rcases hr with rfl | ⟨rfl, rfl, rfl⟩
  · go_upto_region 6 with (fail)
    refine til_begin (fun W => Blk W w.heap.size 25 (net p s d (.slice A n c) f)) 10 (by kernel_rfl) ?_
    have D0 : Hid (Blk x2.drew w.heap.size 25 (net p s d (.slice A n c) f)) := L3.out
    have YD : Hid (Below x2.heap.size x2 x2.drew) := (Below.refl _ x2).drew
    refine til_take (i := 1) (oi := ⟨some 47, _, _, _, _, _⟩) (v := ?_) rfl (by kernel_rfl) (by kernel_rfl) (by kernel_rfl) (by decide) (by kernel_rfl) (by kernel_rfl) (fun _ _ _ h => h) (Or.inl ⟨by rfl, ?_⟩) D0.out ?_
    rotate_left
    · (intro W hSW; go_simp)
      first | done | (with_reducible rfl)
    try simp only [Act.put, List.setIfInBounds_toArray, List.set_cons_zero, List.set_cons_succ]
    refine til_take (i := 2) (oi := ⟨some 48, _, _, _, _, _⟩) (v := .slice A n c) rfl (by kernel_rfl) (by kernel_rfl) (by kernel_rfl) (by decide) (by kernel_rfl) (by kernel_rfl) (fun _ _ _ h => h) (Or.inl ⟨by rfl, ?_⟩) D0.out ?_
    · intro W hSW
      have hcl := (hSW.cell 33).trans (net_33 HS.out HD.out)
      clear hSW
      go_simp
    try simp only [Act.put, List.setIfInBounds_toArray, List.set_cons_zero, List.set_cons_succ]
    refine til_take (i := 4) (oi := ⟨some 50, _, _, _, _, _⟩) (v := ?_) rfl (by kernel_rfl) (by kernel_rfl) (by kernel_rfl) (by decide) (by kernel_rfl) (by kernel_rfl) (fun _ _ _ h => h) (Or.inl ⟨by rfl, ?_⟩) D0.out ?_
    rotate_left
    · (intro W hSW; go_simp)
      first | done | (with_reducible rfl)
    try simp only [Act.put, List.setIfInBounds_toArray, List.set_cons_zero, List.set_cons_succ]
    refine til_take (i := 6) (oi := ⟨some 52, _, _, _, _, _⟩) (v := ?_) rfl (by kernel_rfl) (by kernel_rfl) (by kernel_rfl) (by decide) (by kernel_rfl) (by kernel_rfl) (fun _ _ _ h => h) (Or.inl ⟨by rfl, ?_⟩) D0.out ?_
    rotate_left
    · (intro W hSW; go_simp)
      first | done | (with_reducible rfl)
    try simp only [Act.put, List.setIfInBounds_toArray, List.set_cons_zero, List.set_cons_succ]
    refine til_take (i := 7) (oi := ⟨some 53, _, _, _, _, _⟩) (v := .agg (cel d).toArray) rfl (by kernel_rfl) (by kernel_rfl) (by kernel_rfl) (by decide) (by kernel_rfl) (by kernel_rfl) (fun _ _ _ h => h) (yieldsIf_load_mid (by rfl) 22 (.tmp 52) rfl w.heap.size 17 rfl (cel d) _ (fun _ hW => net_dst HS.out hW) Try.underlying22 rfl (cel_size HD.out)) D0.out ?_
    try simp only [Act.put, List.setIfInBounds_toArray, List.set_cons_zero, List.set_cons_succ]
    refine til_take (i := 8) (oi := ⟨some 54, _, _, _, _, _⟩) (v := ?_) rfl (by kernel_rfl) (by kernel_rfl) (by kernel_rfl) (by decide) (by kernel_rfl) (by kernel_rfl) (fun _ _ _ h => h) (Or.inl ⟨by rfl, ?_⟩) D0.out ?_
    rotate_left
    · (intro W hSW; go_simp)
      first | done | (with_reducible rfl)
    try simp only [Act.put, List.setIfInBounds_toArray, List.set_cons_zero, List.set_cons_succ]
    refine til_take (i := 9) (oi := ⟨some 55, _, _, _, _, _⟩) (v := .agg (cel s).toArray) rfl (by kernel_rfl) (by kernel_rfl) (by kernel_rfl) (by decide) (by kernel_rfl) (by kernel_rfl) (fun _ _ _ h => h) (yieldsIf_load_mid (by rfl) 22 (.tmp 54) rfl w.heap.size 1 rfl (cel s) _ (fun _ hW => net_src hW) Try.underlying22 rfl (cel_size HS.out)) D0.out ?_
    try simp only [Act.put, List.setIfInBounds_toArray, List.set_cons_zero, List.set_cons_succ]
    refine til_one (i := 0) (o := ⟨some 46, _, _, _, _, _⟩) (by kernel_rfl) rfl (fun K hK => ?_)
    go_simp
    have Y4 : Hid (Below x2.heap.size x2 ((x2.alloc (.cells #[] 5)).drew)) := ((Below.refl _ x2).alloc (Nat.le_refl _) _).drew
    have R4 : Hid (World.ownsRow ((x2.alloc (.cells #[] 5)).drew) x2.heap.size 5 1 (.slice (some ⟨x2.heap.size, 0, none⟩) 0 0) 0 (cel [])) := own_new x2.drew x2.heap.size (Nat.le_refl _)
    refine hK.out _ _ (fun _ => box_kept L3.out Y4.out) ?_
    clear hK K
    try simp only [Act.put, List.setIfInBounds_toArray, List.set_cons_zero, List.set_cons_succ]
    generalize ((x2.alloc (.cells #[] 5)).drew) = w4 at *
    refine til_one (i := 3) (o := ⟨some 49, _, _, _, _, _⟩) (by kernel_rfl) rfl (fun K hK => ?_)
    refine step_app (by rfl) (.tmp 46) (.tmp 48) (by rfl) x2.heap.size (.slice (some ⟨x2.heap.size, 0, none⟩) 0 0) 0 [] (by rfl) R4.out A n c bs (by rfl) (H.out.below (W3.out.trans (Y4.out.mono W3.out.size))) n (by omega) bs rfl (by omega) Y4.out.size ?_
    intro A5 c5 w5 R5 G5
    have Y5 : Hid (Below x2.heap.size x2 w5) := Y4.out.grown G5.out Y4.out.size (fun k e => (R4.out.lt k e).1)
    refine hK.out _ _ (fun _ => box_kept L3.out Y5.out) ?_
    clear hK K
    try simp only [Act.put, List.setIfInBounds_toArray, List.set_cons_zero, List.set_cons_succ]
    refine til_one (i := 5) (o := ⟨some 51, _, _, _, _, _⟩) (by kernel_rfl) rfl (fun K hK => ?_)
    refine step_app (by rfl) (.tmp 49) (.tmp 50) (by rfl) x2.heap.size (.slice A5 n c5) n bs (by rfl) R5.out B m k ms (by rfl) (H'.out.below (W3.out.trans (Y5.out.mono W3.out.size))) (n + m) rfl (bs ++ ms) rfl (by omega) Y5.out.size ?_
    intro A6 c6 w6 R6 G6
    have Y6 : Hid (Below x2.heap.size x2 w6) := Y5.out.grown G6.out Y5.out.size (fun k e => (R5.out.lt k e).1)
    refine hK.out _ _ (fun _ => box_kept L3.out Y6.out) ?_
    clear hK K
    try simp only [Act.put, List.setIfInBounds_toArray, List.set_cons_zero, List.set_cons_succ]
    have L6 := Lib.hid (box_kept L3.out Y6.out)
    have W6 : Hid (Below w.heap.size w w6) := W3.out.trans (Y6.out.mono W3.out.size)
    have HB6 := Lib.hid (Byts.of_own R6.out)
    have hc6 := own_cap R6.out
    have hA6 : Hid (∀ ad, A6 = some ad → ¬ only w.heap.size ad.block) := fun ad e h => by
      have h1 := (R6.out.lt ad.block (by rw [e]; rfl)).1
      have h2 : ad.block = w.heap.size := h
      have h3 := L3.out.lt
      omega
    clear R4 R5 R6 G5 G6 Y4 Y5 Y6 D0 YD
    refine til_one (i := 10) (o := ⟨some 56, _, _, _, _, _⟩) (by kernel_rfl) rfl (fun K hK => ?_)
    go_simp
    refine hK.out _ _ (past (by kernel_rfl)) ?_
    clear hK K
    try simp only [Act.put, List.setIfInBounds_toArray, List.set_cons_zero, List.set_cons_succ]
    have k3 : w6.cell? ⟨w.heap.size, 33, none⟩ = some (.slice A n c) := (L6.out.cell 33).trans (net_33 HS.out HD.out)
    have f3 := L6.out.frozen 33
    refine til_one (i := 11) (o := ⟨none, _, _, _, _, _⟩) (by kernel_rfl) rfl (fun K hK => ?_)
    go_simp
    refine hK.out _ _ (past (by kernel_rfl)) ?_
    clear hK K
    try simp only [Act.put, List.setIfInBounds_toArray, List.set_cons_zero, List.set_cons_succ]
    have L7 : Hid (Blk (w6.setCell ⟨w.heap.size, 33, none⟩ (.slice A6 (n + m) c6)) w.heap.size 25 (net p s d (.slice A6 (n + m) c6) f)) := by
      have := L6.out.set_ 33 (.slice A6 (n + m) c6)
      rw [net_set33 HS.out HD.out] at this
      exact this
    have F7 : Hid (Far (only w.heap.size) w6 (w6.setCell ⟨w.heap.size, 33, none⟩ (.slice A6 (n + m) c6))) := (Far.refl (only w.heap.size) w6).set_ (p := ⟨w.heap.size, 33, none⟩) (fun _ => rfl) _
    clear k3 f3
    generalize (w6.setCell ⟨w.heap.size, 33, none⟩ (.slice A6 (n + m) c6)) = w7 at *
    refine til_one (i := 12) (o := ⟨some 57, _, _, _, _, _⟩) (by kernel_rfl) rfl (fun K hK => ?_)
    go_simp
    refine hK.out _ _ (past (by kernel_rfl)) ?_
    clear hK K
    try simp only [Act.put, List.setIfInBounds_toArray, List.set_cons_zero, List.set_cons_succ]
    refine til_one (i := 13) (o := ⟨none, _, _, _, _, _⟩) (by kernel_rfl) rfl (fun K hK => ?_)
    refine step_addr (by rfl) (.tmp 57) (.tmp 53) (by rfl) w.heap.size 1 d HD.out (by rfl) (by rfl) 25 _ L7.out (by rw [net_length HS.out HD.out]; omega) ?_
    intro w8 L8 F8
    have M8 := L8.out
    rw [net_put1 HS.out] at M8
    refine hK.out _ _ (past (by kernel_rfl)) ?_
    clear hK K
    try simp only [Act.put]
    refine til_one (i := 14) (o := ⟨some 58, _, _, _, _, _⟩) (by kernel_rfl) rfl (fun K hK => ?_)
    go_simp
    refine hK.out _ _ (past (by kernel_rfl)) ?_
    clear hK K
    try simp only [Act.put, List.setIfInBounds_toArray, List.set_cons_zero, List.set_cons_succ]
    refine til_one (i := 15) (o := ⟨none, _, _, _, _, _⟩) (by kernel_rfl) rfl (fun K hK => ?_)
    refine step_addr (by rfl) (.tmp 58) (.tmp 55) (by rfl) w.heap.size 17 s HS.out (by rfl) (by rfl) 25 _ M8 (by rw [net_length HD.out HD.out]; omega) ?_
    intro w9 L9 F9
    have M9 := L9.out
    rw [net_put2 HD.out HD.out] at M9
    refine hK.out _ _ (past (by kernel_rfl)) ?_
    clear hK K
    try simp only [Act.put]
    refine til_done (by kernel_rfl) ?_ _
    have F69 : Hid (Far (only w.heap.size) w6 w9) := (F7.out.trans F8.out (fun _ _ e => e)).trans F9.out (fun _ _ e => e)
    have W9 : Hid (Below w.heap.size w w9) := below_only W6.out F69.out (Nat.le_refl _) W6.out.size
    have HB9 := Lib.hid (HB6.out.far F69.out hA6.out)
    have LM := Lib.hid M9
    have LL : Hid ((net p d s (.slice A6 (n + m) c6) f).length = 35) := net_length HD.out HS.out
    have HR9 := Lib.hid (look_more (ms := ms) HR.out)
    have HO9 := Lib.hid (HO.out.app HO'.out)
    clear M8 M9 L8 L9 F7 F8 F9 F69 L6 L7 W6 HB6 hA6
    go_wp2_with (first | (refine wpList_whole25 (by rfl) (.tmp 4) rfl w.heap.size rfl (net p d s (.slice A6 (n + m) c6) f) LM.out LL.out ?_) | (go_at_call 7; (with_reducible refine (parse_any v f p d s (bs ++ ms) A6 (n + m) c6 x y 0 _ HD.out HS.out HB9.out HO9.out (by omega) hc6 HR9.out).mono ?_); rintro e x3 ⟨rfl, hb⟩; have W10 : Hid (Below w.heap.size w x3) := W9.out.trans (hb.mono W9.out.size); clear hb))
    go_ret
    exact ⟨rfl, W10.out⟩
  · go_wp2
    go_ret
    exact ⟨rfl, W3.out⟩
end Go.Proofs.Ytjdehpkomipneaa
