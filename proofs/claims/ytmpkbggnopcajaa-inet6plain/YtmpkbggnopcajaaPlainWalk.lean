/- The walk of the law Inet6Plain: for any body, any number that is no head's and any addresses it returns true and turns nothing that was there. -/
import Derived.Test.YtmpkbggnopcajaaPlainNums
namespace Go.Proofs.Ytmpkbggnopcajaa
open Go.RowKit

theorem parse_to (A : Option Addr) (n c : Nat) (q : Int) (bs ks : List Int) (f : Bool) (k : Nat) (s d : List Int) (w : World) (h : Byts w A n bs) (ho : Octs bs) (hm : n ≤ 9223372036854775807) (hc : n ≤ c) (hR : tel bs = (0, q, ks, f)) (hk : ks.length = k) (hs : sr bs 0 = s) (hd : ds bs 0 = d) :
    Calls Try.prog 8 #[.slice A n c] w fun e w' => ∃ A' c', e = .returned (.tuple #[.agg (net q s d (.slice A' k c') f).toArray, .int .i64 0]) ∧ Below w.heap.size w w' ∧ Bod w' A' ks := by
  subst hk hs hd
  exact parse_any A n c 0 q bs ks f w h ho hm hc hR

set_option maxRecDepth 100000 in
set_option maxHeartbeats 1000000 in
theorem plain_far (A : Option Addr) (n c : Nat) (p : Int) (wh : List Int) (w : World) (h : 300 < n ∨ tells p = true) : Calls Try.prog 6 #[.slice A n c, .int .u8 p, .agg (cel wh).toArray] w fun e w' => e = .returned (.bool true) ∧ Below w.heap.size w w' := by
  have W0 : Hid (Below w.heap.size w (w.alloc (.cells (cel wh).toArray 39))) := (Below.refl _ w).alloc (Nat.le_refl _) _
  by_cases h3 : 300 < n
  · have hd : decide ((300 : Int) < (n : Int)) = true := by simp; omega
    have hd2 : decide (300 < n) = true := by simpa using h3
    go_enter Try.func6, Try.ntmps6
    go_wp2_with fail
    refine (awake_any _).mono ?_
    rintro e w1 ⟨rfl, hb⟩
    have W1 : Hid (Below w.heap.size w w1) := W0.out.trans (hb.mono W0.out.size)
    clear hb
    go_wp2_with fail
    refine (awake_any _).mono ?_
    rintro e w2 ⟨rfl, hb⟩
    have W2 : Hid (Below w.heap.size w w2) := W1.out.trans (hb.mono W1.out.size)
    clear hb
    go_wp2
    go_ret
    exact ⟨rfl, W2.out⟩
  · have hd : decide ((300 : Int) < (n : Int)) = false := by simp; omega
    have hd2 : decide (300 < n) = false := by simpa using h3
    have ht : tells p = true := h.resolve_left h3
    have hp : p = 0 ∨ p = 43 ∨ p = 44 ∨ p = 60 := by
      unfold tells at ht
      simp at ht
      omega
    rcases hp with rfl | rfl | rfl | rfl
    · go_enter Try.func6, Try.ntmps6
      go_wp2_with fail
      refine (awake_any _).mono ?_
      rintro e w1 ⟨rfl, hb⟩
      have W1 : Hid (Below w.heap.size w w1) := W0.out.trans (hb.mono W0.out.size)
      clear hb
      go_wp2_with fail
      refine (awake_any _).mono ?_
      rintro e w2 ⟨rfl, hb⟩
      have W2 : Hid (Below w.heap.size w w2) := W1.out.trans (hb.mono W1.out.size)
      clear hb
      go_wp2
      go_ret
      exact ⟨rfl, W2.out⟩
    · go_enter Try.func6, Try.ntmps6
      go_wp2_with fail
      refine (awake_any _).mono ?_
      rintro e w1 ⟨rfl, hb⟩
      have W1 : Hid (Below w.heap.size w w1) := W0.out.trans (hb.mono W0.out.size)
      clear hb
      go_wp2_with fail
      refine (awake_any _).mono ?_
      rintro e w2 ⟨rfl, hb⟩
      have W2 : Hid (Below w.heap.size w w2) := W1.out.trans (hb.mono W1.out.size)
      clear hb
      go_wp2
      go_ret
      exact ⟨rfl, W2.out⟩
    · go_enter Try.func6, Try.ntmps6
      go_wp2_with fail
      refine (awake_any _).mono ?_
      rintro e w1 ⟨rfl, hb⟩
      have W1 : Hid (Below w.heap.size w w1) := W0.out.trans (hb.mono W0.out.size)
      clear hb
      go_wp2_with fail
      refine (awake_any _).mono ?_
      rintro e w2 ⟨rfl, hb⟩
      have W2 : Hid (Below w.heap.size w w2) := W1.out.trans (hb.mono W1.out.size)
      clear hb
      go_wp2
      go_ret
      exact ⟨rfl, W2.out⟩
    · go_enter Try.func6, Try.ntmps6
      go_wp2_with fail
      refine (awake_any _).mono ?_
      rintro e w1 ⟨rfl, hb⟩
      have W1 : Hid (Below w.heap.size w w1) := W0.out.trans (hb.mono W0.out.size)
      clear hb
      go_wp2_with fail
      refine (awake_any _).mono ?_
      rintro e w2 ⟨rfl, hb⟩
      have W2 : Hid (Below w.heap.size w w2) := W1.out.trans (hb.mono W1.out.size)
      clear hb
      go_wp2
      go_ret
      exact ⟨rfl, W2.out⟩

set_option maxRecDepth 100000 in
set_option maxHeartbeats 4000000 in
theorem plain_near (A : Option Addr) (n c : Nat) (p : Int) (ls wh : List Int) (w : World) (h : Byts w A n ls) (ho : Octs ls) (hn : n ≤ 300) (h0 : 0 ≤ p) (h1 : p ≤ 255) (ht : tells p = false) (h32 : wh.length = 32) (hwo : Octs wh) : Calls Try.prog 6 #[.slice A n c, .int .u8 p, .agg (cel wh).toArray] w fun e w' => e = .returned (.bool true) ∧ Below w.heap.size w w' := by
  have W0 : Hid (Below w.heap.size w (w.alloc (.cells (cel wh).toArray 39))) := (Below.refl _ w).alloc (Nat.le_refl _) _
  have K0 : Hid (Blk (w.alloc (.cells (cel wh).toArray 39)) w.heap.size 39 (cel wh)) := Blk.new w 39 (cel wh)
  have hd : decide ((300 : Int) < (n : Int)) = false := by simp; omega
  have hd2 : decide (300 < n) = false := by simp; omega
  have hp4 : p ≠ 0 ∧ p ≠ 43 ∧ p ≠ 44 ∧ p ≠ 60 := by
    unfold tells at ht
    simp at ht
    omega
  have d0 : (p == 0) = false := by simpa using hp4.1
  have d1 : (p == 43) = false := by simpa using hp4.2.1
  have d2 : (p == 44) = false := by simpa using hp4.2.2.1
  have d3 : (p == 60) = false := by simpa using hp4.2.2.2
  obtain ⟨t1, t2, t3⟩ := whole_tel (m := n) (ls := ls) h32 h.1 hn ht
  have HT := Lib.hid t1
  have HS := Lib.hid t2
  have HD := Lib.hid t3
  have HW := Lib.hid (whole_octs (m := n) hn h0 h1 hwo ho)
  have S1 : Hid (Sixteen (wh.take 16)) := by show List.length _ = _; simp; omega
  have S2 : Hid (Sixteen (wh.drop 16)) := by show List.length _ = _; simp; omega
  have LV : Hid (∀ B, (net p (wh.take 16) (wh.drop 16) B true).length = 35) := fun _ => net_length S1.out S2.out
  have H := Lib.hid h
  have hln := h.1
  have HFC := Lib.hid (front_cel n p)
  clear h ho t1 t2 t3 hwo ht hp4
  go_enter Try.func6, Try.ntmps6
  go_upto_region 1 with (fail)
  generalize (w.alloc (.cells (cel wh).toArray 39)) = w0 at *
  go_upto_region 3 with (first | (go_at_call 7; (with_reducible refine (awake_any _).mono ?_); rintro e x1 ⟨rfl, hb⟩; have W1 : Hid (Below w.heap.size w x1) := W0.out.trans (hb.mono W0.out.size); have K1 := Lib.hid (K0.out.far (Far.of_below hb nobody) (fun e => e)); clear hb))
  have Y2 : Hid (Below x1.heap.size x1 (x1.alloc (.cells #[.int .u8 111, .int .u8 1, .int .u8 2, .int .u8 3, .int .u8 ((n : Int) / 256), .int .u8 ((n : Int) % 256), .int .u8 p, .int .u8 9] 5))) := (Below.refl _ _).alloc (Nat.le_refl _) _
  have E2 : Hid (Blk (x1.alloc (.cells #[.int .u8 111, .int .u8 1, .int .u8 2, .int .u8 3, .int .u8 ((n : Int) / 256), .int .u8 ((n : Int) % 256), .int .u8 p, .int .u8 9] 5)) x1.heap.size 5 (cel (front n p))) := by rw [HFC.out]; exact Blk.new x1 5 _
  have O2 := Lib.hid (own_blk (base := x1.heap.size) E2.out (rfl : _ = 8) (by omega) (Nat.le_refl _))
  have hA1 := Lib.hid (H.out.below W1.out)
  go_upto_region 5 with (first | (at_builtin; refine wpList_app_to rfl (.tmp 42) (.tmp 43) rfl x1.heap.size (.slice (some ⟨x1.heap.size, 0, none⟩) 8 8) 8 (front n p) rfl (by exact O2.out) (some ⟨w.heap.size, 0, none⟩) 32 32 wh rfl (by exact Byts.of_all (K1.out.far (Far.of_below Y2.out nobody) (fun e => e)) h32) 40 rfl (front n p ++ wh) rfl (by omega) (by exact Y2.out.size) ?_; intro A3 c3 w3 R3 G3 B3; have Y3 : Hid (Below x1.heap.size x1 w3) := Y2.out.grown G3.out Y2.out.size (fun k e => (O2.out.lt k e).1)) | (at_builtin; refine wpList_app_to rfl (.tmp 46) (.tmp 47) rfl x1.heap.size (.slice A3 40 c3) 40 (front n p ++ wh) rfl (by exact R3.out) A n c ls rfl (by exact hA1.out.below Y3.out) (40 + n) rfl (whole n p wh ls) rfl (by omega) (by exact Y3.out.size) ?_; intro A4 c4 w4 R4 G4 B4; have Y4 : Hid (Below x1.heap.size x1 w4) := Y3.out.grown G4.out Y3.out.size (fun k e => (R3.out.lt k e).1)) | (go_at_call 8; (with_reducible refine (parse_to A4 (40 + n) c4 p (whole n p wh ls) ls true n (wh.take 16) (wh.drop 16) _ (Byts.of_own R4.out) HW.out (by omega) (own_cap R4.out) HT.out hln HS.out HD.out).mono ?_); rintro e x5 ⟨A1, c1, rfl, hb, hbod⟩; have Y5 : Hid (Below x1.heap.size x1 x5) := Y4.out.trans (hb.mono Y4.out.size); have BB5 := Lib.hid hbod; clear hb hbod) | (refine wpList_var26 rfl (.tmp 8) (.tmp 50) rfl x5 (net p (wh.take 16) (wh.drop 16) (.slice A1 n c1) true) rfl rfl (LV.out _) (net_one rfl) ?_; intro x6 B6 hb6; have Y6 : Hid (Below x1.heap.size x1 x6) := Y5.out.trans (hb6.out.mono Y5.out.size); have BB6 := Lib.hid (BB5.out.below hb6.out); clear hb6))
  have W6 : Hid (Below w.heap.size w x6) := W1.out.trans (Y6.out.mono W1.out.size)
  have K6 := Lib.hid (K1.out.far (Far.of_below Y6.out nobody) (fun e => e))
  clear R3 G3 B3 R4 G4 B4 O2 E2 Y2 Y3 Y4 Y5 BB5
  have k0 : x6.cell? ⟨x5.heap.size, 0, none⟩ = some (.int .u8 p) := (B6.out.cell 0).trans net_0
  have k3 : x6.cell? ⟨x5.heap.size, 33, none⟩ = some (.slice A1 n c1) := (B6.out.cell 33).trans (net_33 S1.out S2.out)
  have k4 : x6.cell? ⟨x5.heap.size, 34, none⟩ = some (.bool true) := (B6.out.cell 34).trans (net_34 S1.out S2.out)
  have t1 := fun W (hW : Below x6.heap.size x6 W) => run_text (P := Try.prog) W 22 5 9 A1 n c1 ls Try.underlying22 Try.underlying5 Try.underlying9 (by have := (BB6.out.below hW).byts; rwa [hln] at this)
  have t2 := fun W (hW : Below x6.heap.size x6 W) => run_text (P := Try.prog) W 22 5 9 A n c ls Try.underlying22 Try.underlying5 Try.underlying9 (H.out.below (W6.out.trans (hW.mono W6.out.size)))
  have t3 := fun W (hW : Below x6.heap.size x6 W) => run_text (P := Try.prog) W 22 5 9 (some ⟨x5.heap.size, 1, none⟩) 16 16 (wh.take 16) Try.underlying22 Try.underlying5 Try.underlying9 ((Byts.src S1.out B6.out).below hW)
  have t4 := fun W (hW : Below x6.heap.size x6 W) => run_text (P := Try.prog) W 22 5 9 (some ⟨w.heap.size, 0, none⟩) 16 32 (wh.take 16) Try.underlying22 Try.underlying5 Try.underlying9 (((Byts.of_all K6.out h32).upto (k := 16) (by omega)).below hW)
  have t5 := fun W (hW : Below x6.heap.size x6 W) => run_text (P := Try.prog) W 22 5 9 (some ⟨x5.heap.size, 17, none⟩) 16 16 (wh.drop 16) Try.underlying22 Try.underlying5 Try.underlying9 ((Byts.dst S1.out S2.out B6.out).below hW)
  have t6 := fun W (hW : Below x6.heap.size x6 W) => run_text (P := Try.prog) W 22 5 9 (some ⟨w.heap.size, 16, none⟩) 16 16 (wh.drop 16) Try.underlying22 Try.underlying5 Try.underlying9 (by
    have := Byts.of_blk (K6.out.far (Far.of_below hW nobody) (fun e => e)) 16 (by omega)
    rwa [h32] at this)
  have q1 := fun N => t1 (x6.drewN N) (below_drewN (Below.refl _ _) N)
  have q2 := fun N => t2 (x6.drewN N) (below_drewN (Below.refl _ _) N)
  have q3 := fun N => t3 (x6.drewN N) (below_drewN (Below.refl _ _) N)
  have q4 := fun N => t4 (x6.drewN N) (below_drewN (Below.refl _ _) N)
  have q5 := fun N => t5 (x6.drewN N) (below_drewN (Below.refl _ _) N)
  have q6 := fun N => t6 (x6.drewN N) (below_drewN (Below.refl _ _) N)
  clear t1 t2 t3 t4 t5 t6
  go_quiet (fail)
  go_wp2
  go_ret
  exact ⟨rfl, below_drewN W6.out _⟩
end Go.Proofs.Ytmpkbggnopcajaa
