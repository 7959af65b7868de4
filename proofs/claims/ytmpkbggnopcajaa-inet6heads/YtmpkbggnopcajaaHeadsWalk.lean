/- The walk of the law Inet6Heads: for any bytes and any head it returns true and turns nothing that was there. -/
import Derived.Test.YtmpkbggnopcajaaHeadNums
namespace Go.Proofs.Ytmpkbggnopcajaa
open Go.RowKit

theorem cel_set (l : List Int) (i : Nat) (x : Int) : (cel l).set i (.int .u8 x) = cel (l.set i x) := by simp [cel, List.map_set]
theorem own_some {w : World} {base : Nat} {A : Option Addr} {n c : Nat} {xs : List Value} (h : w.ownsRow base 5 1 (.slice A n c) n xs) (h0 : 0 < n) : ∃ g, A = some ⟨g, 0, none⟩ ∧ base ≤ g := by
  rcases h.2 with ⟨e, e0⟩ | ⟨g, cap, cur, e, hb, _⟩
  · omega
  · cases e
    exact ⟨g, rfl, hb⟩
/-- append of bytes onto an own row, in a region that draws. -/
theorem step_app {ops : Array Oper} {o : Oper} {a : Act} {w : World} {K : Act → World → Prop} {Q : Exit → Act → World → Prop} {E : Prop} (hgd : o.guard = none) (s x : Operand)
    (ho : o.op = .call { callee := .builtin .append, args := #[s, x], argTypes := #[22, 22] })
    (base : Nat) (v : Value) (n : Nat) (xs : List Int) (hs : a.eval s = v) (hown : w.ownsRow base 5 1 v n (cel xs))
    (A : Option Addr) (m c : Nat) (bs : List Int) (hx : a.eval x = .slice A m c) (h : Byts w A m bs) (k : Nat) (hk : n + m = k) (zs : List Int) (hz : xs ++ bs = zs) (hn : k ≤ 1000000) (hb : base ≤ w.heap.size)
    (hK : ∀ A' c' w', Hid (w'.ownsRow base 5 1 (.slice A' k c') k (cel zs)) → Hid (w.grownBy w' v.ownBlock) → K (a.put o.dst (.slice A' k c')) w') : if Region.wanted o (yielded ops a.tmps) = true then Oper.wp Try.prog o a w K Q else E := by
  subst hk hz
  have hw : Region.wanted o (yielded ops a.tmps) = true := by simp [Region.wanted, hgd]
  rw [if_pos hw]
  obtain ⟨v', w', hrun, h2, h3, _⟩ := run_append_bytes (P := Try.prog) w base 22 o.type 5 Try.underlying22 info5 v n xs hown A m c bs h hn hb
  obtain ⟨A', c', rfl, _⟩ := Byts.of_row h2
  unfold Oper.wp
  simp [execOp, ho, resolve, invoke, builtin, hs, hx, hrun, Result.andThen]
  exact hK A' c' w' h2 h3

set_option maxHeartbeats 1000000 in
theorem heads_far (A : Option Addr) (n c k : Nat) (w : World) (h : 2000 < n) : Calls Try.prog 4 #[.slice A n c, .int .u8 (k : Nat)] w fun e w' => e = .returned (.bool true) ∧ Below w.heap.size w w' := by
  have hd : decide ((2000 : Int) < (n : Int)) = true := by simp; omega
  have hd2 : decide (2000 < n) = true := by simpa using h
  go_enter Try.func4, Try.ntmps4
  go_wp2_with fail
  refine (awake_any _).mono ?_
  rintro e w1 ⟨rfl, hb⟩
  have HB := Lib.hid hb
  clear hb
  go_wp2_with fail
  refine (awake_any _).mono ?_
  rintro e w2 ⟨rfl, hb⟩
  have HC := Lib.hid hb
  clear hb
  go_wp2
  go_ret
  exact ⟨rfl, HB.out.trans (HC.out.mono HB.out.size)⟩

set_option maxRecDepth 100000 in
set_option maxHeartbeats 2000000 in
theorem heads_no (A : Option Addr) (n c k : Nat) (bs : List Int) (w : World) (h : Byts w A n bs) (ho : Octs bs) (hc : n ≤ c) (hn : n ≤ 2000) (r : Nat) (q : Int) (ks : List Int) (f : Bool) (hr : tel bs = (r, q, ks, f)) (h0 : r ≠ 0) :
    Calls Try.prog 4 #[.slice A n c, .int .u8 (k : Nat)] w fun e w' => e = .returned (.bool true) ∧ Below w.heap.size w w' := by
  have hd : decide ((2000 : Int) < (n : Int)) = false := by simp; omega
  have hd2 : decide (2000 < n) = false := by simp; omega
  have H := Lib.hid h
  have HO := Lib.hid ho
  have HR := Lib.hid hr
  have LV : Hid (∀ B, (net q (sr bs r) (ds bs r) B f).length = 35) := fun _ => parn_length hr
  have hd5 : ((r : Int) != 0) = true := by simp; omega
  clear h ho hr
  go_enter Try.func4, Try.ntmps4
  go_wp2_with (first | (go_at_call 7; (with_reducible refine (awake_any _).mono ?_); rintro e x1 ⟨rfl, hb⟩; have W1 := Lib.hid hb; clear hb) | (go_at_call 8; (with_reducible refine (parse_any A n c r q bs ks f _ (H.out.below W1.out) HO.out (by omega) hc HR.out).mono ?_); rintro e x2 ⟨A1, c1, rfl, hb, _⟩; have W2 : Hid (Below w.heap.size w x2) := W1.out.trans (hb.mono W1.out.size); clear hb) | (refine wpList_var26 rfl (.tmp 5) (.tmp 22) rfl x2 (net q (sr bs r) (ds bs r) (.slice A1 ks.length c1) f) rfl rfl (LV.out _) (net_one rfl) ?_; intro x3 B3 hb3; have W3 : Hid (Below w.heap.size w x3) := W2.out.trans (hb3.out.mono W2.out.size); clear hb3))
  go_ret
  exact ⟨rfl, W3.out⟩

set_option maxRecDepth 100000 in
set_option maxHeartbeats 2000000 in
theorem heads_big (A : Option Addr) (n c k : Nat) (bs : List Int) (w : World) (h : Byts w A n bs) (ho : Octs bs) (hc : n ≤ c) (hn : n ≤ 2000) (q : Int) (ks : List Int) (f : Bool) (hr : tel bs = (0, q, ks, f)) (hbig : 65535 < 8 + wd bs 4) :
    Calls Try.prog 4 #[.slice A n c, .int .u8 (k : Nat)] w fun e w' => e = .returned (.bool true) ∧ Below w.heap.size w w' := by
  have hd : decide ((2000 : Int) < (n : Int)) = false := by simp; omega
  have hd2 : decide (2000 < n) = false := by simp; omega
  have H := Lib.hid h
  have HO := Lib.hid ho
  have HR := Lib.hid hr
  have hw0 : why bs = 0 := tel_why (by rw [hr])
  have hbn := h.1
  obtain ⟨f1, _, f3⟩ := why_fine hw0
  have LV : Hid (∀ B, (net q (sr bs 0) (ds bs 0) B f).length = 35) := fun _ => parn_length hr
  have S1 : Hid (Sixteen (sr bs 0)) := sr_sixteen (tel_long hr)
  have S2 : Hid (Sixteen (ds bs 0)) := ds_sixteen (tel_long hr)
  have hwi : bs.getD 4 0 * 256 + bs.getD 5 0 = ((wd bs 4 : Nat) : Int) := wd_int ho 4
  have b4 := ho.at_ 4
  have b5 := ho.at_ 5
  have b6 := ho.at_ 6
  have hwb := wd_bd ho 4
  clear h ho hr hw0
  obtain ⟨ad, rfl, _⟩ := H.out.2 (by omega)
  go_enter Try.func4, Try.ntmps4
  go_upto_region 6 with (first | (go_at_call 7; (with_reducible refine (awake_any _).mono ?_); rintro e x1 ⟨rfl, hb⟩; have W1 := Lib.hid hb; clear hb) | (go_at_call 8; (with_reducible refine (parse_any (some ad) n c 0 q bs ks f _ (H.out.below W1.out) HO.out (by omega) hc HR.out).mono ?_); rintro e x2 ⟨A1, c1, rfl, hb, hbod⟩; have W2 : Hid (Below w.heap.size w x2) := W1.out.trans (hb.mono W1.out.size); have BB2 := Lib.hid hbod; clear hb hbod) | (refine wpList_var26 rfl (.tmp 5) (.tmp 22) rfl x2 (net q (sr bs 0) (ds bs 0) (.slice A1 ks.length c1) f) rfl rfl (LV.out _) (net_one rfl) ?_; intro x3 B3 hb3; have W3 : Hid (Below w.heap.size w x3) := W2.out.trans (hb3.out.mono W2.out.size); have BB3 := Lib.hid (BB2.out.below hb3.out); clear hb3))
  obtain ⟨ad', e, hcell⟩ := (H.out.below W3.out).2 (by omega)
  cases e
  have c2 : x3.cell? ⟨ad.block, ad.off + 4, none⟩ = some (.int .u8 (bs.getD 4 0)) := by simpa [Addr.add] using hcell 4 (by omega)
  have c3 : x3.cell? ⟨ad.block, ad.off + 5, none⟩ = some (.int .u8 (bs.getD 5 0)) := by simpa [Addr.add] using hcell 5 (by omega)
  have hn2 : 4 < n := by omega
  have hn3 : 5 < n := by omega
  clear hcell
  obtain ⟨a, ha⟩ : ∃ a, a = 8 + wd bs 4 := ⟨_, rfl⟩
  have HWI : Hid (8 + bs.getD 4 0 * 256 + bs.getD 5 0 = (a : Int)) := by show _ = _; omega
  have hab : 8 ≤ a ∧ a ≤ 65543 := by omega
  have HA := Lib.hid ha
  have hal : 65535 < a := by omega
  clear hwi ha hwb f3
  generalize bs.getD 4 0 = u2 at *
  generalize bs.getD 5 0 = u3 at *
  go_cut [7] from 26 to 36 (fun s wx => s = .int .i64 (a : Nat) ∧ Below x3.heap.size x3 wx)
  case first =>
    go_region
    go_wp2_with fail
    go_meet
    case rel => exact ⟨by rw [HWI.out], (Below.refl _ _).drew⟩
  case rest =>
    obtain ⟨rfl, hbl⟩ := hcut
    have W4 : Hid (Below w.heap.size w wc) := W3.out.trans (hbl.mono W3.out.size)
    have B4 := Lib.hid (B3.out.far (Far.of_below hbl nobody) (fun e => e))
    have BB4 := Lib.hid (BB3.out.below hbl)
    clear hbl c2 c3 hn2 hn3 HWI b4 b5 B3 BB3 BB2
    have hd6 : decide ((65535 : Int) < (a : Int)) = true := by simp; omega
    have hd7 : decide (65535 < a) = true := by simp; omega
    go_wp2
    go_ret
    exact ⟨rfl, W4.out⟩

set_option maxRecDepth 100000 in
set_option maxHeartbeats 4000000 in
theorem heads_ok (A : Option Addr) (n c k : Nat) (bs : List Int) (w : World) (h : Byts w A n bs) (ho : Octs bs) (hc : n ≤ c) (hn : n ≤ 2000) (hk : k ≤ 255) (q : Int) (ks : List Int) (f : Bool) (hr : tel bs = (0, q, ks, f)) (hsm : 8 + wd bs 4 ≤ 65535) :
    Calls Try.prog 4 #[.slice A n c, .int .u8 (k : Nat)] w fun e w' => e = .returned (.bool true) ∧ Below w.heap.size w w' := by
  have hd : decide ((2000 : Int) < (n : Int)) = false := by simp; omega
  have hd2 : decide (2000 < n) = false := by simp; omega
  have H := Lib.hid h
  have HO := Lib.hid ho
  have HR := Lib.hid hr
  have hw0 : why bs = 0 := tel_why (by rw [hr])
  have hbn := h.1
  obtain ⟨f1, _, f3⟩ := why_fine hw0
  have LV : Hid (∀ B, (net q (sr bs 0) (ds bs 0) B f).length = 35) := fun _ => parn_length hr
  have S1 : Hid (Sixteen (sr bs 0)) := sr_sixteen (tel_long hr)
  have S2 : Hid (Sixteen (ds bs 0)) := ds_sixteen (tel_long hr)
  have hwi : bs.getD 4 0 * 256 + bs.getD 5 0 = ((wd bs 4 : Nat) : Int) := wd_int ho 4
  have b4 := ho.at_ 4
  have b5 := ho.at_ 5
  have b6 := ho.at_ 6
  have hwb := wd_bd ho 4
  have hj4 : k % 4 < 4 := Nat.mod_lt _ (by omega)
  obtain ⟨kt, kb0, kb1⟩ := kd_tells hj4
  obtain ⟨htl, hsr, hds⟩ := ahead_same (kd := kdOf (k % 4)) hr hsm kt
  have HTL := Lib.hid htl
  have HSR := Lib.hid hsr
  have HDS := Lib.hid hds
  have HOA := Lib.hid (ahead_octs (kd := kdOf (k % 4)) ho hsm kb0 kb1)
  have HF4 : Hid (first40 bs (kdOf (k % 4)) = (((bs.take 40).set 4 (((8 + wd bs 4) / 256 : Nat) : Int)).set 5 (((8 + wd bs 4) % 256 : Nat) : Int)).set 6 (kdOf (k % 4))) := (rfl : _ = _)
  have HAH : Hid ((first40 bs (kdOf (k % 4)) ++ eight (bs.getD 6 0)) ++ bs.drop 40 = ahead bs (kdOf (k % 4))) := (rfl : _ = _)
  have HAL := Lib.hid (ahead_length (bs := bs) (kd := kdOf (k % 4)) f1)
  clear kt htl hsr hds
  clear h ho hr hw0
  obtain ⟨ad, rfl, _⟩ := H.out.2 (by omega)
  go_enter Try.func4, Try.ntmps4
  go_upto_region 6 with (first | (go_at_call 7; (with_reducible refine (awake_any _).mono ?_); rintro e x1 ⟨rfl, hb⟩; have W1 := Lib.hid hb; clear hb) | (go_at_call 8; (with_reducible refine (parse_any (some ad) n c 0 q bs ks f _ (H.out.below W1.out) HO.out (by omega) hc HR.out).mono ?_); rintro e x2 ⟨A1, c1, rfl, hb, hbod⟩; have W2 : Hid (Below w.heap.size w x2) := W1.out.trans (hb.mono W1.out.size); have BB2 := Lib.hid hbod; clear hb hbod) | (refine wpList_var26 rfl (.tmp 5) (.tmp 22) rfl x2 (net q (sr bs 0) (ds bs 0) (.slice A1 ks.length c1) f) rfl rfl (LV.out _) (net_one rfl) ?_; intro x3 B3 hb3; have W3 : Hid (Below w.heap.size w x3) := W2.out.trans (hb3.out.mono W2.out.size); have BB3 := Lib.hid (BB2.out.below hb3.out); clear hb3))
  obtain ⟨ad', e, hcell⟩ := (H.out.below W3.out).2 (by omega)
  cases e
  have c2 : x3.cell? ⟨ad.block, ad.off + 4, none⟩ = some (.int .u8 (bs.getD 4 0)) := by simpa [Addr.add] using hcell 4 (by omega)
  have c3 : x3.cell? ⟨ad.block, ad.off + 5, none⟩ = some (.int .u8 (bs.getD 5 0)) := by simpa [Addr.add] using hcell 5 (by omega)
  have hn2 : 4 < n := by omega
  have hn3 : 5 < n := by omega
  clear hcell
  obtain ⟨a, ha⟩ : ∃ a, a = 8 + wd bs 4 := ⟨_, rfl⟩
  have HWI : Hid (8 + bs.getD 4 0 * 256 + bs.getD 5 0 = (a : Int)) := by show _ = _; omega
  have hab : 8 ≤ a ∧ a ≤ 65543 := by omega
  have HA := Lib.hid ha
  have hal : a ≤ 65535 := by omega
  clear hwi ha hwb f3
  generalize bs.getD 4 0 = u2 at *
  generalize bs.getD 5 0 = u3 at *
  go_cut [7] from 26 to 36 (fun s wx => s = .int .i64 (a : Nat) ∧ Below x3.heap.size x3 wx)
  case first =>
    go_region
    go_wp2_with fail
    go_meet
    case rel => exact ⟨by rw [HWI.out], (Below.refl _ _).drew⟩
  case rest =>
    obtain ⟨rfl, hbl⟩ := hcut
    have W4 : Hid (Below w.heap.size w wc) := W3.out.trans (hbl.mono W3.out.size)
    have B4 := Lib.hid (B3.out.far (Far.of_below hbl nobody) (fun e => e))
    have BB4 := Lib.hid (BB3.out.below hbl)
    clear hbl c2 c3 hn2 hn3 HWI b4 b5 B3 BB3 BB2
    have hd6 : decide ((65535 : Int) < (a : Int)) = false := by simp; omega
    have hd7 : decide (65535 < a) = false := by simp; omega
    have h40c : 40 ≤ c := by omega
    have hcut1 := fun W => run_upto (A := some ad) (n := n) (c := c) (k := 40) W h40c
    have hcut2 : ∀ W, (Instr.slice 22 (.slice (some ad) n c) none (some (.int .i64 40)) none).run Try.prog W = .ok (.slice (some ad) 40 c) W := hcut1
    clear hcut1
    go_upto_region 9 with (fail)
    have HA5 := Lib.hid (H.out.below W4.out)
    have Y6 : Hid (Below wc.heap.size wc (wc.alloc (.cells #[] 5))) := (Below.refl _ _).alloc (Nat.le_refl _) _
    have O6 := Lib.hid (own_new wc wc.heap.size (Nat.le_refl _))
    have hsz : wc.heap.size ≤ (wc.alloc (.cells #[] 5)).heap.size := by simp
    go_upto_region 10 with (first | (at_builtin; refine wpList_app_to rfl (.tmp 39) (.tmp 41) rfl wc.heap.size (.slice (some ⟨wc.heap.size, 0, none⟩) 0 0) 0 [] rfl (by exact O6.out) (some ad) 40 c (bs.take 40) rfl (by exact (HA5.out.below Y6.out).upto (by omega)) 40 (by omega) (bs.take 40) rfl (by omega) (by exact hsz) ?_; intro A7 c7 w7 R7 G7 B7; have Y7 : Hid (Below wc.heap.size wc w7) := Y6.out.grown G7.out Y6.out.size (fun k e => (O6.out.lt k e).1)))
    obtain ⟨g, rfl, hg⟩ := own_some R7.out (by omega)
    have hgl : g < w7.heap.size := (R7.out.lt g rfl).2
    have R8 := Lib.hid (R7.out.alloc (.cells #[.int .u8 0, .int .u8 43, .int .u8 60, .int .u8 44] 5))
    have F8 : Hid (Blk (w7.alloc (.cells #[.int .u8 0, .int .u8 43, .int .u8 60, .int .u8 44] 5)) w7.heap.size 5 (cel [0, 43, 60, 44])) := Blk.new w7 5 (cel [0, 43, 60, 44])
    have Y8 : Hid (Below wc.heap.size wc (w7.alloc (.cells #[.int .u8 0, .int .u8 43, .int .u8 60, .int .u8 44] 5))) := Y7.out.alloc Y7.out.size _
    have hqt : (k : Int) % 4 = ((k % 4 : Nat) : Int) := by omega
    have hk4 : (w7.alloc (.cells #[.int .u8 0, .int .u8 43, .int .u8 60, .int .u8 44] 5)).cell? ⟨w7.heap.size, k % 4, none⟩ = some (.int .u8 (kdOf (k % 4))) := (F8.out.cell _).trans (cel_at _ _ (by simpa using hj4))
    have e4 := (R8.out.cellAt 4 (by omega)).trans (cel_at _ _ (by simp; omega))
    have e5 := (R8.out.cellAt 5 (by omega)).trans (cel_at _ _ (by simp; omega))
    have e6 := (R8.out.cellAt 6 (by omega)).trans (cel_at _ _ (by simp; omega))
    have d4 := (R7.out.cellAt 4 (by omega)).trans (cel_at _ _ (by simp; omega))
    have d5 := (R7.out.cellAt 5 (by omega)).trans (cel_at _ _ (by simp; omega))
    have d6 := (R7.out.cellAt 6 (by omega)).trans (cel_at _ _ (by simp; omega))
    have y4 := R7.out.frozenAt 4
    have y5 := R7.out.frozenAt 5
    have y6 := R7.out.frozenAt 6
    have z4 := R8.out.frozenAt 4
    have z5 := R8.out.frozenAt 5
    have z6 := R8.out.frozenAt 6
    generalize kdOf (k % 4) = kd at *
    generalize k % 4 = j at *
    go_upto_region 11 with (fail)
    have HP0 : Hid (bs.getD 6 0 = bs.getD 6 0) := (rfl : _ = _)
    obtain ⟨p0, hp0⟩ : ∃ p0, bs.getD 6 0 = p0 := ⟨_, rfl⟩
    rw [hp0] at HAH b6
    have hc6 : wc.cell? ⟨ad.block, ad.off + 6, none⟩ = some (.int .u8 p0) := by
      obtain ⟨ad', e, hcell⟩ := HA5.out.2 (by omega)
      cases e
      rw [← hp0]
      simpa [Addr.add] using hcell 6 (by omega)
    clear HP0 hp0
    have R9 : Hid (World.ownsRow ((((w7.setCell ⟨g, 4, none⟩ (.int .u8 ((a : Int) / 256))).setCell ⟨g, 5, none⟩ (.int .u8 ((a : Int) % 256))).setCell ⟨g, 6, none⟩ (.int .u8 kd)).alloc (.cells #[.int .u8 0, .int .u8 43, .int .u8 60, .int .u8 44] 5)) wc.heap.size 5 1 (.slice (some ⟨g, 0, none⟩) 40 c7) 40 (cel (first40 bs kd))) := by
      have := ((((R7.out.stored 4 (.int .u8 ((a : Int) / 256))).1.stored 5 (.int .u8 ((a : Int) % 256))).1.stored 6 (.int .u8 kd)).1).alloc (.cells #[.int .u8 0, .int .u8 43, .int .u8 60, .int .u8 44] 5)
      rw [cel_set, cel_set, cel_set] at this
      rw [HF4.out, ← HA.out]
      exact this
    have Y9 : Hid (Below wc.heap.size wc ((((w7.setCell ⟨g, 4, none⟩ (.int .u8 ((a : Int) / 256))).setCell ⟨g, 5, none⟩ (.int .u8 ((a : Int) % 256))).setCell ⟨g, 6, none⟩ (.int .u8 kd)).alloc (.cells #[.int .u8 0, .int .u8 43, .int .u8 60, .int .u8 44] 5))) := (((Y7.out.setCell (p := ⟨g, 4, none⟩) hg _).setCell (p := ⟨g, 5, none⟩) hg _).setCell (p := ⟨g, 6, none⟩) hg _).alloc (by simpa [World.setCell] using Y7.out.size) _
    generalize (((w7.setCell ⟨g, 4, none⟩ (.int .u8 ((a : Int) / 256))).setCell ⟨g, 5, none⟩ (.int .u8 ((a : Int) % 256))).setCell ⟨g, 6, none⟩ (.int .u8 kd)).alloc (.cells #[.int .u8 0, .int .u8 43, .int .u8 60, .int .u8 44] 5) = w9 at *
    clear hk4 e4 e5 e6 z4 z5 z6 d4 d5 d6 y4 y5 y6 R7 G7 B7 R8 F8 Y6 Y7 Y8 O6 hsz hgl hqt HF4 hcut2
    obtain ⟨Z, hcut, hz⟩ := from_z (A := some ad) (bs := bs) (show 40 ≤ n by omega) hc
    have hcut4 : ∀ W, (Instr.slice 22 (.slice (some ad) n c) (some (.int .i64 40)) none none).run Try.prog W = .ok (.slice Z (n - 40) (c - 40)) W := hcut
    have HZ := Lib.hid hz
    have hn6 : (6 : Int) < (n : Int) := by omega
    clear hcut hz
    have D0 : Hid (Below wc.heap.size wc w9.drew) := Y9.out.drew
    refine wp_region_noPanic ?_
    refine wp_region_held_drew (S := fun W => W.cell? ⟨ad.block, ad.off + 6, none⟩ = some (.int .u8 p0)) (by kernel_rfl) ?_ (fun hHeld => ?_)
    · exact keep9 D0.out hc6
    refine wpAnyH_take (i := 0) (oi := ⟨some 59, _, _, _, _, _⟩) (v := ?_) rfl (by kernel_rfl) (by kernel_rfl) (by kernel_rfl) (fun _ _ _ h => h) (Or.inl ⟨by rfl, ?_⟩) (by assumption) ?_
    rotate_left
    · (intro w hSw; (try dsimp only at hSw); go_simp)
      first | done | (with_reducible rfl)
    try simp only [Act.put, List.setIfInBounds_toArray, List.set_cons_zero, List.set_cons_succ]
    refine wpAnyH_take (i := 1) (oi := ⟨some 60, _, _, _, _, _⟩) (v := ?_) rfl (by kernel_rfl) (by kernel_rfl) (by kernel_rfl) (fun _ _ _ h => h) (Or.inl ⟨by rfl, ?_⟩) (by assumption) ?_
    rotate_left
    · (intro w hSw; (try dsimp only at hSw); go_simp)
      first | done | (with_reducible rfl)
    try simp only [Act.put, List.setIfInBounds_toArray, List.set_cons_zero, List.set_cons_succ]
    refine wpAnyH_take (i := 2) (oi := ⟨some 61, _, _, _, _, _⟩) (v := ?_) rfl (by kernel_rfl) (by kernel_rfl) (by kernel_rfl) (fun _ _ _ h => h) (Or.inl ⟨by rfl, ?_⟩) (by assumption) ?_
    rotate_left
    · (intro w hSw; (try dsimp only at hSw); go_simp)
      first | done | (with_reducible rfl)
    try simp only [Act.put, List.setIfInBounds_toArray, List.set_cons_zero, List.set_cons_succ]
    refine wpAnyH_take (i := 3) (oi := ⟨some 62, _, _, _, _, _⟩) (v := ?_) rfl (by kernel_rfl) (by kernel_rfl) (by kernel_rfl) (fun _ _ _ h => h) (Or.inl ⟨by rfl, ?_⟩) (by assumption) ?_
    rotate_left
    · (intro w hSw; (try dsimp only at hSw); go_simp)
      first | done | (with_reducible rfl)
    try simp only [Act.put, List.setIfInBounds_toArray, List.set_cons_zero, List.set_cons_succ]
    refine wpAnyH_take (i := 6) (oi := ⟨some 65, _, _, _, _, _⟩) (v := ?_) rfl (by kernel_rfl) (by kernel_rfl) (by kernel_rfl) (fun _ _ _ h => h) (Or.inl ⟨by rfl, ?_⟩) (by assumption) ?_
    rotate_left
    · (intro w hSw; (try dsimp only at hSw); go_simp)
      first | done | (with_reducible rfl)
    try simp only [Act.put, List.setIfInBounds_toArray, List.set_cons_zero, List.set_cons_succ]
    refine wpAnyH_take (i := 7) (oi := ⟨some 66, _, _, _, _, _⟩) (v := .slice Z (n - 40) (c - 40)) rfl (by kernel_rfl) (by kernel_rfl) (by kernel_rfl) (fun _ _ _ h => h) (Or.inl ⟨by rfl, ?_⟩) (by assumption) ?_
    · (intro w hSw; (try dsimp only at hSw); go_simp)
    try simp only [Act.put, List.setIfInBounds_toArray, List.set_cons_zero, List.set_cons_succ]
    refine wpAnyH_ready (rs := [4]) (by kernel_rfl) (by simp) ?_
    refine AllReadyH.cons (o := ⟨some 63, _, _, _, _, _⟩) rfl (fun K hK => ?_) (AllReadyH.nil)
    go_simp
    have Y10 : Hid (Below wc.heap.size wc ((w9.alloc (.cells #[.int .u8 p0, .int .u8 0, .int .u8 0, .int .u8 0, .int .u8 0, .int .u8 0, .int .u8 0, .int .u8 0] 5)).drew)) := D0.out.alloc D0.out.size _
    have E10 : Hid (Blk ((w9.alloc (.cells #[.int .u8 p0, .int .u8 0, .int .u8 0, .int .u8 0, .int .u8 0, .int .u8 0, .int .u8 0, .int .u8 0] 5)).drew) w9.heap.size 5 (cel (eight p0))) := Blk.new w9.drew 5 (cel (eight p0))
    have R10 : Hid (World.ownsRow ((w9.alloc (.cells #[.int .u8 p0, .int .u8 0, .int .u8 0, .int .u8 0, .int .u8 0, .int .u8 0, .int .u8 0, .int .u8 0] 5)).drew) wc.heap.size 5 1 (.slice (some ⟨g, 0, none⟩) 40 c7) 40 (cel (first40 bs kd))) := R9.out.alloc _
    refine hK.out _ _ ?_ (fun hHeld => ?_)
    · exact keep9 Y10.out hc6
    clear hK K
    try simp only [Act.put, List.setIfInBounds_toArray, List.set_cons_zero, List.set_cons_succ]
    generalize ((w9.alloc (.cells #[.int .u8 p0, .int .u8 0, .int .u8 0, .int .u8 0, .int .u8 0, .int .u8 0, .int .u8 0, .int .u8 0] 5)).drew) = w10 at *
    refine wpAnyH_ready (rs := [5]) (by kernel_rfl) (by simp) ?_
    refine AllReadyH.cons (o := ⟨some 64, _, _, _, _, _⟩) rfl (fun K hK => ?_) (AllReadyH.nil)
    refine step_app (by rfl) (.tmp 59) (.tmp 63) (by rfl) wc.heap.size (.slice (some ⟨g, 0, none⟩) 40 c7) 40 (first40 bs kd) (by rfl) R10.out (some ⟨w9.heap.size, 0, none⟩) 8 8 (eight p0) (by rfl) (Byts.of_all E10.out rfl) 48 rfl (first40 bs kd ++ eight p0) rfl (by omega) Y10.out.size ?_
    intro A11 c11 w11 R11 G11
    have Y11 : Hid (Below wc.heap.size wc w11) := Y10.out.grown G11.out Y10.out.size (fun k e => (R10.out.lt k e).1)
    refine hK.out _ _ ?_ (fun hHeld => ?_)
    · exact keep9 Y11.out hc6
    clear hK K
    try simp only [Act.put, List.setIfInBounds_toArray, List.set_cons_zero, List.set_cons_succ]
    refine wpAnyH_ready (rs := [8]) (by kernel_rfl) (by simp) ?_
    refine AllReadyH.cons (o := ⟨some 67, _, _, _, _, _⟩) rfl (fun K hK => ?_) (AllReadyH.nil)
    refine step_app (by rfl) (.tmp 64) (.tmp 66) (by rfl) wc.heap.size (.slice A11 48 c11) 48 (first40 bs kd ++ eight p0) (by rfl) R11.out Z (n - 40) (c - 40) (bs.drop 40) (by rfl) (HZ.out _ (HA5.out.below Y11.out)) (n + 8) (by omega) (ahead bs kd) HAH.out (by omega) Y11.out.size ?_
    intro A12 c12 w12 R12 G12
    have Y12 : Hid (Below wc.heap.size wc w12) := Y11.out.grown G12.out Y11.out.size (fun k e => (R11.out.lt k e).1)
    refine hK.out _ _ ?_ (fun hHeld => ?_)
    · exact keep9 Y12.out hc6
    clear hK K
    try simp only [Act.put, List.setIfInBounds_toArray, List.set_cons_zero, List.set_cons_succ]
    refine wpAnyH_take (i := 9) (oi := ⟨some 8, _, _, _, _, _⟩) (v := .slice A12 (n + 8) c12) rfl (by kernel_rfl) (by kernel_rfl) (by kernel_rfl) (fun _ _ _ h => h) (Or.inl ⟨by rfl, ?_⟩) (by assumption) ?_
    · (intro w hSw; (try dsimp only at hSw); go_simp)
    try simp only [Act.put, List.setIfInBounds_toArray, List.set_cons_zero, List.set_cons_succ]
    refine wpAnyH_done (by kernel_rfl) ?_ _
    refine NoPanic.normal ?_
    have HB12 := Lib.hid (Byts.of_own R12.out)
    have hc12 := own_cap R12.out
    have L5 := Lib.hid (B4.out.far (Far.of_below Y12.out nobody) (fun e => e))
    have M5 := Lib.hid (BB4.out.below Y12.out)
    have W12 : Hid (Below w.heap.size w w12) := W4.out.trans (Y12.out.mono W4.out.size)
    clear hc6 hcut4 HZ HA5 hn6 R12 G12 R11 G11 Y11 HAH
    rcases HTL.out with hT | hT
    · have HT := Lib.hid hT
      clear hT HTL
      go_wp2_with (first | (go_at_call 8; (with_reducible refine (parse_as A12 (n + 8) c12 0 q bs (ahead bs kd) ks f _ HB12.out HOA.out (by omega) hc12 HT.out HSR.out HDS.out).mono ?_); rintro e x9 ⟨A9, c9, rfl, hb, hbod⟩; have V9 : Hid (Below w.heap.size w x9) := W12.out.trans (hb.mono W12.out.size); have L9 := Lib.hid (L5.out.far (Far.of_below hb nobody) (fun e => e)); have M9 := Lib.hid (M5.out.below hb); have N9 := Lib.hid hbod; clear hb hbod) | (refine wpList_var26 rfl (.tmp 9) (.tmp 71) rfl x9 (net q (sr bs 0) (ds bs 0) (.slice A9 ks.length c9) f) rfl rfl (LV.out _) (net_one rfl) ?_; intro y9 C9 hb9; have U9 : Hid (Below w.heap.size w y9) := V9.out.trans (hb9.out.mono V9.out.size); have LL := Lib.hid (L9.out.far (Far.of_below hb9.out nobody) (fun e => e)); have MM := Lib.hid (M9.out.below hb9.out); have NN := Lib.hid (N9.out.below hb9.out); clear hb9) | (refine wpList_whole26 (by rfl) (.tmp 9) rfl x9.heap.size rfl (net q (sr bs 0) (ds bs 0) (.slice A9 ks.length c9) f) C9.out (LV.out _) ?_) | (refine wpList_whole26 (by rfl) (.tmp 5) rfl x2.heap.size rfl (net q (sr bs 0) (ds bs 0) (.slice A1 ks.length c1) f) LL.out (LV.out _) ?_) | (go_at_call 10; (with_reducible refine (same_any q (sr bs 0) (ds bs 0) ks A9 A1 ks.length c9 c1 f _ S1.out S2.out NN.out.byts MM.out.byts).mono ?_); rintro e z9 ⟨rfl, hb⟩; have Z9 : Hid (Below w.heap.size w z9) := U9.out.trans (hb.mono U9.out.size); clear hb))
      go_ret
      exact ⟨rfl, Z9.out⟩
    · have HT := Lib.hid hT
      have LV2 : Hid (∀ B, (net 0 (sr (ahead bs kd) 6) (ds (ahead bs kd) 6) B false).length = 35) := fun _ => parn_length hT
      clear hT HTL
      go_wp2_with (first | (go_at_call 8; (with_reducible refine (parse_b A12 (n + 8) c12 6 0 (ahead bs kd) [] false _ HB12.out HOA.out (by omega) hc12 HT.out 0 rfl).mono ?_); rintro e x9 ⟨A9, c9, rfl, hb, _⟩; have V9 : Hid (Below w.heap.size w x9) := W12.out.trans (hb.mono W12.out.size); clear hb) | (refine wpList_var26 rfl (.tmp 9) (.tmp 71) rfl x9 (net 0 (sr (ahead bs kd) 6) (ds (ahead bs kd) 6) (.slice A9 0 c9) false) rfl rfl (LV2.out _) (net_one rfl) ?_; intro y9 C9 hb9; have U9 : Hid (Below w.heap.size w y9) := V9.out.trans (hb9.out.mono V9.out.size); clear hb9))
      go_ret
      exact ⟨rfl, U9.out⟩

theorem heads_near (A : Option Addr) (n c k : Nat) (bs : List Int) (w : World) (h : Byts w A n bs) (ho : Octs bs) (hc : n ≤ c) (hn : n ≤ 2000) (hk : k ≤ 255) : Calls Try.prog 4 #[.slice A n c, .int .u8 (k : Nat)] w fun e w' => e = .returned (.bool true) ∧ Below w.heap.size w w' := by
  obtain ⟨⟨r, q, ks, f⟩, hR⟩ : ∃ R, tel bs = R := ⟨_, rfl⟩
  by_cases h0 : r = 0
  · subst h0
    by_cases hb : 65535 < 8 + wd bs 4
    · exact heads_big A n c k bs w h ho hc hn q ks f hR hb
    · exact heads_ok A n c k bs w h ho hc hn hk q ks f hR (by omega)
  · exact heads_no A n c k bs w h ho hc hn r q ks f hR h0
end Go.Proofs.Ytmpkbggnopcajaa
