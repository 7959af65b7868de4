/- The walk of the law InetBodies: for any body, protocol, bytes behind and bit it returns true and turns nothing that was there. -/
import Derived.Test.YtebbpipokdmkkaaTurn
namespace Go.Proofs.Ytebbpipokdmkkaa
open Go.RowKit

/-- A block of bytes whose first ones are bs. -/
def RowAt (w : World) (g n : Nat) (bs : List Int) : Prop := bs.length = n ∧ ∃ cs, Blk w g 5 cs ∧ ∀ k, k < n → cs[k]? = some (.int .u8 (bs.getD k 0))
theorem RowAt.of_own {w : World} {base : Nat} {A : Option Addr} {n c : Nat} {bs : List Int} (h : w.ownsRow base 5 1 (.slice A n c) n (cel bs)) (h0 : 0 < n) : ∃ g, A = some ⟨g, 0, none⟩ ∧ base ≤ g ∧ RowAt w g n bs := by
  have hb := Byts.of_own h
  rcases h.2 with ⟨e, e0⟩ | ⟨g, cap, cur, e, hbase, hg, _⟩
  · cases e
    omega
  · cases e
    have hbk : Blk w g 5 cur.toList := by
      unfold Blk
      rw [hg]
    refine ⟨g, rfl, hbase, hb.1, cur.toList, hbk, fun j hj => ?_⟩
    obtain ⟨ad, e, hc⟩ := hb.2 h0
    cases e
    have := hc j hj
    rwa [Addr.add_at, hbk.cell, Nat.zero_add] at this
theorem RowAt.byts {w : World} {g n : Nat} {bs : List Int} (h : RowAt w g n bs) : Byts w (some ⟨g, 0, none⟩) n bs := by
  obtain ⟨hl, cs, hb, hc⟩ := h
  refine ⟨hl, fun _ => ⟨_, rfl, fun k hk => ?_⟩⟩
  rw [Addr.add_at, hb.cell, Nat.zero_add]
  exact hc k hk
theorem RowAt.far {S : Nat → Prop} {w w' : World} {g n : Nat} {bs : List Int} (h : RowAt w g n bs) (hf : Far S w w') (hn : ¬ S g) : RowAt w' g n bs := by
  obtain ⟨hl, cs, hb, hc⟩ := h
  exact ⟨hl, cs, hb.far hf hn, hc⟩
theorem RowAt.set_ {w : World} {g n j : Nat} {bs : List Int} (h : RowAt w g n bs) (hj : j < n) (y : Int) : RowAt (w.setCell ⟨g, j, none⟩ (.int .u8 y)) g n (bs.set j y) := by
  obtain ⟨hl, cs, hb, hc⟩ := h
  refine ⟨by simpa using hl, _, hb.set_ j _, fun k hk => ?_⟩
  by_cases e : j = k
  · subst e
    rw [List.getElem?_set_self (List.getElem?_eq_some_iff.1 (hc j hj)).1, getD_set_self (by omega)]
  · rw [List.getElem?_set_ne e, hc k hk, getD_set_ne (fun e' => e e'.symm)]
theorem RowAt.cell {w : World} {g n j : Nat} {bs : List Int} (h : RowAt w g n bs) (hj : j < n) : w.cell? ⟨g, j, none⟩ = some (.int .u8 (bs.getD j 0)) ∧ w.frozen? ⟨g, j, none⟩ = false := by
  obtain ⟨hl, cs, hb, hc⟩ := h
  exact ⟨(hb.cell j).trans (hc j hj), hb.frozen j⟩

set_option maxHeartbeats 1000000 in
theorem bodies_far (A B : Option Addr) (n c m d : Nat) (p q : Int) (w : World) (hn : 300 < n ∨ 100 < m) : Calls Try.prog 4 #[.slice A n c, .int .u8 p, .slice B m d, .int .u8 q] w fun e w' => e = .returned (.bool true) ∧ Below w.heap.size w w' := by
  by_cases h : 300 < n
  · have hd : decide ((300 : Int) < (n : Int)) = true := by simp; omega
    have hd2 : decide (300 < n) = true := by simpa using h
    go_enter Try.func4, Try.ntmps4
    go_wp2_with fail
    refine (awake_any _).mono ?_
    rintro e w1 ⟨rfl, hb⟩
    have HB := Lib.hid hb
    clear hb
    go_wp2_with fail
    refine (awake_any _).mono ?_
    rintro e w2 ⟨rfl, hb⟩
    have HC := Lib.hid hb
    clear hb
    go_wp2
    go_ret
    exact ⟨rfl, HB.out.trans (HC.out.mono HB.out.size)⟩
  · have hd : decide ((300 : Int) < (n : Int)) = false := by simp; omega
    have hd2 : decide (300 < n) = false := by simpa using h
    have hd3 : decide ((100 : Int) < (m : Int)) = true := by simp; omega
    have hd4 : decide (100 < m) = true := by simp; omega
    go_enter Try.func4, Try.ntmps4
    go_wp2_with fail
    refine (awake_any _).mono ?_
    rintro e w1 ⟨rfl, hb⟩
    have HB := Lib.hid hb
    clear hb
    go_wp2_with fail
    refine (awake_any _).mono ?_
    rintro e w2 ⟨rfl, hb⟩
    have HC := Lib.hid hb
    clear hb
    go_wp2
    go_ret
    exact ⟨rfl, HB.out.trans (HC.out.mono HB.out.size)⟩

set_option maxRecDepth 100000 in
set_option maxHeartbeats 4000000 in
theorem bodies_near (A B : Option Addr) (n c m d : Nat) (p : Int) (q : Nat) (ds ms : List Int) (w : World) (h : Byts w A n ds) (ho : Octs ds) (h' : Byts w B m ms) (ho' : Octs ms) (hn : n ≤ 300) (hm : m ≤ 100) (p0 : 0 ≤ p) (p1 : p ≤ 255) (hq : q ≤ 255) :
    Calls Try.prog 4 #[.slice A n c, .int .u8 p, .slice B m d, .int .u8 (q : Nat)] w fun e w' => e = .returned (.bool true) ∧ Below w.heap.size w w' := by
  have hd : decide ((300 : Int) < (n : Int)) = false := by simp; omega
  have hd2 : decide (300 < n) = false := by simp; omega
  have hd3 : decide ((100 : Int) < (m : Int)) = false := by simp; omega
  have hd4 : decide (100 < m) = false := by simp; omega
  obtain ⟨r1, r2, r3, r4, r5⟩ := right_why (p := p) (ds := ds) (ms := ms) (m := n) p0 p1 (by omega) h.1
  have HTW : Hid (∀ t, 4 ≤ t → t < 160 → why (turn (rhead p n ++ ds ++ ms) t) ≠ 0) := fun t h4 ht => turn_wrong p0 p1 (by omega) h4 ht
  have HOR : Hid (Octs (rhead p n ++ ds ++ ms)) := ((rhead_octs n p0 p1).app ho).app ho'
  have HLR : Hid ((rhead p n ++ ds ++ ms).length = 20 + n + m) := by show _ = _; simp [rhead_length, h.1, h'.1, Nat.add_assoc]
  obtain ⟨bs, hbs⟩ : ∃ bs, rhead p n ++ ds ++ ms = bs := ⟨_, rfl⟩
  rw [hbs] at r1 r2 r3 r4 r5 HOR HLR HTW
  have HBS := Lib.hid hbs
  have HR1 := Lib.hid r1
  have HR2 := Lib.hid r2
  have HR3 := Lib.hid r3
  have HR4 := Lib.hid r4
  have HR5 := Lib.hid r5
  have H := Lib.hid h
  have H' := Lib.hid h'
  clear h ho h' ho' r1 r2 r3 r4 r5 hbs
  obtain ⟨t, htq⟩ : ∃ t, q % 160 = t := ⟨_, rfl⟩
  have hqt : (q : Int) % 160 = (t : Int) := by omega
  have ht : t < 160 := by omega
  clear htq
  go_enter Try.func4, Try.ntmps4
  go_upto_region 5 with (first | (go_at_call 7; (with_reducible refine (awake_any _).mono ?_); rintro e x0 ⟨rfl, hb⟩; have W0 := Lib.hid hb; clear hb) | (go_at_call 11; (with_reducible refine (head_any p A n c ds _ (H.out.below W0.out) p0 p1 (by omega)).mono ?_); rintro e x1 ⟨A1, c1, rfl, ho1, hb1⟩; have W1 : Hid (Below w.heap.size w x1) := W0.out.trans (hb1.mono W0.out.size); have T1 := Lib.hid hb1.size; have O1 := Lib.hid ho1; clear ho1 hb1) | (at_builtin; refine wpList_app_to rfl (.tmp 30) (.tmp 31) rfl x0.heap.size (.slice A1 (20 + n) c1) (20 + n) (rhead p n ++ ds) rfl (by exact O1.out) B m d ms rfl (by exact H'.out.below W1.out) (20 + n + m) rfl bs HBS.out (by omega) (by exact T1.out) ?_; intro A2 c2 x2 R2 G2 B2; have W2 : Hid (Below w.heap.size w x2) := W1.out.grown G2.out W1.out.size (fun k e => Nat.le_trans W0.out.size (O1.out.lt k e).1)) | (go_at_call 8; (with_reducible refine (parse_ok A2 (20 + n + m) c2 bs x2 (Byts.of_own R2.out) HOR.out (by omega) (own_cap R2.out) HR1.out).mono ?_); rintro e x3 ⟨gb, rfl, hb3, hg3, hbk⟩; have W3 : Hid (Below w.heap.size w x3) := W2.out.trans (hb3.mono W2.out.size); have T3 := Lib.hid hb3; have BB3 := Lib.hid hbk; clear hb3 hbk) | (refine wpList_var26 rfl (.tmp 10) (.tmp 36) rfl x3 (toldV bs (.slice (some ⟨gb, 0, none⟩) (much bs) (much bs))) rfl rfl (told_length (by have := HLR.out; omega)) (net_one rfl) ?_; intro x4 B4 hb4; have W4 : Hid (Below w.heap.size w x4) := W3.out.trans (hb4.out.mono W3.out.size); have BB4 := Lib.hid (BB3.out.far (Far.of_below hb4.out nobody) (fun e => e)); have T4 := Lib.hid (T3.out.trans (hb4.out.mono T3.out.size)); clear hb4))
  have k0 : x4.cell? ⟨x3.heap.size, 0, none⟩ = some (.int .u8 p) := ((B4.out.cell 0).trans told_0).trans (by rw [HR3.out])
  have k3 : x4.cell? ⟨x3.heap.size, 33, none⟩ = some (.slice (some ⟨gb, 0, none⟩) n n) := ((B4.out.cell 33).trans (told_33 (by have := HLR.out; omega))).trans (by rw [HR5.out])
  have k4 : x4.cell? ⟨x3.heap.size, 34, none⟩ = some (.bool true) := ((B4.out.cell 34).trans (told_34 (by have := HLR.out; omega))).trans (by rw [HR4.out])
  have t1 := run_text (P := Try.prog) x4 22 5 9 (some ⟨gb, 0, none⟩) n n ds Try.underlying22 Try.underlying5 Try.underlying9 (Byts.of_all (by rw [← HR2.out]; exact BB4.out) H.out.1)
  have t2 := run_text (P := Try.prog) x4 22 5 9 A n c ds Try.underlying22 Try.underlying5 Try.underlying9 (H.out.below W4.out)
  obtain ⟨g, rfl, hgb, hrow⟩ := RowAt.of_own R2.out (by omega)
  have hc2 := own_cap R2.out
  have RW4 := Lib.hid (hrow.far (Far.of_below T4.out nobody) (fun e => e))
  have hgw : w.heap.size ≤ g := Nat.le_trans W0.out.size hgb
  clear hrow R2 G2 B2 O1
  by_cases h4 : t < 4
  · have hd5 : decide ((t : Int) < 4) = true := by simp; omega
    go_wp2
    go_ret
    exact ⟨rfl, W4.out⟩
  · have hd5 : decide ((t : Int) < 4) = false := by simp; omega
    have HT := Lib.hid (HTW.out t (by omega) ht)
    go_upto_region 10 with (fail)
    clear k0 k3 k4 t1 t2 HTW B4 BB4
    have hj : t / 8 < 20 + n + m := by omega
    obtain ⟨e1, e2⟩ := RW4.out.cell hj
    have q1 : (t : Int).tdiv 8 = ((t / 8 : Nat) : Int) := by rw [Int.tdiv_eq_ediv_of_nonneg (by omega)]; omega
    have q2 : (t : Int).tmod 8 = ((t % 8 : Nat) : Int) := by rw [Int.tmod_eq_emod_of_nonneg (by omega)]; omega
    have q3 : (t : Int) / 8 = ((t / 8 : Nat) : Int) := by omega
    have q4 : (t : Int) % 8 = ((t % 8 : Nat) : Int) := by omega
    have b8 := HOR.out.at_ (t / 8)
    have HTU : Hid (turn bs t = bs.set (t / 8) ((((bs.getD (t / 8) 0).toNat ^^^ 2 ^ (t % 8) : Nat)) : Int)) := (rfl : _ = _)
    have HOT := Lib.hid (turn_octs HOR.out t)
    have hrv := why_vals HT.out
    obtain ⟨r, hr⟩ : ∃ r, why (turn bs t) = r := ⟨_, rfl⟩
    rw [hr] at hrv
    have HRR := Lib.hid hr
    have HRV := Lib.hid hrv
    clear hr hrv
    generalize bs.getD (t / 8) 0 = u at *
    generalize t / 8 = j at *
    have hb7 : t % 8 < 8 := by omega
    generalize t % 8 = b at *
    have HX : Hid (bits .xor .u8 u (2 ^ b % 256) = ((u.toNat ^^^ 2 ^ b : Nat) : Int)) := by
      have hp := pow_bd b hb7
      have e : ((2 : Int) ^ b % 256) = ((2 ^ b : Nat) : Int) := by
        have : ((2 : Int) ^ b) = ((2 ^ b : Nat) : Int) := by simp
        rw [this]
        omega
      show _ = _
      rw [e, u8_xor u _ (by omega) (by omega) (by omega) (by omega), Int.toNat_natCast]
    go_region
    rw [HX.out]
    have RW5 : Hid (RowAt (x4.setCell ⟨g, j, none⟩ (.int .u8 ((u.toNat ^^^ 2 ^ b : Nat) : Int))).drew g (20 + n + m) (turn bs t)) := by
      rw [HTU.out]
      exact RW4.out.set_ hj _
    have W5 : Hid (Below w.heap.size w (x4.setCell ⟨g, j, none⟩ (.int .u8 ((u.toNat ^^^ 2 ^ b : Nat) : Int))).drew) := (W4.out.setCell (p := ⟨g, j, none⟩) hgw _).drew
    generalize (x4.setCell ⟨g, j, none⟩ (.int .u8 ((u.toNat ^^^ 2 ^ b : Nat) : Int))).drew = w5 at *
    clear q1 q2 q3 q4 e1 e2 HX HTU RW4
    go_upto_region 12 with (first | (go_at_call 8; (with_reducible refine (parse_no (some ⟨g, 0, none⟩) (20 + n + m) c2 r (turn bs t) _ RW5.out.byts HOT.out (by omega) hc2 HRR.out (by have := HRV.out; omega)).mono ?_); rintro e x6 ⟨rfl, hb⟩; have W6 : Hid (Below w.heap.size w x6) := W5.out.trans (hb.mono W5.out.size); clear hb) | (refine wpList_var26 rfl (.tmp 13) (.tmp 80) rfl x6 (net 0 zz zz (.slice none 0 0) false) rfl rfl (net_length zz_sixteen zz_sixteen) (net_one rfl) ?_; intro x7 _ hb7; have W7 : Hid (Below w.heap.size w x7) := W6.out.trans (hb7.out.mono W6.out.size); clear hb7))
    rcases HRV.out with rfl | rfl | rfl | rfl
    all_goals
      go_wp2
      go_ret
      exact ⟨rfl, W7.out⟩
end Go.Proofs.Ytebbpipokdmkkaa
