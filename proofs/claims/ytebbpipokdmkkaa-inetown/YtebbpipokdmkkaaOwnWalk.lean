/- The walk of the law InetOwn: for any bytes as a body it returns true and turns nothing that was there. -/
import Derived.Test.YtebbpipokdmkkaaAwake
namespace Go.Proofs.Ytebbpipokdmkkaa
open Go.RowKit

/-- An own row that isn't empty, as a block. -/
theorem own_open {w : World} {base : Nat} {A : Option Addr} {n c : Nat} {bs : List Int} (h : w.ownsRow base 5 1 (.slice A n c) n (cel bs)) (h0 : 0 < n) :
    ∃ g cs, A = some ⟨g, 0, none⟩ ∧ base ≤ g ∧ Blk w g 5 cs ∧ ∀ j, j < n → ∃ z, cs[j]? = some (.int .u8 z) := by
  have hb := Byts.of_own h
  rcases h.2 with ⟨e, e0⟩ | ⟨g, cap, cur, e, hbase, hg, _⟩
  · cases e
    omega
  · cases e
    have hbk : Blk w g 5 cur.toList := by
      unfold Blk
      rw [hg]
    refine ⟨g, cur.toList, rfl, hbase, hbk, fun j hj => ?_⟩
    obtain ⟨ad, e, hc⟩ := hb.2 h0
    cases e
    have := hc j hj
    rw [Addr.add_at, hbk.cell, Nat.zero_add] at this
    exact ⟨_, this⟩
/-- Where the turning of the row's bytes stands. -/
def Turned (x : World) (g n : Nat) (w' : World) : Prop := (∃ cs, Blk w' g 5 cs ∧ ∀ j, j < n → ∃ z, cs[j]? = some (.int .u8 z)) ∧ Far (only g) x w'
theorem Turned.set_ {x w' : World} {g n k : Nat} (h : Turned x g n w') (u : Int) : Turned x g n (w'.setCell ⟨g, k, none⟩ (.int .u8 u)) := by
  obtain ⟨⟨cs, hb, hc⟩, hf⟩ := h
  refine ⟨⟨_, hb.set_ k _, fun j hj => ?_⟩, hf.set_ (p := ⟨g, k, none⟩) (fun _ => rfl) _⟩
  obtain ⟨z, hz⟩ := hc j hj
  by_cases e : k = j
  · subst e
    rw [List.getElem?_set_self (List.getElem?_eq_some_iff.1 hz).1]
    exact ⟨_, rfl⟩
  · rw [List.getElem?_set_ne e]
    exact ⟨z, hz⟩

set_option maxHeartbeats 1000000 in
theorem own_far (A : Option Addr) (n c : Nat) (w : World) (hn : 200 < n) : Calls Try.prog 6 #[.slice A n c] w fun e w' => e = .returned (.bool true) ∧ Below w.heap.size w w' := by
  have hd : decide ((200 : Int) < (n : Int)) = true := by simp; omega
  have hd2 : decide (200 < n) = true := by simpa using hn
  go_enter Try.func6, Try.ntmps6
  go_wp2_with fail
  refine (awake_any _).mono ?_
  rintro e w1 ⟨rfl, hb⟩
  have HB := Lib.hid hb
  clear hb
  go_wp2_with fail
  refine (awake_any _).mono ?_
  rintro e w2 ⟨rfl, hb⟩
  have HC := Lib.hid hb
  clear hb
  go_wp2
  go_ret
  exact ⟨rfl, HB.out.trans (HC.out.mono HB.out.size)⟩

set_option maxRecDepth 100000 in
set_option maxHeartbeats 4000000 in
theorem own_near (A : Option Addr) (n c : Nat) (ds : List Int) (w : World) (h : Byts w A n ds) (ho : Octs ds) (hn : n ≤ 200) : Calls Try.prog 6 #[.slice A n c] w fun e w' => e = .returned (.bool true) ∧ Below w.heap.size w w' := by
  have hd : decide ((200 : Int) < (n : Int)) = false := by simp; omega
  have hd2 : decide (200 < n) = false := by simp; omega
  obtain ⟨r1, r2, r3, r4, r5⟩ := right_why (p := 17) (ds := ds) (ms := []) (m := n) (by omega) (by omega) (by omega) h.1
  rw [List.append_nil] at r1 r2 r3 r4 r5
  have HOR : Hid (Octs (rhead 17 n ++ ds)) := (rhead_octs n (by omega) (by omega)).app ho
  have HLR : Hid ((rhead 17 n ++ ds).length = 20 + n) := by show _ = _; simp [rhead_length, h.1]
  obtain ⟨bs, hbs⟩ : ∃ bs, rhead 17 n ++ ds = bs := ⟨_, rfl⟩
  rw [hbs] at r1 r2 r3 r4 r5 HOR HLR
  have HBS := Lib.hid hbs
  have HR1 := Lib.hid r1
  have HR2 := Lib.hid r2
  have HR5 := Lib.hid r5
  have H := Lib.hid h
  clear h ho r1 r2 r3 r4 r5 hbs
  go_enter Try.func6, Try.ntmps6
  go_upto_region 5 with (first | (go_at_call 7; (with_reducible refine (awake_any _).mono ?_); rintro e x0 ⟨rfl, hb⟩; have W0 := Lib.hid hb; clear hb) | (go_at_call 11; (with_reducible refine (head_any 17 A n c ds _ (H.out.below W0.out) (by omega) (by omega) (by omega)).mono ?_); rintro e x1 ⟨A1, c1, rfl, ho1, hb1⟩; have W1 : Hid (Below w.heap.size w x1) := W0.out.trans (hb1.mono W0.out.size); rw [HBS.out] at ho1; have O1 := Lib.hid ho1; clear ho1 hb1) | (go_at_call 8; (with_reducible refine (parse_ok A1 (20 + n) c1 bs x1 (Byts.of_own O1.out) HOR.out (by omega) (own_cap O1.out) HR1.out).mono ?_); rintro e x2 ⟨gb, rfl, hb2, hg2, hbk⟩; have W2 : Hid (Below w.heap.size w x2) := W1.out.trans (hb2.mono W1.out.size); have T2 := Lib.hid hb2; have BB2 := Lib.hid hbk; clear hb2 hbk) | (refine wpList_var26 rfl (.tmp 4) (.tmp 20) rfl x2 (toldV bs (.slice (some ⟨gb, 0, none⟩) (much bs) (much bs))) rfl rfl (told_length (by have := HLR.out; omega)) (net_one rfl) ?_; intro x3 B3 hb3; have W3 : Hid (Below w.heap.size w x3) := W2.out.trans (hb3.out.mono W2.out.size); have BB3 := Lib.hid (BB2.out.far (Far.of_below hb3.out nobody) (fun e => e)); have T3 := Lib.hid (T2.out.trans (hb3.out.mono T2.out.size)); clear hb3))
  obtain ⟨g, cs, rfl, hbase, hbk, hcs⟩ := own_open O1.out (by omega)
  have hgl := hbk.lt
  have R3 : Hid (Turned x3 g (20 + n) x3) := ⟨⟨cs, hbk.far (Far.of_below T3.out nobody) (fun e => e), hcs⟩, Far.refl _ _⟩
  have hgw : w.heap.size ≤ g := Nat.le_trans W0.out.size hbase
  have hgne : gb ≠ g := by omega
  have hGne : x2.heap.size ≠ g := by have := T2.out.size; omega
  clear hbk hcs O1
  go_wp2_with fail
  go_loopw [6, 24] (fun _ y w' => ∃ k : Nat, y = .int .i64 (k : Nat) ∧ k ≤ 20 + n ∧ Turned x3 g (20 + n) w') (fun _ y _ => 20 + n - (intOf y).toNat)
  case atStart => exact ⟨0, rfl, by omega, R3.out⟩
  case round =>
    obtain ⟨k, rfl, hk, hrel⟩ := hrel
    have R4 := Lib.hid hrel
    clear hrel R3
    by_cases hlt : k < 20 + n
    · have hd5 : decide ((k : Int) < 20 + (n : Int)) = true := by simp; omega
      obtain ⟨⟨cs, hbk, hcs⟩, _⟩ := R4.out
      obtain ⟨z, hz⟩ := hcs k hlt
      have k1 : wr.cell? ⟨g, k, none⟩ = some (.int .u8 z) := (hbk.cell k).trans hz
      have g1 := hbk.frozen k
      clear hbk hcs hz
      go_wp2
      go_roundw
      case rel => exact ⟨k + 1, by go_num, by omega, R4.out.set_ _⟩
      case measure => simp [intOf]; omega
    · have hd5 : decide ((k : Int) < 20 + (n : Int)) = false := by simp; omega
      obtain ⟨_, hf⟩ := R4.out
      have B4 := Lib.hid (B3.out.far hf hGne)
      have BB4 := Lib.hid (BB3.out.far hf hgne)
      have W4 : Hid (Below w.heap.size w wr) := below_only W3.out hf hgw W3.out.size
      clear hf
      have k3 : wr.cell? ⟨x2.heap.size, 33, none⟩ = some (.slice (some ⟨gb, 0, none⟩) n n) := ((B4.out.cell 33).trans (told_33 (by have := HLR.out; omega))).trans (by rw [HR5.out])
      have t1 := run_text (P := Try.prog) wr 22 5 9 (some ⟨gb, 0, none⟩) n n ds Try.underlying22 Try.underlying5 Try.underlying9 (Byts.of_all (by rw [← HR2.out]; exact BB4.out) H.out.1)
      have t2 := run_text (P := Try.prog) wr 22 5 9 A n c ds Try.underlying22 Try.underlying5 Try.underlying9 (H.out.below W4.out)
      go_wp2
      go_ret
      exact ⟨rfl, W4.out⟩
end Go.Proofs.Ytebbpipokdmkkaa
