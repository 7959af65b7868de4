/- The walk of the law InetReads: for any bytes it returns true and turns nothing that was there. -/
import Derived.Test.YtebbpipokdmkkaaAwake
namespace Go.Proofs.Ytebbpipokdmkkaa
open Go.RowKit

theorem same_told (bs ds : List Int) (A A' : Option Addr) (n c c' : Nat) (w : World) (h20 : 20 ≤ bs.length) (h : Byts w A n ds) (h' : Byts w A' n ds) :
    Calls Try.prog 10 #[.agg (toldV bs (.slice A n c)).toArray, .agg (toldV bs (.slice A' n c')).toArray] w fun e w' => e = .returned (.bool true) ∧ Below w.heap.size w w' :=
  same_any _ _ _ ds A A' n c c' _ w (adr_sixteen (by omega) (by omega)) (adr_sixteen (by omega) (by omega)) h h'
theorem wpList_whole26 {ops : Array Oper} {rest : List Oper} {op : Oper} {a : Act} {w : World} {Q : Exit → Act → World → Prop} (hw : Region.wanted op (yielded ops a.tmps) = true) (x : Operand) (ho : op.op = .load 26 x)
    (g : Nat) (hx : a.eval x = .pointer (some ⟨g, 0, none⟩)) {t : TypeId} (xs : List Value) (hb : Blk w g t xs) (hl : xs.length = 35)
    (h : wpList Try.prog ops Q rest (a.put op.dst (.agg xs.toArray)) w) : wpList Try.prog ops Q (op :: rest) a w := by
  unfold wpList
  rw [if_pos hw]
  exact .inl (wp_load_row 26 x ho g hx t xs.toArray (0, 0) _ hb Try.underlying26 rfl (by rw [List.size_toArray, hl]; exact size26) h)
theorem wpList_whole30 {ops : Array Oper} {rest : List Oper} {op : Oper} {a : Act} {w : World} {Q : Exit → Act → World → Prop} (hw : Region.wanted op (yielded ops a.tmps) = true) (x : Operand) (ho : op.op = .load 30 x)
    (g : Nat) (hx : a.eval x = .pointer (some ⟨g, 0, none⟩)) {t : TypeId} (xs : List Value) (hb : Blk w g t xs) (hl : xs.length = 35)
    (h : wpList Try.prog ops Q rest (a.put op.dst (.agg xs.toArray)) w) : wpList Try.prog ops Q (op :: rest) a w := by
  unfold wpList
  rw [if_pos hw]
  exact .inl (wp_load_row 30 x ho g hx t xs.toArray (0, 0) _ hb Try.underlying30 rfl (by rw [List.size_toArray, hl]; exact size30) h)

set_option maxHeartbeats 1000000 in
theorem reads_far (A : Option Addr) (n c : Nat) (w : World) (hn : 10000 < n) : Calls Try.prog 3 #[.slice A n c] w fun e w' => e = .returned (.bool true) ∧ Below w.heap.size w w' := by
  have hd : decide ((10000 : Int) < (n : Int)) = true := by simp; omega
  have hd2 : decide (10000 < n) = true := by simpa using hn
  go_enter Try.func3, Try.ntmps3
  go_wp2_with fail
  refine (awake_any _).mono ?_
  rintro e w1 ⟨rfl, hb⟩
  have HB := Lib.hid hb
  clear hb
  go_wp2_with fail
  refine (awake_any _).mono ?_
  rintro e w2 ⟨rfl, hb⟩
  have HC := Lib.hid hb
  clear hb
  go_wp2
  go_ret
  exact ⟨rfl, HB.out.trans (HC.out.mono HB.out.size)⟩

set_option maxRecDepth 100000 in
set_option maxHeartbeats 2000000 in
theorem reads_ok (A : Option Addr) (n c : Nat) (bs : List Int) (w : World) (h : Byts w A n bs) (ho : Octs bs) (hc : n ≤ c) (hn : n ≤ 10000) (hr : why bs = 0) : Calls Try.prog 3 #[.slice A n c] w fun e w' => e = .returned (.bool true) ∧ Below w.heap.size w w' := by
  have hd : decide ((10000 : Int) < (n : Int)) = false := by simp; omega
  have hd2 : decide (10000 < n) = false := by simp; omega
  have hbn := h.1
  obtain ⟨f1, _, _, f4, f5, _, _⟩ := why_fine hr
  have HBL : Hid ((body bs).length = much bs) := by unfold body much; show _ = _; simp; omega
  have H := Lib.hid h
  have HO := Lib.hid ho
  have HR := Lib.hid hr
  clear h ho hr
  go_enter Try.func3, Try.ntmps3
  go_upto_region 5 with (first | (go_at_call 7; (with_reducible refine (awake_any _).mono ?_); rintro e x1 ⟨rfl, hb⟩; have W1 := Lib.hid hb; clear hb) | (go_at_call 8; (with_reducible refine (parse_ok A n c bs _ (H.out.below W1.out) HO.out (by omega) hc HR.out).mono ?_); rintro e x2 ⟨g, rfl, hb, hg, hbk⟩; have BB2 := Lib.hid hbk; clear hg hbk; have W2 : Hid (Below w.heap.size w x2) := W1.out.trans (hb.mono W1.out.size); clear hb) | (refine wpList_var26 rfl (.tmp 3) (.tmp 18) rfl x2 (toldV bs (.slice (some ⟨g, 0, none⟩) (much bs) (much bs))) rfl rfl (told_length f1) (net_one rfl) ?_; intro x3 B3 hb3; have W3 : Hid (Below w.heap.size w x3) := W2.out.trans (hb3.out.mono W2.out.size); have BB3 := Lib.hid (BB2.out.far (Far.of_below hb3.out nobody) (fun e => e)); clear hb3) | (go_at_call 9; (with_reducible refine (ref_ok A n c bs _ (H.out.below W3.out) HO.out (by omega) hc HR.out).mono ?_); rintro e x4 ⟨A', c', rfl, hb, hby⟩; have HB4 := Lib.hid hby; have BB4 := Lib.hid (BB3.out.far (Far.of_below hb nobody) (fun e => e)); clear hby; have W4 : Hid (Below w.heap.size w x4) := W3.out.trans (hb.mono W3.out.size); have B4 := Lib.hid (B3.out.far (Far.of_below hb nobody) (fun e => e)); clear hb) | (refine wpList_var30 rfl (.tmp 5) (.tmp 23) rfl x4 (toldV bs (.slice A' (much bs) c')) rfl rfl (told_length f1) (net_one rfl) ?_; intro x5 C5 hb5; have W5 : Hid (Below w.heap.size w x5) := W4.out.trans (hb5.out.mono W4.out.size); have B5 := Lib.hid (B4.out.far (Far.of_below hb5.out nobody) (fun e => e)); have BB5 := Lib.hid (BB4.out.far (Far.of_below hb5.out nobody) (fun e => e)); have HB5 := Lib.hid (HB4.out.below hb5.out); clear hb5))
  go_wp2_with (first | (refine wpList_whole26 (by rfl) (.tmp 3) rfl x2.heap.size rfl (toldV bs (.slice (some ⟨g, 0, none⟩) (much bs) (much bs))) B5.out (told_length f1) ?_) | (refine wpList_whole30 (by rfl) (.tmp 5) rfl x4.heap.size rfl (toldV bs (.slice A' (much bs) c')) C5.out (told_length f1) ?_) | (go_at_call 10; (with_reducible refine (same_told bs (body bs) (some ⟨g, 0, none⟩) A' (much bs) (much bs) c' _ f1 (Byts.of_all BB5.out HBL.out) HB5.out).mono ?_); rintro e x6 ⟨rfl, hb⟩; have W6 : Hid (Below w.heap.size w x6) := W5.out.trans (hb.mono W5.out.size); clear hb))
  go_ret
  exact ⟨rfl, W6.out⟩

set_option maxRecDepth 100000 in
set_option maxHeartbeats 2000000 in
theorem reads_no (A : Option Addr) (n c : Nat) (bs : List Int) (w : World) (h : Byts w A n bs) (ho : Octs bs) (hc : n ≤ c) (hn : n ≤ 10000) (r : Nat) (hr : why bs = r) (h0 : r ≠ 0) : Calls Try.prog 3 #[.slice A n c] w fun e w' => e = .returned (.bool true) ∧ Below w.heap.size w w' := by
  have hd : decide ((10000 : Int) < (n : Int)) = false := by simp; omega
  have hd2 : decide (10000 < n) = false := by simp; omega
  have hbn := h.1
  have H := Lib.hid h
  have HO := Lib.hid ho
  have HR := Lib.hid hr
  clear h ho hr
  go_enter Try.func3, Try.ntmps3
  go_upto_region 5 with (first | (go_at_call 7; (with_reducible refine (awake_any _).mono ?_); rintro e x1 ⟨rfl, hb⟩; have W1 := Lib.hid hb; clear hb) | (go_at_call 8; (with_reducible refine (parse_no A n c r bs _ (H.out.below W1.out) HO.out (by omega) hc HR.out h0).mono ?_); rintro e x2 ⟨rfl, hb⟩; have W2 : Hid (Below w.heap.size w x2) := W1.out.trans (hb.mono W1.out.size); clear hb) | (refine wpList_var26 rfl (.tmp 3) (.tmp 18) rfl x2 (net 0 zz zz (.slice none 0 0) false) rfl rfl (net_length zz_sixteen zz_sixteen) (net_one rfl) ?_; intro x3 B3 hb3; have W3 : Hid (Below w.heap.size w x3) := W2.out.trans (hb3.out.mono W2.out.size); clear hb3) | (go_at_call 9; (with_reducible refine (ref_no A n c r bs _ (H.out.below W3.out) HO.out (by omega) hc HR.out h0).mono ?_); rintro e x4 ⟨rfl, hb⟩; have W4 : Hid (Below w.heap.size w x4) := W3.out.trans (hb.mono W3.out.size); have B4 := Lib.hid (B3.out.far (Far.of_below hb nobody) (fun e => e)); clear hb) | (refine wpList_var30 rfl (.tmp 5) (.tmp 23) rfl x4 (net 0 zz zz (.slice none 0 0) false) rfl rfl (net_length zz_sixteen zz_sixteen) (net_one rfl) ?_; intro x5 C5 hb5; have W5 : Hid (Below w.heap.size w x5) := W4.out.trans (hb5.out.mono W4.out.size); have B5 := Lib.hid (B4.out.far (Far.of_below hb5.out nobody) (fun e => e)); clear hb5))
  go_wp2_with (first | (refine wpList_whole26 (by rfl) (.tmp 3) rfl x2.heap.size rfl (net 0 zz zz (.slice none 0 0) false) B5.out (net_length zz_sixteen zz_sixteen) ?_) | (refine wpList_whole30 (by rfl) (.tmp 5) rfl x4.heap.size rfl (net 0 zz zz (.slice none 0 0) false) C5.out (net_length zz_sixteen zz_sixteen) ?_) | (go_at_call 10; (with_reducible refine (same_any 0 zz zz [] none none 0 0 0 false _ zz_sixteen zz_sixteen Byts.none_ Byts.none_).mono ?_); rintro e x6 ⟨rfl, hb⟩; have W6 : Hid (Below w.heap.size w x6) := W5.out.trans (hb.mono W5.out.size); clear hb))
  go_ret
  exact ⟨rfl, W6.out⟩

theorem reads_near (A : Option Addr) (n c : Nat) (bs : List Int) (w : World) (h : Byts w A n bs) (ho : Octs bs) (hc : n ≤ c) (hn : n ≤ 10000) : Calls Try.prog 3 #[.slice A n c] w fun e w' => e = .returned (.bool true) ∧ Below w.heap.size w w' := by
  by_cases hr : why bs = 0
  · exact reads_ok A n c bs w h ho hc hn hr
  · exact reads_no A n c bs w h ho hc hn _ rfl hr
end Go.Proofs.Ytebbpipokdmkkaa
