/- The document's New and Rekey; Step as one. Conditions: those of each theorem. -/
import Derived.Test.YtfhlgmmfknfamaaDocActs
namespace Go.Proofs.Ytfhlgmmfknfamaa
open Go.RowKit

theorem wpList_putk {ops : Array Oper} {rest : List Oper} {o : Oper} {a : Act} {w : World} {Q : Exit → Act → World → Prop} (hgd : o.guard = none) (x y : Operand) (ho : o.op = .store 22 x y)
    (g off : Nat) (k : Key) (hx : a.eval x = .pointer (some ⟨g, off, none⟩)) (hy : a.eval y = .agg k.cs.toArray) (t : TypeId) (cs : List Value) (hb : Blk w g t cs) (hl : off + 16 ≤ cs.length)
    (h : ∀ w', Hid (Blk w' g t (cs.take off ++ (k.cs ++ cs.drop (off + 16)))) → Hid (Far (only g) w w') → wpList Try.prog ops Q rest (a.put o.dst undef) w') : wpList Try.prog ops Q (o :: rest) a w := by
  have hk : k.cs.toArray.size = 16 := by rw [List.size_toArray, key16]
  refine wpList_store_mid hgd 22 x y ho g off k.cs.toArray hx hy (fun j hj => ⟨?_, hb.frozen _⟩) (by rw [hk]; exact sizeK) (all_oneCell_toArray (cel_each _)) (h _ ?_ (far_setCells _ _ _ _ (Far.refl _ _) (fun _ => rfl)))
  · rw [hb.cell, List.getElem?_eq_getElem (by omega)]
    rfl
  · have := Blk.setCells k.cs cs off w hb (by rw [key16]; exact hl)
    rwa [key16] at this
theorem dcs_key1 (S : St) (k : Key) : (dcs S).take 1 ++ (k.cs ++ (dcs S).drop (1 + 16)) = dcs ⟨S.n, k, S.b, S.o, S.mv, S.ep⟩ := by
  show _ :: (k.cs ++ (S.a.cs ++ (S.b.cs ++ _)).drop 16) = _
  rw [List.drop_left' (key16 _)]
  rfl
theorem dcs_key0 (S : St) (k : Key) : (dcs S).take 17 ++ (k.cs ++ (dcs S).drop (17 + 16)) = dcs ⟨S.n, S.a, k, S.o, S.mv, S.ep⟩ := by
  show (_ :: (S.a.cs ++ (S.b.cs ++ _)).take 16) ++ (k.cs ++ (S.a.cs ++ (S.b.cs ++ _)).drop (16 + 16)) = _
  rw [List.take_left' (key16 _), ← List.drop_drop, List.drop_left' (key16 _), List.drop_left' (key16 _), List.cons_append]
  rfl
set_option maxRecDepth 100000 in
set_option maxHeartbeats 2000000 in
theorem drekey_busy (S : St) (k : Key) (w : World) (m : Nat) (hm : S.mv = some m) : Calls Try.prog 15 #[.agg (dcs S).toArray, .agg k.cs.toArray] w (Ans (.tuple #[.agg (dcs S).toArray, .bool false]) w) := by
  obtain ⟨n0, n1, n2⟩ := two_box (dcs S) k.cs 34 22 w
  have K1 := Lib.hid n0
  have Q1 := Lib.hid n1
  have W1 := Lib.hid n2
  have e2 : mvI S = (m : Nat) := by unfold mvI; rw [hm]
  clear n0 n1 n2 hm
  go_enter Try.func15, Try.ntmps15
  go_upto_region 1 with (refine wpList_new34 rfl rfl ?_; intro w2 B2 W2)
  have hz : ((w.alloc (.cells (dcs S).toArray 34)).alloc (.cells k.cs.toArray 22)).heap.size = w.heap.size + 2 := by simp
  have K2 := Lib.hid (K1.out.below W2.out)
  have Q2 := Lib.hid (Q1.out.below W2.out)
  have W3 : Hid (Below w.heap.size w w2) := W1.out.trans (W2.out.mono W1.out.size)
  rw [hz] at B2
  clear K1 Q1 W1 W2
  obtain ⟨d0, d1, d2, d3⟩ := dcells K2.out
  rw [e2] at d2
  go_wp2_with (first
    | (refine wpList_loadE (by rfl) 34 _ Try.underlying34 rfl (.tmp 2) rfl w.heap.size 0 rfl (dcs S) (whole_at K2.out) (by rw [dcs_len]; exact size34) ?_)
    | (refine wpList_lay rfl 34 36 size34 (.tmp 4) (.tmp 9) rfl (w.heap.size + 2) (dcs S) rfl rfl 34 _ B2.out (dcs_len _) (dcs_len _) (all_oneCell_toArray (dcs_each _)) ?_; intro w6 hB6 hF6; have hv := load_g hB6.out; have W6 : Hid (Below w.heap.size w w6) := below_only W3.out hF6.out (by omega) W3.out.size))
  refine bodyPost_ret (v := .tuple #[.agg (dcs S).toArray, .bool false]) (by simp [results, Try.results15, asAddr, hv]) rfl ?_
  exact ⟨rfl, W6.out⟩
set_option maxRecDepth 100000 in
set_option maxHeartbeats 2000000 in
theorem drekey_key_false (S : St) (k : Key) (w : World) (hm : S.mv = none) (ho : S.o = false) : Calls Try.prog 15 #[.agg (dcs S).toArray, .agg k.cs.toArray] w (Ans (.tuple #[.agg (dcs ⟨S.n, S.a, k, false, some 0, S.ep⟩).toArray, .bool true]) w) := by
  obtain ⟨n0, n1, n2⟩ := two_box (dcs S) k.cs 34 22 w
  have K1 := Lib.hid n0
  have Q1 := Lib.hid n1
  have W1 := Lib.hid n2
  have e2 : mvI S = -1 := by unfold mvI; rw [hm]
  have HM : Hid ((dcs S).take 17 ++ (k.cs ++ (dcs S).drop (17 + 16)) = dcs ⟨S.n, S.a, k, S.o, S.mv, S.ep⟩) := by
    show _ = _
    rw [dcs_key0]
  have HF : Hid ((dcs ⟨S.n, S.a, k, S.o, S.mv, S.ep⟩).set 34 (.int .i64 0) = dcs ⟨S.n, S.a, k, false, some 0, S.ep⟩) := by
    show _ = _
    rw [dcs_set34, ho]
    rfl
  clear n0 n1 n2 hm
  go_enter Try.func15, Try.ntmps15
  go_upto_region 1 with (refine wpList_new34 rfl rfl ?_; intro w2 B2 W2)
  have hz : ((w.alloc (.cells (dcs S).toArray 34)).alloc (.cells k.cs.toArray 22)).heap.size = w.heap.size + 2 := by simp
  have K2 := Lib.hid (K1.out.below W2.out)
  have Q2 := Lib.hid (Q1.out.below W2.out)
  have W3 : Hid (Below w.heap.size w w2) := W1.out.trans (W2.out.mono W1.out.size)
  rw [hz] at B2
  clear K1 Q1 W1 W2
  obtain ⟨d0, d1, d2, d3⟩ := dcells K2.out
  rw [e2] at d2
  rw [ho, show ((nm false : Nat) : Int) = 0 from rfl] at d1
  go_upto_region 3 with fail
  go_upto_region 4 with (first
    | (refine wpList_key (by rfl) (.tmp 3) rfl _ 0 rfl k (whole_at Q2.out) ?_)
    | (refine wpList_putk rfl (.tmp 15) (.tmp 13) rfl w.heap.size 17 k rfl rfl 34 (dcs S) K2.out (by rw [dcs_len]; decide) ?_; intro w3 K3 F3; rw [HM.out] at K3; have B3 := Lib.hid (B2.out.far F3.out (by unfold only; omega)); have W4 : Hid (Below w.heap.size w w3) := below_only W3.out F3.out (Nat.le_refl _) W3.out.size; have d34 := (dcells K3.out).2.2.1; have f34 := K3.out.frozen 34))
  have K4 : Hid (Blk (w3.setCell ⟨w.heap.size, 34, none⟩ (.int .i64 0)) w.heap.size 34 (dcs ⟨S.n, S.a, k, false, some 0, S.ep⟩)) := by
    have := K3.out.set_ 34 (.int .i64 0)
    rwa [HF.out] at this
  have FF : Far (only w.heap.size) w3 (w3.setCell ⟨w.heap.size, 34, none⟩ (.int .i64 0)) := (Far.refl (only w.heap.size) w3).set_ (p := ⟨w.heap.size, 34, none⟩) (fun _ => rfl) _
  have B4 := Lib.hid (B3.out.far FF (by unfold only; omega))
  have W5 : Hid (Below w.heap.size w _) := below_only W4.out FF (Nat.le_refl _) W4.out.size
  clear K2 K3 B2 B3 Q2 W3 W4 FF F3 d0 d1 d2 d3 d34 f34
  generalize (w3.setCell ⟨w.heap.size, 34, none⟩ (.int .i64 0)) = w4 at *
  go_wp2_with (first
    | (refine wpList_loadE (by rfl) 34 _ Try.underlying34 rfl (.tmp 2) rfl w.heap.size 0 rfl (dcs ⟨S.n, S.a, k, false, some 0, S.ep⟩) (whole_at K4.out) (by rw [dcs_len]; exact size34) ?_)
    | (refine wpList_lay rfl 34 36 size34 (.tmp 4) (.tmp 17) rfl (w.heap.size + 2) (dcs ⟨S.n, S.a, k, false, some 0, S.ep⟩) rfl rfl 34 _ B4.out (dcs_len _) (dcs_len _) (all_oneCell_toArray (dcs_each _)) ?_; intro w6 hB6 hF6; have hv := load_g hB6.out; have W6 : Hid (Below w.heap.size w w6) := below_only W5.out hF6.out (by omega) W5.out.size))
  refine bodyPost_ret (v := .tuple #[.agg (dcs ⟨S.n, S.a, k, false, some 0, S.ep⟩).toArray, .bool true]) (by simp [results, Try.results15, asAddr, hv]) rfl ?_
  exact ⟨rfl, W6.out⟩
set_option maxRecDepth 100000 in
set_option maxHeartbeats 2000000 in
theorem drekey_key_true (S : St) (k : Key) (w : World) (hm : S.mv = none) (ho : S.o = true) : Calls Try.prog 15 #[.agg (dcs S).toArray, .agg k.cs.toArray] w (Ans (.tuple #[.agg (dcs ⟨S.n, k, S.b, true, some 0, S.ep⟩).toArray, .bool true]) w) := by
  obtain ⟨n0, n1, n2⟩ := two_box (dcs S) k.cs 34 22 w
  have K1 := Lib.hid n0
  have Q1 := Lib.hid n1
  have W1 := Lib.hid n2
  have e2 : mvI S = -1 := by unfold mvI; rw [hm]
  have HM : Hid ((dcs S).take 1 ++ (k.cs ++ (dcs S).drop (1 + 16)) = dcs ⟨S.n, k, S.b, S.o, S.mv, S.ep⟩) := by
    show _ = _
    rw [dcs_key1]
  have HF : Hid ((dcs ⟨S.n, k, S.b, S.o, S.mv, S.ep⟩).set 34 (.int .i64 0) = dcs ⟨S.n, k, S.b, true, some 0, S.ep⟩) := by
    show _ = _
    rw [dcs_set34, ho]
    rfl
  clear n0 n1 n2 hm
  go_enter Try.func15, Try.ntmps15
  go_upto_region 1 with (refine wpList_new34 rfl rfl ?_; intro w2 B2 W2)
  have hz : ((w.alloc (.cells (dcs S).toArray 34)).alloc (.cells k.cs.toArray 22)).heap.size = w.heap.size + 2 := by simp
  have K2 := Lib.hid (K1.out.below W2.out)
  have Q2 := Lib.hid (Q1.out.below W2.out)
  have W3 : Hid (Below w.heap.size w w2) := W1.out.trans (W2.out.mono W1.out.size)
  rw [hz] at B2
  clear K1 Q1 W1 W2
  obtain ⟨d0, d1, d2, d3⟩ := dcells K2.out
  rw [e2] at d2
  rw [ho, show ((nm true : Nat) : Int) = 1 from rfl] at d1
  go_upto_region 3 with fail
  go_upto_region 4 with (first
    | (refine wpList_key (by rfl) (.tmp 3) rfl _ 0 rfl k (whole_at Q2.out) ?_)
    | (refine wpList_putk rfl (.tmp 15) (.tmp 13) rfl w.heap.size 1 k rfl rfl 34 (dcs S) K2.out (by rw [dcs_len]; decide) ?_; intro w3 K3 F3; rw [HM.out] at K3; have B3 := Lib.hid (B2.out.far F3.out (by unfold only; omega)); have W4 : Hid (Below w.heap.size w w3) := below_only W3.out F3.out (Nat.le_refl _) W3.out.size; have d34 := (dcells K3.out).2.2.1; have f34 := K3.out.frozen 34))
  have K4 : Hid (Blk (w3.setCell ⟨w.heap.size, 34, none⟩ (.int .i64 0)) w.heap.size 34 (dcs ⟨S.n, k, S.b, true, some 0, S.ep⟩)) := by
    have := K3.out.set_ 34 (.int .i64 0)
    rwa [HF.out] at this
  have FF : Far (only w.heap.size) w3 (w3.setCell ⟨w.heap.size, 34, none⟩ (.int .i64 0)) := (Far.refl (only w.heap.size) w3).set_ (p := ⟨w.heap.size, 34, none⟩) (fun _ => rfl) _
  have B4 := Lib.hid (B3.out.far FF (by unfold only; omega))
  have W5 : Hid (Below w.heap.size w _) := below_only W4.out FF (Nat.le_refl _) W4.out.size
  clear K2 K3 B2 B3 Q2 W3 W4 FF F3 d0 d1 d2 d3 d34 f34
  generalize (w3.setCell ⟨w.heap.size, 34, none⟩ (.int .i64 0)) = w4 at *
  go_wp2_with (first
    | (refine wpList_loadE (by rfl) 34 _ Try.underlying34 rfl (.tmp 2) rfl w.heap.size 0 rfl (dcs ⟨S.n, k, S.b, true, some 0, S.ep⟩) (whole_at K4.out) (by rw [dcs_len]; exact size34) ?_)
    | (refine wpList_lay rfl 34 36 size34 (.tmp 4) (.tmp 17) rfl (w.heap.size + 2) (dcs ⟨S.n, k, S.b, true, some 0, S.ep⟩) rfl rfl 34 _ B4.out (dcs_len _) (dcs_len _) (all_oneCell_toArray (dcs_each _)) ?_; intro w6 hB6 hF6; have hv := load_g hB6.out; have W6 : Hid (Below w.heap.size w w6) := below_only W5.out hF6.out (by omega) W5.out.size))
  refine bodyPost_ret (v := .tuple #[.agg (dcs ⟨S.n, k, S.b, true, some 0, S.ep⟩).toArray, .bool true]) (by simp [results, Try.results15, asAddr, hv]) rfl ?_
  exact ⟨rfl, W6.out⟩
theorem drekey_ (S : St) (k : Key) (w : World) : Calls Try.prog 15 #[.agg (dcs S).toArray, .agg k.cs.toArray] w (Ans (.tuple #[.agg (dcs (rek S k)).toArray, .bool (!S.mv.isSome)]) w) := by
  rcases hm : S.mv with _ | m
  · rcases ho : S.o with _ | _
    · have e : rek S k = ⟨S.n, S.a, k, false, some 0, S.ep⟩ := by unfold rek; rw [hm, ho]; rfl
      rw [e]
      exact drekey_key_false S k w hm ho
    · have e : rek S k = ⟨S.n, k, S.b, true, some 0, S.ep⟩ := by unfold rek; rw [hm, ho]; rfl
      rw [e]
      exact drekey_key_true S k w hm ho
  · have e : rek S k = S := by unfold rek; rw [hm]
    rw [e]
    exact drekey_busy S k w m hm
/-- What Step tells: -1 where nothing moves. -/
def stpI (S : St) : Int := if S.mv.isSome then (stpC S : Nat) else -1
theorem dstep_ (S : St) (w : World) (hS : S.Ok) (hep : S.ep ≤ 1000000) : Calls Try.prog 14 #[.agg (dcs S).toArray] w (Ans (.tuple #[.agg (dcs (stp S)).toArray, .int .i64 (stpI S)]) w) := by
  rcases hm : S.mv with _ | m
  · have e : stpI S = -1 := by unfold stpI; rw [hm]; rfl
    rw [e]
    exact dstep_none S w hm
  · have e : stpI S = (stpC S : Nat) := by unfold stpI; rw [hm]; rfl
    rw [e]
    by_cases hl : m + 1 = S.n
    · rcases ho : S.o with _ | _
      · exact dstep_last_false S w hS m hm ho hl hep
      · exact dstep_last_true S w hS m hm ho hl hep
    · rcases ho : S.o with _ | _
      · exact dstep_more_false S w hS m hm ho hl
      · exact dstep_more_true S w hS m hm ho hl
theorem two_keys (k j : Key) (w : World) : (Instr.build 32 #[(0, .agg k.cs.toArray), (1, .agg j.cs.toArray)]).run Try.prog w = .ok (.agg (k.cs ++ j.cs).toArray) w := by
  obtain ⟨s, hs⟩ := k
  obtain ⟨r, hr⟩ := j
  match s, hs, r, hr with
  | [_, _, _, _, _, _, _, _, _, _, _, _, _, _, _, _], _, [_, _, _, _, _, _, _, _, _, _, _, _, _, _, _, _], _ => exact run_build w 32 _ _ (by kernel_rfl)
theorem new_dcs (n : Nat) (k : Key) (w : World) : (Instr.build 34 #[(0, .int .i64 (n : Nat)), (1, .agg (k.cs ++ key0.cs).toArray), (3, .int .i64 (-1))]).run Try.prog w = .ok (.agg (dcs (st0 n k)).toArray) w := by
  obtain ⟨s, hs⟩ := k
  match s, hs with
  | [_, _, _, _, _, _, _, _, _, _, _, _, _, _, _, _], _ => exact run_build w 34 _ _ (by kernel_rfl)
set_option maxRecDepth 100000 in
set_option maxHeartbeats 2000000 in
theorem dnew_ (n : Nat) (k : Key) (w : World) : Calls Try.prog 12 #[.int .i64 (n : Nat), .agg k.cs.toArray] w (Ans (.agg (dcs (st0 n k)).toArray) w) := by
  have Q1 := Lib.hid (Blk.new w 22 k.cs)
  have W1 : Hid (Below w.heap.size w (w.alloc (.cells k.cs.toArray 22))) := (Below.refl _ w).alloc (Nat.le_refl _) _
  go_enter Try.func12, Try.ntmps12
  go_upto_region 1 with (refine wpList_new34 rfl rfl ?_; intro w2 B2 W2)
  have hz : (w.alloc (.cells k.cs.toArray 22)).heap.size = w.heap.size + 1 := by simp
  have Q2 := Lib.hid (Q1.out.below W2.out)
  have W3 : Hid (Below w.heap.size w w2) := W1.out.trans (W2.out.mono W1.out.size)
  rw [hz] at B2
  clear Q1 W1 W2
  go_wp2_with (first
    | (refine wpList_key (by rfl) (.tmp 3) rfl _ 0 rfl k (whole_at Q2.out) ?_)
    | (refine wpList_build rfl 22 [] rfl [] rfl key0.cs (run_key0 _) ?_)
    | (refine wpList_build rfl 32 [(0, .tmp 6), (1, .tmp 7)] rfl [(0, .agg k.cs.toArray), (1, .agg key0.cs.toArray)] rfl (k.cs ++ key0.cs) (two_keys k key0 _) ?_)
    | (refine wpList_build rfl 34 [(0, .tmp 5), (1, .tmp 8), (3, .const (.int .i64 (-1)))] rfl [(0, .int .i64 (n : Nat)), (1, .agg (k.cs ++ key0.cs).toArray), (3, .int .i64 (-1))] rfl (dcs (st0 n k)) (new_dcs n k _) ?_)
    | (refine wpList_lay rfl 34 36 size34 (.tmp 4) (.tmp 9) rfl (w.heap.size + 1) (dcs (st0 n k)) rfl rfl 34 _ B2.out (dcs_len _) (dcs_len _) (all_oneCell_toArray (dcs_each _)) ?_; intro w6 hB6 hF6; have hv := load_g hB6.out; have W6 : Hid (Below w.heap.size w w6) := below_only W3.out hF6.out (Nat.le_succ _) W3.out.size))
  refine bodyPost_ret (v := .agg (dcs (st0 n k)).toArray) (by simp [results, Try.results12, asAddr, Act.put, hv]) rfl ?_
  exact ⟨rfl, W6.out⟩
end Go.Proofs.Ytfhlgmmfknfamaa
