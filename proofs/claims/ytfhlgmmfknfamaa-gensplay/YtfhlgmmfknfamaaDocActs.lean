/- The document's Step. Conditions: those of each theorem. -/
import Derived.Test.YtfhlgmmfknfamaaDocMem
namespace Go.Proofs.Ytfhlgmmfknfamaa
open Go.RowKit

def stz : St := ⟨0, key0, key0, false, some 0, 0⟩
theorem zero34 (w : World) : (Instr.alloc 34 true (.tuple #[])).run Try.prog w = .ok (.pointer (some ⟨w.heap.size, 0, none⟩)) (w.alloc (.cells (dcs stz).toArray 34)) := by kernel_rfl
theorem wpList_new34 {ops : Array Oper} {rest : List Oper} {o : Oper} {a : Act} {w : World} {Q : Exit → Act → World → Prop} (hgd : o.guard = none) (ho : o.op = .alloc 34)
    (h : ∀ w', Hid (Blk w' w.heap.size 34 (dcs stz)) → Hid (Below w.heap.size w w') → wpList Try.prog ops Q rest (a.put o.dst (.pointer (some ⟨w.heap.size, 0, none⟩))) w') : wpList Try.prog ops Q (o :: rest) a w := by
  have e := zero34 w
  generalize dcs stz = z at e h
  refine wpList_plain hgd fun K hK => ?_
  unfold Oper.wp
  simp only [execOp, ho]
  simp [e, Oper.upon]
  exact hK _ _ (h _ (Blk.new w 34 _) ((Below.refl _ w).alloc (Nat.le_refl _) _))
theorem load_g {w : World} {g : Nat} {t : TypeId} {S : St} (h : Blk w g t (dcs S)) : (loadVar 34 ⟨g, 0, none⟩).run Try.prog w = .ok (.agg (dcs S).toArray) w :=
  run_loadVar_row w g t 34 (dcs S).toArray (0, 0) _ h Try.underlying34 rfl (by rw [List.size_toArray, dcs_len]; exact size34)
theorem set_tail (S : St) (i : Nat) (v : Value) : (dcs S).set (33 + i) v = .int .i64 (S.n : Nat) :: (S.a.cs ++ (S.b.cs ++ [Value.int .i64 (nm S.o : Nat), .int .i64 (mvI S), .int .i64 (S.ep : Nat)].set i v)) := by
  rw [show 33 + i = (32 + i) + 1 by omega]
  show _ :: (S.a.cs ++ (S.b.cs ++ [_, _, _])).set (32 + i) v = _
  rw [List.set_append_right _ _ (by rw [key16]; omega), key16, List.set_append_right _ _ (by rw [key16]; omega), key16, show 32 + i - 16 - 16 = i by omega]
theorem dcs_set34 (S : St) (v : Value) : (dcs S).set 34 v = .int .i64 (S.n : Nat) :: (S.a.cs ++ (S.b.cs ++ [.int .i64 (nm S.o : Nat), v, .int .i64 (S.ep : Nat)])) := set_tail S 1 v
theorem dcs_all (S : St) (x y z : Value) : (((dcs S).set 34 x).set 33 y).set 35 z = .int .i64 (S.n : Nat) :: (S.a.cs ++ (S.b.cs ++ [y, x, z])) := by
  rw [dcs_set34]
  have e33 : ∀ (p q r v : Value), (Value.int .i64 (S.n : Nat) :: (S.a.cs ++ (S.b.cs ++ [p, q, r]))).set 33 v = .int .i64 (S.n : Nat) :: (S.a.cs ++ (S.b.cs ++ [v, q, r])) := fun p q r v => by
    rw [show 33 = 32 + 1 by rfl, List.set_cons_succ, List.set_append_right _ _ (by rw [key16]; omega), key16, List.set_append_right _ _ (by rw [key16]; omega), key16]
    rfl
  have e35 : ∀ (p q r v : Value), (Value.int .i64 (S.n : Nat) :: (S.a.cs ++ (S.b.cs ++ [p, q, r]))).set 35 v = .int .i64 (S.n : Nat) :: (S.a.cs ++ (S.b.cs ++ [p, q, v])) := fun p q r v => by
    rw [show 35 = 34 + 1 by rfl, List.set_cons_succ, List.set_append_right _ _ (by rw [key16]; omega), key16, List.set_append_right _ _ (by rw [key16]; omega), key16]
    rfl
  rw [e33, e35]
set_option maxRecDepth 100000 in
set_option maxHeartbeats 2000000 in
theorem dstep_none (S : St) (w : World) (hm : S.mv = none) : Calls Try.prog 14 #[.agg (dcs S).toArray] w (Ans (.tuple #[.agg (dcs (stp S)).toArray, .int .i64 (-1)]) w) := by
  have K1 := Lib.hid (Blk.new w 34 (dcs S))
  have W1 : Hid (Below w.heap.size w (w.alloc (.cells (dcs S).toArray 34))) := (Below.refl _ w).alloc (Nat.le_refl _) _
  have e1 : stp S = S := by unfold stp; rw [hm]
  have e2 : mvI S = -1 := by unfold mvI; rw [hm]
  rw [e1]
  clear hm e1
  go_enter Try.func14, Try.ntmps14
  go_upto_region 1 with (refine wpList_new34 rfl rfl ?_; intro w2 B2 W2)
  have K2 := Lib.hid (K1.out.below W2.out)
  have W3 : Hid (Below w.heap.size w w2) := W1.out.trans (W2.out.mono W1.out.size)
  have hz : (w.alloc (.cells (dcs S).toArray 34)).heap.size = w.heap.size + 1 := by simp
  rw [hz] at B2
  clear K1 W1 W2
  obtain ⟨d0, d1, d2, d3⟩ := dcells K2.out
  rw [e2] at d2
  go_wp2_with (first
    | (refine wpList_loadE (by rfl) 34 _ Try.underlying34 rfl (.tmp 1) rfl w.heap.size 0 rfl (dcs S) (whole_at K2.out) (by rw [dcs_len]; exact size34) ?_)
    | (refine wpList_lay rfl 34 36 size34 (.tmp 2) (.tmp 8) rfl (w.heap.size + 1) (dcs S) rfl rfl 34 _ B2.out (dcs_len _) (dcs_len _) (all_oneCell_toArray (dcs_each _)) ?_; intro w4 hB4 hF4; have hv := load_g hB4.out; have W4 : Hid (Below w.heap.size w w4) := below_only W3.out hF4.out (Nat.le_succ _) W3.out.size))
  refine bodyPost_ret (v := .tuple #[.agg (dcs S).toArray, .int .i64 (-1)]) (by simp [results, Try.results14, asAddr, hv]) rfl ?_
  exact ⟨rfl, W4.out⟩
set_option maxRecDepth 100000 in
set_option maxHeartbeats 2000000 in
theorem dstep_last_false (S : St) (w : World) (hS : S.Ok) (m : Nat) (hm : S.mv = some m) (ho : S.o = false) (hl : m + 1 = S.n) (hep : S.ep ≤ 1000000) : Calls Try.prog 14 #[.agg (dcs S).toArray] w (Ans (.tuple #[.agg (dcs (stp S)).toArray, .int .i64 ((stpC S : Nat))]) w) := by
  have K1 := Lib.hid (Blk.new w 34 (dcs S))
  have W1 : Hid (Below w.heap.size w (w.alloc (.cells (dcs S).toArray 34))) := (Below.refl _ w).alloc (Nat.le_refl _) _
  have hml := hS.mv m hm
  have hn2 := hS.n2
  have e1 : stp S = ⟨S.n, S.a, S.b, true, none, S.ep + 1⟩ := by
    unfold stp
    rw [hm]
    simp only
    rw [if_pos hl]
    rw [ho]; rfl
  have e2 : mvI S = (m : Nat) := by unfold mvI; rw [hm]
  obtain ⟨c, hc⟩ : ∃ c, stpC S = c := ⟨_, rfl⟩
  have hc1 : (m : Int) = (c : Int) := by
    rw [← hc]
    unfold stpC
    rw [hm, ho]
    show _ = ((0 * S.n + m : Nat) : Int)
    omega
  have hc2 : c < 200 := by omega
  rw [e1, hc]
  have hcm : m = c := by omega
  clear hc1
  subst hcm
  obtain ⟨S', hS'⟩ : ∃ X : St, ⟨S.n, S.a, S.b, true, none, S.ep + 1⟩ = X := ⟨_, rfl⟩
  have HD1 : Hid ((dcs S).set 34 (.int .i64 ((m : Int) + 1)) = dcs ⟨S.n, S.a, S.b, false, some (m + 1), S.ep⟩) := by
    show _ = _
    rw [dcs_set34, ← ho]
    rfl
  have HD2 : Hid ((((dcs ⟨S.n, S.a, S.b, false, some (m + 1), S.ep⟩).set 34 (.int .i64 (-1))).set 33 (.int .i64 1)).set 35 (.int .i64 ((S.ep : Int) + 1)) = dcs S') := by
    show _ = _
    rw [← hS', dcs_all]
    rfl
  have hwe : IntKind.i64.wrap ((S.ep : Int) + 1) = (S.ep : Int) + 1 := by rw [IntKind.wrap_i64]; omega
  rw [hS']
  clear hS hm e1 hc
  go_enter Try.func14, Try.ntmps14
  go_upto_region 1 with (refine wpList_new34 rfl rfl ?_; intro w2 B2 W2)
  have K2 := Lib.hid (K1.out.below W2.out)
  have W3 : Hid (Below w.heap.size w w2) := W1.out.trans (W2.out.mono W1.out.size)
  have hz : (w.alloc (.cells (dcs S).toArray 34)).heap.size = w.heap.size + 1 := by simp
  rw [hz] at B2
  clear K1 W1 W2
  obtain ⟨d0, d1, d2, d3⟩ := dcells K2.out
  have f2 := K2.out.frozen 34
  rw [e2] at d2
  rw [ho, show ((nm false : Nat) : Int) = 0 from rfl] at d1
  go_upto_region 4 with fail
  go_upto_region 5 with fail
  have K3 : Hid (Blk (w2.setCell ⟨w.heap.size, 34, none⟩ (.int .i64 ((m : Int) + 1))) w.heap.size 34 (dcs ⟨S.n, S.a, S.b, false, some (m + 1), S.ep⟩)) := by
    have := K2.out.set_ 34 (.int .i64 ((m : Int) + 1))
    rwa [HD1.out] at this
  have B3 : Hid (Blk (w2.setCell ⟨w.heap.size, 34, none⟩ (.int .i64 ((m : Int) + 1))) (w.heap.size + 1) 34 (dcs stz)) := B2.out.other (p := ⟨w.heap.size, 34, none⟩) (by simp) _
  have W4 : Hid (Below w.heap.size w (w2.setCell ⟨w.heap.size, 34, none⟩ (.int .i64 ((m : Int) + 1)))) := below_only W3.out ((Far.refl (only w.heap.size) w2).set_ (p := ⟨w.heap.size, 34, none⟩) (fun _ => rfl) _) (Nat.le_refl _) W3.out.size
  clear K2 B2 W3 d0 d1 d2 d3 f2
  generalize (w2.setCell ⟨w.heap.size, 34, none⟩ (.int .i64 ((m : Int) + 1))) = w3 at *
  obtain ⟨d0, d1, d2, d3⟩ := dcells K3.out
  have d1' : w3.cell? ⟨w.heap.size, 33, none⟩ = some (.int .i64 0) := d1
  have d2' : w3.cell? ⟨w.heap.size, 34, none⟩ = some (.int .i64 ((m : Int) + 1)) := d2
  have d0' : w3.cell? ⟨w.heap.size, 0, none⟩ = some (.int .i64 (S.n : Nat)) := d0
  have d3' : w3.cell? ⟨w.heap.size, 35, none⟩ = some (.int .i64 (S.ep : Nat)) := d3
  clear d0 d1 d2 d3
  have hl2 : (m : Int) + 1 = (S.n : Int) := by omega
  have f33 := K3.out.frozen 33
  have f34 := K3.out.frozen 34
  have f35 := K3.out.frozen 35
  go_upto_region 6 with fail
  go_upto_region 7 with fail
  have K4 : Hid (Blk (((w3.setCell ⟨w.heap.size, 34, none⟩ (.int .i64 (-1))).setCell ⟨w.heap.size, 33, none⟩ (.int .i64 1)).setCell ⟨w.heap.size, 35, none⟩ (.int .i64 ((S.ep : Int) + 1))) w.heap.size 34 (dcs S')) := by
    have := ((K3.out.set_ 34 (.int .i64 (-1))).set_ 33 (.int .i64 1)).set_ 35 (.int .i64 ((S.ep : Int) + 1))
    rwa [HD2.out] at this
  have FF : Far (only w.heap.size) w3 (((w3.setCell ⟨w.heap.size, 34, none⟩ (.int .i64 (-1))).setCell ⟨w.heap.size, 33, none⟩ (.int .i64 1)).setCell ⟨w.heap.size, 35, none⟩ (.int .i64 ((S.ep : Int) + 1))) := (((Far.refl (only w.heap.size) w3).set_ (p := ⟨w.heap.size, 34, none⟩) (fun _ => rfl) _).set_ (p := ⟨w.heap.size, 33, none⟩) (fun _ => rfl) _).set_ (p := ⟨w.heap.size, 35, none⟩) (fun _ => rfl) _
  have B4 := Lib.hid (B3.out.far FF (fun e => by have e' : w.heap.size + 1 = w.heap.size := e; omega))
  have W5 : Hid (Below w.heap.size w _) := below_only W4.out FF (Nat.le_refl _) W4.out.size
  clear K3 B3 W4 FF d0' d1' d2' d3' f33 f34 f35
  generalize (((w3.setCell ⟨w.heap.size, 34, none⟩ (.int .i64 (-1))).setCell ⟨w.heap.size, 33, none⟩ (.int .i64 1)).setCell ⟨w.heap.size, 35, none⟩ (.int .i64 ((S.ep : Int) + 1))) = w4 at *
  go_wp2_with (first
    | (refine wpList_loadE (by rfl) 34 _ Try.underlying34 rfl (.tmp 1) rfl w.heap.size 0 rfl (dcs S') (whole_at K4.out) (by rw [dcs_len]; exact size34) ?_)
    | (refine wpList_lay rfl 34 36 size34 (.tmp 2) (.tmp 35) rfl (w.heap.size + 1) (dcs S') rfl rfl 34 _ B4.out (dcs_len _) (dcs_len _) (all_oneCell_toArray (dcs_each _)) ?_; intro w6 hB6 hF6; have hv := load_g hB6.out; have W6 : Hid (Below w.heap.size w w6) := below_only W5.out hF6.out (Nat.le_succ _) W5.out.size))
  refine bodyPost_ret (v := .tuple #[.agg (dcs S').toArray, .int .i64 (m : Nat)]) (by simp [results, Try.results14, asAddr, hv]) rfl ?_
  exact ⟨rfl, W6.out⟩
set_option maxRecDepth 100000 in
set_option maxHeartbeats 2000000 in
theorem dstep_last_true (S : St) (w : World) (hS : S.Ok) (m : Nat) (hm : S.mv = some m) (ho : S.o = true) (hl : m + 1 = S.n) (hep : S.ep ≤ 1000000) : Calls Try.prog 14 #[.agg (dcs S).toArray] w (Ans (.tuple #[.agg (dcs (stp S)).toArray, .int .i64 ((stpC S : Nat))]) w) := by
  have K1 := Lib.hid (Blk.new w 34 (dcs S))
  have W1 : Hid (Below w.heap.size w (w.alloc (.cells (dcs S).toArray 34))) := (Below.refl _ w).alloc (Nat.le_refl _) _
  have hml := hS.mv m hm
  have hn2 := hS.n2
  have e1 : stp S = ⟨S.n, S.a, S.b, false, none, S.ep + 1⟩ := by
    unfold stp
    rw [hm]
    simp only
    rw [if_pos hl]
    rw [ho]; rfl
  have e2 : mvI S = (m : Nat) := by unfold mvI; rw [hm]
  obtain ⟨c, hc⟩ : ∃ c, stpC S = c := ⟨_, rfl⟩
  have hc1 : ((S.n : Nat) : Int) + (m : Int) = (c : Int) := by
    rw [← hc]
    unfold stpC
    rw [hm, ho]
    show _ = ((1 * S.n + m : Nat) : Int)
    omega
  have hc2 : c < 200 := by omega
  rw [e1, hc]
  obtain ⟨S', hS'⟩ : ∃ X : St, ⟨S.n, S.a, S.b, false, none, S.ep + 1⟩ = X := ⟨_, rfl⟩
  have HD1 : Hid ((dcs S).set 34 (.int .i64 ((m : Int) + 1)) = dcs ⟨S.n, S.a, S.b, true, some (m + 1), S.ep⟩) := by
    show _ = _
    rw [dcs_set34, ← ho]
    rfl
  have HD2 : Hid ((((dcs ⟨S.n, S.a, S.b, true, some (m + 1), S.ep⟩).set 34 (.int .i64 (-1))).set 33 (.int .i64 0)).set 35 (.int .i64 ((S.ep : Int) + 1)) = dcs S') := by
    show _ = _
    rw [← hS', dcs_all]
    rfl
  have hwe : IntKind.i64.wrap ((S.ep : Int) + 1) = (S.ep : Int) + 1 := by rw [IntKind.wrap_i64]; omega
  rw [hS']
  clear hS hm e1 hc
  go_enter Try.func14, Try.ntmps14
  go_upto_region 1 with (refine wpList_new34 rfl rfl ?_; intro w2 B2 W2)
  have K2 := Lib.hid (K1.out.below W2.out)
  have W3 : Hid (Below w.heap.size w w2) := W1.out.trans (W2.out.mono W1.out.size)
  have hz : (w.alloc (.cells (dcs S).toArray 34)).heap.size = w.heap.size + 1 := by simp
  rw [hz] at B2
  clear K1 W1 W2
  obtain ⟨d0, d1, d2, d3⟩ := dcells K2.out
  have f2 := K2.out.frozen 34
  rw [e2] at d2
  rw [ho, show ((nm true : Nat) : Int) = 1 from rfl] at d1
  go_upto_region 4 with fail
  go_upto_region 5 with fail
  have K3 : Hid (Blk (w2.setCell ⟨w.heap.size, 34, none⟩ (.int .i64 ((m : Int) + 1))) w.heap.size 34 (dcs ⟨S.n, S.a, S.b, true, some (m + 1), S.ep⟩)) := by
    have := K2.out.set_ 34 (.int .i64 ((m : Int) + 1))
    rwa [HD1.out] at this
  have B3 : Hid (Blk (w2.setCell ⟨w.heap.size, 34, none⟩ (.int .i64 ((m : Int) + 1))) (w.heap.size + 1) 34 (dcs stz)) := B2.out.other (p := ⟨w.heap.size, 34, none⟩) (by simp) _
  have W4 : Hid (Below w.heap.size w (w2.setCell ⟨w.heap.size, 34, none⟩ (.int .i64 ((m : Int) + 1)))) := below_only W3.out ((Far.refl (only w.heap.size) w2).set_ (p := ⟨w.heap.size, 34, none⟩) (fun _ => rfl) _) (Nat.le_refl _) W3.out.size
  clear K2 B2 W3 d0 d1 d2 d3 f2
  generalize (w2.setCell ⟨w.heap.size, 34, none⟩ (.int .i64 ((m : Int) + 1))) = w3 at *
  obtain ⟨d0, d1, d2, d3⟩ := dcells K3.out
  have d1' : w3.cell? ⟨w.heap.size, 33, none⟩ = some (.int .i64 1) := d1
  have d2' : w3.cell? ⟨w.heap.size, 34, none⟩ = some (.int .i64 ((m : Int) + 1)) := d2
  have d0' : w3.cell? ⟨w.heap.size, 0, none⟩ = some (.int .i64 (S.n : Nat)) := d0
  have d3' : w3.cell? ⟨w.heap.size, 35, none⟩ = some (.int .i64 (S.ep : Nat)) := d3
  clear d0 d1 d2 d3
  have hl2 : (m : Int) + 1 = (S.n : Int) := by omega
  have f33 := K3.out.frozen 33
  have f34 := K3.out.frozen 34
  have f35 := K3.out.frozen 35
  go_upto_region 6 with fail
  go_upto_region 7 with fail
  have K4 : Hid (Blk (((w3.setCell ⟨w.heap.size, 34, none⟩ (.int .i64 (-1))).setCell ⟨w.heap.size, 33, none⟩ (.int .i64 0)).setCell ⟨w.heap.size, 35, none⟩ (.int .i64 ((S.ep : Int) + 1))) w.heap.size 34 (dcs S')) := by
    have := ((K3.out.set_ 34 (.int .i64 (-1))).set_ 33 (.int .i64 0)).set_ 35 (.int .i64 ((S.ep : Int) + 1))
    rwa [HD2.out] at this
  have FF : Far (only w.heap.size) w3 (((w3.setCell ⟨w.heap.size, 34, none⟩ (.int .i64 (-1))).setCell ⟨w.heap.size, 33, none⟩ (.int .i64 0)).setCell ⟨w.heap.size, 35, none⟩ (.int .i64 ((S.ep : Int) + 1))) := (((Far.refl (only w.heap.size) w3).set_ (p := ⟨w.heap.size, 34, none⟩) (fun _ => rfl) _).set_ (p := ⟨w.heap.size, 33, none⟩) (fun _ => rfl) _).set_ (p := ⟨w.heap.size, 35, none⟩) (fun _ => rfl) _
  have B4 := Lib.hid (B3.out.far FF (fun e => by have e' : w.heap.size + 1 = w.heap.size := e; omega))
  have W5 : Hid (Below w.heap.size w _) := below_only W4.out FF (Nat.le_refl _) W4.out.size
  clear K3 B3 W4 FF d0' d1' d2' d3' f33 f34 f35
  generalize (((w3.setCell ⟨w.heap.size, 34, none⟩ (.int .i64 (-1))).setCell ⟨w.heap.size, 33, none⟩ (.int .i64 0)).setCell ⟨w.heap.size, 35, none⟩ (.int .i64 ((S.ep : Int) + 1))) = w4 at *
  go_wp2_with (first
    | (refine wpList_loadE (by rfl) 34 _ Try.underlying34 rfl (.tmp 1) rfl w.heap.size 0 rfl (dcs S') (whole_at K4.out) (by rw [dcs_len]; exact size34) ?_)
    | (refine wpList_lay rfl 34 36 size34 (.tmp 2) (.tmp 35) rfl (w.heap.size + 1) (dcs S') rfl rfl 34 _ B4.out (dcs_len _) (dcs_len _) (all_oneCell_toArray (dcs_each _)) ?_; intro w6 hB6 hF6; have hv := load_g hB6.out; have W6 : Hid (Below w.heap.size w w6) := below_only W5.out hF6.out (Nat.le_succ _) W5.out.size))
  refine bodyPost_ret (v := .tuple #[.agg (dcs S').toArray, .int .i64 (c : Nat)]) (by simp [results, Try.results14, asAddr, hv]) rfl ?_
  exact ⟨rfl, W6.out⟩
set_option maxRecDepth 100000 in
set_option maxHeartbeats 2000000 in
theorem dstep_more_false (S : St) (w : World) (hS : S.Ok) (m : Nat) (hm : S.mv = some m) (ho : S.o = false) (hl : ¬ m + 1 = S.n) : Calls Try.prog 14 #[.agg (dcs S).toArray] w (Ans (.tuple #[.agg (dcs (stp S)).toArray, .int .i64 ((stpC S : Nat))]) w) := by
  have K1 := Lib.hid (Blk.new w 34 (dcs S))
  have W1 : Hid (Below w.heap.size w (w.alloc (.cells (dcs S).toArray 34))) := (Below.refl _ w).alloc (Nat.le_refl _) _
  have hml := hS.mv m hm
  have hn2 := hS.n2
  have e1 : stp S = ⟨S.n, S.a, S.b, false, some (m + 1), S.ep⟩ := by
    unfold stp
    rw [hm]
    simp only
    rw [if_neg hl]
    rw [ho]
  have e2 : mvI S = (m : Nat) := by unfold mvI; rw [hm]
  obtain ⟨c, hc⟩ : ∃ c, stpC S = c := ⟨_, rfl⟩
  have hc1 : (m : Int) = (c : Int) := by
    rw [← hc]
    unfold stpC
    rw [hm, ho]
    show _ = ((0 * S.n + m : Nat) : Int)
    omega
  have hc2 : c < 200 := by omega
  rw [e1, hc]
  have hcm : m = c := by omega
  clear hc1
  subst hcm
  obtain ⟨S', hS'⟩ : ∃ X : St, ⟨S.n, S.a, S.b, false, some (m + 1), S.ep⟩ = X := ⟨_, rfl⟩
  have HD1 : Hid ((dcs S).set 34 (.int .i64 ((m : Int) + 1)) = dcs ⟨S.n, S.a, S.b, false, some (m + 1), S.ep⟩) := by
    show _ = _
    rw [dcs_set34, ← ho]
    rfl
  rw [hS']
  clear hS hm e1 hc
  go_enter Try.func14, Try.ntmps14
  go_upto_region 1 with (refine wpList_new34 rfl rfl ?_; intro w2 B2 W2)
  have K2 := Lib.hid (K1.out.below W2.out)
  have W3 : Hid (Below w.heap.size w w2) := W1.out.trans (W2.out.mono W1.out.size)
  have hz : (w.alloc (.cells (dcs S).toArray 34)).heap.size = w.heap.size + 1 := by simp
  rw [hz] at B2
  clear K1 W1 W2
  obtain ⟨d0, d1, d2, d3⟩ := dcells K2.out
  have f2 := K2.out.frozen 34
  rw [e2] at d2
  rw [ho, show ((nm false : Nat) : Int) = 0 from rfl] at d1
  go_upto_region 4 with fail
  go_upto_region 5 with fail
  have K3 : Hid (Blk (w2.setCell ⟨w.heap.size, 34, none⟩ (.int .i64 ((m : Int) + 1))) w.heap.size 34 (dcs ⟨S.n, S.a, S.b, false, some (m + 1), S.ep⟩)) := by
    have := K2.out.set_ 34 (.int .i64 ((m : Int) + 1))
    rwa [HD1.out] at this
  have B3 : Hid (Blk (w2.setCell ⟨w.heap.size, 34, none⟩ (.int .i64 ((m : Int) + 1))) (w.heap.size + 1) 34 (dcs stz)) := B2.out.other (p := ⟨w.heap.size, 34, none⟩) (by simp) _
  have W4 : Hid (Below w.heap.size w (w2.setCell ⟨w.heap.size, 34, none⟩ (.int .i64 ((m : Int) + 1)))) := below_only W3.out ((Far.refl (only w.heap.size) w2).set_ (p := ⟨w.heap.size, 34, none⟩) (fun _ => rfl) _) (Nat.le_refl _) W3.out.size
  clear K2 B2 W3 d0 d1 d2 d3 f2
  generalize (w2.setCell ⟨w.heap.size, 34, none⟩ (.int .i64 ((m : Int) + 1))) = w3 at *
  obtain ⟨d0, d1, d2, d3⟩ := dcells K3.out
  have d1' : w3.cell? ⟨w.heap.size, 33, none⟩ = some (.int .i64 0) := d1
  have d2' : w3.cell? ⟨w.heap.size, 34, none⟩ = some (.int .i64 ((m : Int) + 1)) := d2
  have d0' : w3.cell? ⟨w.heap.size, 0, none⟩ = some (.int .i64 (S.n : Nat)) := d0
  have d3' : w3.cell? ⟨w.heap.size, 35, none⟩ = some (.int .i64 (S.ep : Nat)) := d3
  clear d0 d1 d2 d3
  have hl2 : ¬ (m : Int) + 1 = (S.n : Int) := by omega
  go_upto_region 7 with fail
  subst hS'
  have K4 := Lib.hid K3.out
  have B4 := Lib.hid B3.out
  have W5 := Lib.hid W4.out
  clear K3 B3 W4 d0' d1' d2' d3'
  go_wp2_with (first
    | (refine wpList_loadE (by rfl) 34 _ Try.underlying34 rfl (.tmp 1) rfl w.heap.size 0 rfl (dcs ⟨S.n, S.a, S.b, false, some (m + 1), S.ep⟩) (whole_at K4.out) (by rw [dcs_len]; exact size34) ?_)
    | (refine wpList_lay rfl 34 36 size34 (.tmp 2) (.tmp 35) rfl (w.heap.size + 1) (dcs ⟨S.n, S.a, S.b, false, some (m + 1), S.ep⟩) rfl rfl 34 _ B4.out (dcs_len _) (dcs_len _) (all_oneCell_toArray (dcs_each _)) ?_; intro w6 hB6 hF6; have hv := load_g hB6.out; have W6 : Hid (Below w.heap.size w w6) := below_only W5.out hF6.out (Nat.le_succ _) W5.out.size))
  refine bodyPost_ret (v := .tuple #[.agg (dcs ⟨S.n, S.a, S.b, false, some (m + 1), S.ep⟩).toArray, .int .i64 (m : Nat)]) (by simp [results, Try.results14, asAddr, hv]) rfl ?_
  exact ⟨rfl, W6.out⟩
set_option maxRecDepth 100000 in
set_option maxHeartbeats 2000000 in
theorem dstep_more_true (S : St) (w : World) (hS : S.Ok) (m : Nat) (hm : S.mv = some m) (ho : S.o = true) (hl : ¬ m + 1 = S.n) : Calls Try.prog 14 #[.agg (dcs S).toArray] w (Ans (.tuple #[.agg (dcs (stp S)).toArray, .int .i64 ((stpC S : Nat))]) w) := by
  have K1 := Lib.hid (Blk.new w 34 (dcs S))
  have W1 : Hid (Below w.heap.size w (w.alloc (.cells (dcs S).toArray 34))) := (Below.refl _ w).alloc (Nat.le_refl _) _
  have hml := hS.mv m hm
  have hn2 := hS.n2
  have e1 : stp S = ⟨S.n, S.a, S.b, true, some (m + 1), S.ep⟩ := by
    unfold stp
    rw [hm]
    simp only
    rw [if_neg hl]
    rw [ho]
  have e2 : mvI S = (m : Nat) := by unfold mvI; rw [hm]
  obtain ⟨c, hc⟩ : ∃ c, stpC S = c := ⟨_, rfl⟩
  have hc1 : ((S.n : Nat) : Int) + (m : Int) = (c : Int) := by
    rw [← hc]
    unfold stpC
    rw [hm, ho]
    show _ = ((1 * S.n + m : Nat) : Int)
    omega
  have hc2 : c < 200 := by omega
  rw [e1, hc]
  obtain ⟨S', hS'⟩ : ∃ X : St, ⟨S.n, S.a, S.b, true, some (m + 1), S.ep⟩ = X := ⟨_, rfl⟩
  have HD1 : Hid ((dcs S).set 34 (.int .i64 ((m : Int) + 1)) = dcs ⟨S.n, S.a, S.b, true, some (m + 1), S.ep⟩) := by
    show _ = _
    rw [dcs_set34, ← ho]
    rfl
  rw [hS']
  clear hS hm e1 hc
  go_enter Try.func14, Try.ntmps14
  go_upto_region 1 with (refine wpList_new34 rfl rfl ?_; intro w2 B2 W2)
  have K2 := Lib.hid (K1.out.below W2.out)
  have W3 : Hid (Below w.heap.size w w2) := W1.out.trans (W2.out.mono W1.out.size)
  have hz : (w.alloc (.cells (dcs S).toArray 34)).heap.size = w.heap.size + 1 := by simp
  rw [hz] at B2
  clear K1 W1 W2
  obtain ⟨d0, d1, d2, d3⟩ := dcells K2.out
  have f2 := K2.out.frozen 34
  rw [e2] at d2
  rw [ho, show ((nm true : Nat) : Int) = 1 from rfl] at d1
  go_upto_region 4 with fail
  go_upto_region 5 with fail
  have K3 : Hid (Blk (w2.setCell ⟨w.heap.size, 34, none⟩ (.int .i64 ((m : Int) + 1))) w.heap.size 34 (dcs ⟨S.n, S.a, S.b, true, some (m + 1), S.ep⟩)) := by
    have := K2.out.set_ 34 (.int .i64 ((m : Int) + 1))
    rwa [HD1.out] at this
  have B3 : Hid (Blk (w2.setCell ⟨w.heap.size, 34, none⟩ (.int .i64 ((m : Int) + 1))) (w.heap.size + 1) 34 (dcs stz)) := B2.out.other (p := ⟨w.heap.size, 34, none⟩) (by simp) _
  have W4 : Hid (Below w.heap.size w (w2.setCell ⟨w.heap.size, 34, none⟩ (.int .i64 ((m : Int) + 1)))) := below_only W3.out ((Far.refl (only w.heap.size) w2).set_ (p := ⟨w.heap.size, 34, none⟩) (fun _ => rfl) _) (Nat.le_refl _) W3.out.size
  clear K2 B2 W3 d0 d1 d2 d3 f2
  generalize (w2.setCell ⟨w.heap.size, 34, none⟩ (.int .i64 ((m : Int) + 1))) = w3 at *
  obtain ⟨d0, d1, d2, d3⟩ := dcells K3.out
  have d1' : w3.cell? ⟨w.heap.size, 33, none⟩ = some (.int .i64 1) := d1
  have d2' : w3.cell? ⟨w.heap.size, 34, none⟩ = some (.int .i64 ((m : Int) + 1)) := d2
  have d0' : w3.cell? ⟨w.heap.size, 0, none⟩ = some (.int .i64 (S.n : Nat)) := d0
  have d3' : w3.cell? ⟨w.heap.size, 35, none⟩ = some (.int .i64 (S.ep : Nat)) := d3
  clear d0 d1 d2 d3
  have hl2 : ¬ (m : Int) + 1 = (S.n : Int) := by omega
  go_upto_region 7 with fail
  subst hS'
  have K4 := Lib.hid K3.out
  have B4 := Lib.hid B3.out
  have W5 := Lib.hid W4.out
  clear K3 B3 W4 d0' d1' d2' d3'
  go_wp2_with (first
    | (refine wpList_loadE (by rfl) 34 _ Try.underlying34 rfl (.tmp 1) rfl w.heap.size 0 rfl (dcs ⟨S.n, S.a, S.b, true, some (m + 1), S.ep⟩) (whole_at K4.out) (by rw [dcs_len]; exact size34) ?_)
    | (refine wpList_lay rfl 34 36 size34 (.tmp 2) (.tmp 35) rfl (w.heap.size + 1) (dcs ⟨S.n, S.a, S.b, true, some (m + 1), S.ep⟩) rfl rfl 34 _ B4.out (dcs_len _) (dcs_len _) (all_oneCell_toArray (dcs_each _)) ?_; intro w6 hB6 hF6; have hv := load_g hB6.out; have W6 : Hid (Below w.heap.size w w6) := below_only W5.out hF6.out (Nat.le_succ _) W5.out.size))
  refine bodyPost_ret (v := .tuple #[.agg (dcs ⟨S.n, S.a, S.b, true, some (m + 1), S.ep⟩).toArray, .int .i64 (c : Nat)]) (by simp [results, Try.results14, asAddr, hv]) rfl ?_
  exact ⟨rfl, W6.out⟩
end Go.Proofs.Ytfhlgmmfknfamaa
