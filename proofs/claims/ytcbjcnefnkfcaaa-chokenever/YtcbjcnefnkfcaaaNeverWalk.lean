/- The walk of ChokeNever. Conditions: the program's contracts. -/
import Derived.Test.YtcbjcnefnkfcaaaProgs
import Derived.Great.BuildSlice
namespace Go.Proofs.Ytcbjcnefnkfcaaa
open Go.RowKit

theorem infoFB : (Try.prog.info? 27).map (fun i => (i.zero, i.size, i.bytes)) = some (some (.agg flo0.cs.toArray), 36, 38) := by kernel_rfl
theorem run_onef (f : Flo) (w : World) : (Instr.buildSlice 23 1 #[(0, .agg f.cs.toArray)]).run Try.prog w = .ok (.slice (some ⟨w.heap.size, 0, none⟩) 1 1) (w.alloc (.cells f.cs.toArray 27)) := by
  obtain ⟨i, hi, hh⟩ := Option.map_eq_some_iff.1 infoFB
  simp only [Prod.mk.injEq] at hh
  have hsz := hh.2.1
  refine run_buildSlice (P := Try.prog) w 23 27 1 _ _ i _ Try.underlying23 hi hh.1 (by rw [hsz]; decide) (by rw [hsz]; decide) ?_
  rw [hsz]
  have := Great.fill_whole (s := 36) (by decide) [.agg f.cs.toArray] ((Array.range (1 * 36)).map ((Value.agg flo0.cs.toArray).cells[· % (Value.agg flo0.cs.toArray).cells.size]!)) (fun v hv => by
    have e : v = .agg f.cs.toArray := by simpa using hv
    rw [e]
    show f.cs.toArray.size = 36
    rw [List.size_toArray, flo36]) (by simp)
  rw [show ([(0, Value.agg f.cs.toArray)] : List (Nat × Value)) = ([Value.agg f.cs.toArray].zipIdx 0).map (fun x => (x.2, x.1)) from rfl]
  rw [this]
  congr 1
  simp [Value.cells]
theorem wpList_onef {ops : Array Oper} {rest : List Oper} {o : Oper} {a : Act} {w : World} {Q : Exit → Act → World → Prop} (hgd : o.guard = none) (x : Operand) (ho : o.op = .buildSlice 23 1 #[(0, x)])
    (f : Flo) (hx : a.eval x = .agg f.cs.toArray) (hK : wpList Try.prog ops Q rest (a.put o.dst (.slice (some ⟨w.heap.size, 0, none⟩) 1 1)) (w.alloc (.cells f.cs.toArray 27))) : wpList Try.prog ops Q (o :: rest) a w := by
  refine wpList_plain hgd fun K hK' => ?_
  unfold Oper.wp
  have hrun := run_onef f w
  simp [execOp, ho, hx, hrun, Result.andThen, Oper.upon]
  exact hK' _ _ hK
theorem rep_next {k : Nat} {f : Flo} : List.replicate k f ++ [f] = List.replicate (k + 1) f := by rw [List.replicate_succ']
/-- Whether f is among the first k. -/
def among (L : List Flo) (f : Flo) (k : Nat) : Bool := decide (f ∈ L.take k)
theorem among_zero (L : List Flo) (f : Flo) : among L f 0 = false := by simp [among]
theorem among_step {L : List Flo} {f : Flo} {k : Nat} (h : k < L.length) : among L f (k + 1) = (among L f k || decide (at_ L k = f)) := by
  unfold among
  rw [List.take_add_one, at_some h]
  rw [Bool.eq_iff_iff]
  have e : (f ∈ L.take k ++ [at_ L k]) ↔ (f ∈ L.take k ∨ at_ L k = f) := by
    rw [List.mem_append, List.mem_singleton]
    exact ⟨fun h => h.imp id Eq.symm, fun h => h.imp id Eq.symm⟩
  rw [Bool.or_eq_true, decide_eq_true_eq, decide_eq_true_eq, decide_eq_true_eq]
  exact e
theorem among_all {L : List Flo} {f : Flo} {d : Int} (h : among L f L.length = false) : met d L f = false := by
  unfold among at h
  rw [List.take_length] at h
  have h' : f ∉ L := by simpa using h
  by_cases hne : L = []
  · simp [met, hne]
  · have : at_ L (pk d L) ≠ f := fun e => h' (e ▸ at_mem (pk_lt hne))
    simp [met, this]
theorem met_rep {n : Nat} {f : Flo} {d : Int} : met d (List.replicate n f) f = decide (0 < n) := by
  rcases n with _ | n
  · simp [met]
  · have hne : List.replicate (n + 1) f ≠ [] := by simp [List.replicate_succ]
    have h1 := pk_lt (d := d) hne
    have h2 : at_ (List.replicate (n + 1) f) (pk d (List.replicate (n + 1) f)) = f := List.eq_of_mem_replicate (at_mem h1)
    unfold met
    rw [h2]
    simp
set_option maxRecDepth 100000 in
set_option maxHeartbeats 2000000 in
theorem never_long (P : ProgC) (d : Int) (A : Option Addr) (l c : Nat) (f : Flo) (w : World) (hl : 100 < l) (hm : l ≤ maxLen) :
    Calls Try.prog 4 #[.int .u64 d, .slice A l c, .agg f.cs.toArray] w (Ans (.bool true) w) := by
  have HA := Lib.hid (fun W => awake_ P W)
  have W1 : Hid (Below w.heap.size w (w.alloc (.cells f.cs.toArray 27))) := (Below.refl _ w).alloc (Nat.le_refl _) _
  unfold maxLen at hm
  clear P
  go_enter Try.func4, Try.ntmps4
  go_upto_region 1 with fail
  generalize (w.alloc (.cells f.cs.toArray 27)) = w1 at *
  go_wp2_with (first
    | (go_at_call 6; (with_reducible refine (HA.out w1).mono ?_); rintro e w2 ⟨rfl, hb⟩; have W2 : Hid (Below w.heap.size w w2) := W1.out.trans (hb.mono W1.out.size); clear hb)
    | (go_at_call 6; (with_reducible refine (HA.out w2).mono ?_); rintro e w3 ⟨rfl, hb⟩; have W3 : Hid (Below w.heap.size w w3) := W2.out.trans (hb.mono W2.out.size); clear hb))
  go_ret
  exact ⟨rfl, W3.out⟩
set_option maxRecDepth 100000 in
set_option maxHeartbeats 4000000 in
theorem never_near (P : ProgC) (d : Int) (A : Option Addr) (L : List Flo) (c : Nat) (f : Flo) (w : World) (hd : u64 d) (hl : L.length ≤ 100) (hE : Els kFlo w A L) (hO : ∀ x ∈ L, x.Ok) (hf : f.Ok) :
    Calls Try.prog 4 #[.int .u64 d, .slice A L.length c, .agg f.cs.toArray] w (Ans (.bool true) w) := by
  have HA := Lib.hid (fun W => awake_ P W)
  have HO := Lib.hid (And.intro hO hf)
  have HE0 := Lib.hid hE
  have W0 : Hid (Below w.heap.size w (w.alloc (.cells f.cs.toArray 27))) := (Below.refl _ w).alloc (Nat.le_refl _) _
  have K0 := Lib.hid (Blk.new w 27 f.cs)
  have HM := Lib.hid (fun W (hW : Below w.heap.size w W) => P.match_ d A c L f W hd (hE.below hW) hO hf (by omega))
  have HM2 := Lib.hid (fun W A2 c2 (R : List Flo) (hR : Els kFlo W A2 R) (ho : ∀ x ∈ R, x.Ok) (hr : R.length ≤ 100000) => P.match_ d A2 c2 R f W hd hR ho hf hr)
  obtain ⟨l, hll⟩ : ∃ l, L.length = l := ⟨_, rfl⟩
  have HL := Lib.hid hll
  rw [hll] at HM hl ⊢
  clear hll P hE hO hf hd
  go_enter Try.func4, Try.ntmps4
  go_upto_region 1 with fail
  generalize (w.alloc (.cells f.cs.toArray 27)) = w0 at *
  go_upto_region 3 with (go_at_call 6; (with_reducible refine (HA.out w0).mono ?_); rintro e w1 ⟨rfl, hb⟩; have W1 : Hid (Below w.heap.size w w1) := W0.out.trans (hb.mono W0.out.size); have K1 := Lib.hid (K0.out.below hb); clear hb)
  clear W0 K0 HA
  go_wp2_with fail
  go_loopw [7, 8, 9, 24] (fun vm v _ i w' => ∃ (k : Nat) (bm : Bool), k ≤ l ∧ vm = .bool bm ∧ i = .int .i64 k ∧ among L f k = bm ∧ Ow kFlo 27 w1.heap.size v (List.replicate k f) w' ∧ Below w1.heap.size w1 w') (fun _ _ _ i _ => l - (intOf i).toNat)
  case atStart => exact ⟨0, false, by omega, rfl, rfl, among_zero _ _, Ow.nil, Below.refl _ _⟩
  case round =>
    obtain ⟨k, bm, hk, rfl, rfl, hbm, ho, hbe⟩ := hrel
    have WR := Lib.hid hbe
    have OR := Lib.hid ho
    have KR := Lib.hid (K1.out.below hbe)
    clear hbe ho
    by_cases hlt : k < l
    · have hkL : k < L.length := by rw [HL.out]; exact hlt
      obtain ⟨qa, oa, hA, hs⟩ := (HE0.out.below W1.out).below WR.out k _ (at_some hkL)
      have HS : Hid (wr.rangeAt qa (oa + k * 36) (at_ L k).cs) := hs
      obtain ⟨eb, heb⟩ : ∃ b, decide (at_ L k = f) = b := ⟨_, rfl⟩
      have HQ := Lib.hid (eq_flo (HO.out.1 _ (at_mem hkL)) HO.out.2)
      rw [heb] at HQ
      have HNX0 := among_step (f := f) hkL
      rw [hbm, heb] at HNX0
      subst hA
      clear hs hkL heb hbm
      go_upto_region 8 with fail
      rcases bm with _ | _
      · have HNX : Hid (among L f (k + 1) = eb) := HNX0
        clear HNX0
        go_wp2_with fail
        have HS0 : Hid (wr.drew.rangeAt qa (oa + k * 36) (at_ L k).cs ∧ Blk wr.drew w.heap.size 27 f.cs) := ⟨HS.out, KR.out⟩
        refine wp_region_held_drew (S := fun W => W.rangeAt qa (oa + k * 36) (at_ L k).cs ∧ Blk W w.heap.size 27 f.cs) (by kernel_rfl) ?_ (fun _ => ?_)
        · exact HS0.out
        have W4 : Hid (Below w1.heap.size w1 wr.drew) := WR.out.drew
        have K4 : Hid (Blk wr.drew w.heap.size 27 f.cs) := KR.out
        have O4 := Lib.hid (OR.out.below (show Below wr.heap.size wr wr.drew from below_drewN (Below.refl _ _) 1))
        clear WR KR OR HS
        generalize wr.drew = x0 at *
        refine wpAnyH_take (i := 0) (oi := ⟨some 27, _, _, _, _, _⟩) (v := ?_) rfl (by kernel_rfl) (by kernel_rfl) (by kernel_rfl) (fun _ _ _ h => h) (Or.inl ⟨by rfl, ?_⟩) HS0.out ?_
        rotate_left
        · (intro W hSW; clear hSW; go_simp)
          first | done | (with_reducible rfl)
        try simp only [Act.put, List.setIfInBounds_toArray, List.set_cons_zero, List.set_cons_succ]
        refine wpAnyH_take (i := 1) (oi := ⟨some 28, _, _, _, _, _⟩) (v := ?_) rfl (by kernel_rfl) (by kernel_rfl) (by kernel_rfl) (fun _ _ _ h => h) (Or.inl ⟨by rfl, ?_⟩) HS0.out ?_
        rotate_left
        · (intro W hSW; clear hSW; go_simp)
          first | done | (with_reducible rfl)
        try simp only [Act.put, List.setIfInBounds_toArray, List.set_cons_zero, List.set_cons_succ]
        refine wpAnyH_take (i := 2) (oi := ⟨some 29, _, _, _, _, _⟩) (v := ?_) rfl (by kernel_rfl) (by kernel_rfl) (by kernel_rfl) (fun _ _ _ h => h) (Or.inl ⟨by rfl, ?_⟩) HS0.out ?_
        rotate_left
        · (intro W hSW; clear hSW; go_simp)
          first | done | (with_reducible rfl)
        try simp only [Act.put, List.setIfInBounds_toArray, List.set_cons_zero, List.set_cons_succ]
        refine wpAnyH_take (i := 3) (oi := ⟨some 30, _, _, _, _, _⟩) (v := ?_) rfl (by kernel_rfl) (by kernel_rfl) (by kernel_rfl) (fun _ _ _ h => h) (Or.inl ⟨by rfl, ?_⟩) HS0.out ?_
        rotate_left
        · (intro W hSW; clear hSW; go_simp)
          first | done | (with_reducible rfl)
        try simp only [Act.put, List.setIfInBounds_toArray, List.set_cons_zero, List.set_cons_succ]
        refine wpAnyH_take (i := 4) (oi := ⟨some 31, _, _, _, _, _⟩) (v := ?_) rfl (by kernel_rfl) (by kernel_rfl) (by kernel_rfl) (fun _ _ _ h => h) (Or.inl ⟨by rfl, ?_⟩) HS0.out ?_
        rotate_left
        · (intro W hSW; clear hSW; go_simp)
          first | done | (with_reducible rfl)
        try simp only [Act.put, List.setIfInBounds_toArray, List.set_cons_zero, List.set_cons_succ]
        refine wpAnyH_take (i := 5) (oi := ⟨some 32, _, _, _, _, _⟩) (v := .agg (at_ L k).cs.toArray) rfl (by kernel_rfl) (by kernel_rfl) (by kernel_rfl) (fun _ _ _ h => h) (yields_flo (by rfl) (.tmp 31) rfl qa (oa + k * 36) rfl (at_ L k) (fun _ h => h.1)) HS0.out ?_
        try simp only [Act.put, List.setIfInBounds_toArray, List.set_cons_zero, List.set_cons_succ]
        refine wpAnyH_take (i := 6) (oi := ⟨some 33, _, _, _, _, _⟩) (v := .agg f.cs.toArray) rfl (by kernel_rfl) (by kernel_rfl) (by kernel_rfl) (fun _ _ _ h => h) (yields_flo (by rfl) (.tmp 5) rfl _ 0 rfl f (fun _ h => whole_at h.2)) HS0.out ?_
        try simp only [Act.put, List.setIfInBounds_toArray, List.set_cons_zero, List.set_cons_succ]
        refine wpAnyH_take (i := 7) (oi := ⟨some 34, _, _, _, _, _⟩) (v := .bool eb) rfl (by kernel_rfl) (by kernel_rfl) (by kernel_rfl) (fun _ _ _ h => h) (yields_eql (by rfl) 27 (by kernel_rfl) (.tmp 32) (.tmp 33) 27 rfl _ _ rfl rfl _ HQ.out) HS0.out ?_
        try simp only [Act.put, List.setIfInBounds_toArray, List.set_cons_zero, List.set_cons_succ]
        refine wpAnyH_take (i := 8) (oi := ⟨some 35, _, _, _, _, _⟩) (v := .bool eb) rfl (by kernel_rfl) (by kernel_rfl) (by kernel_rfl) (fun _ _ _ h => h) (Or.inl ⟨by rfl, ?_⟩) HS0.out ?_
        · (intro W hSW; clear hSW; go_simp)
        try simp only [Act.put, List.setIfInBounds_toArray, List.set_cons_zero, List.set_cons_succ]
        refine wpAnyH_take (i := 9) (oi := ⟨some 7, _, _, _, _, _⟩) (v := ?_) rfl (by kernel_rfl) (by kernel_rfl) (by kernel_rfl) (fun _ _ _ h => h) (Or.inl ⟨by rfl, ?_⟩) HS0.out ?_
        rotate_left
        · (intro W hSW; clear hSW; go_simp)
          first | done | (with_reducible rfl)
        try simp only [Act.put, List.setIfInBounds_toArray, List.set_cons_zero, List.set_cons_succ]
        refine wpAnyH_done (by kernel_rfl) ?_ _
        clear HS0
        have hz := W4.out.size
        have hb3 : Below x0.heap.size x0 (x0.alloc (.cells f.cs.toArray 27)) := (Below.refl _ _).alloc (Nat.le_refl _) _
        obtain ⟨v3, w3, hrun, o3, g3, b3⟩ := run_app (P := Try.prog) (R := [f]) (x0.alloc (.cells f.cs.toArray 27)) 23 23 (.agg flo0.cs.toArray) 38 Try.underlying23 infoFB rfl (by decide) (O4.out.below hb3) (Els.of_blk (Blk.new x0 27 f.cs)) 1 (by simp; omega) (by simp; omega)
        rw [rep_next] at o3
        have O3 := Lib.hid o3
        have W3 : Hid (Below w1.heap.size w1 w3) := (W4.out.trans (hb3.mono W4.out.size)).trans ((Far.grown (S := fun k => w1.heap.size ≤ k) (Far.refl _ _) g3 (fun k hk _ => (O4.out.lt k hk).1)).below (by have := W4.out.size; simp; omega) (fun k hk e => by omega))
        rw [show ([f] : List Flo).length = 1 from rfl] at hrun
        clear o3 g3 b3 hb3
        go_upto_region 10 with (first | (refine wpList_flo (by rfl) (.tmp 5) rfl w.heap.size 0 rfl f (whole_at K4.out) ?_) | (refine wpList_onef rfl (.tmp 37) rfl f rfl ?_) | (at_builtin; refine wpList_app rfl 23 (.tmp 36) (.tmp 38) rfl _ _ _ rfl rfl hrun ?_; clear hrun))
        go_wp2_with fail
        go_roundw
        case rel => exact ⟨k + 1, eb, by omega, rfl, by go_num, HNX.out, O3.out, W3.out⟩
        case measure => simp [intOf]; omega
      · have HNX : Hid (among L f (k + 1) = true) := HNX0
        clear HNX0
        go_wp2_with fail
        have HS0 : Hid (wr.drew.rangeAt qa (oa + k * 36) (at_ L k).cs ∧ Blk wr.drew w.heap.size 27 f.cs) := ⟨HS.out, KR.out⟩
        refine wp_region_held_drew (S := fun W => W.rangeAt qa (oa + k * 36) (at_ L k).cs ∧ Blk W w.heap.size 27 f.cs) (by kernel_rfl) ?_ (fun _ => ?_)
        · exact HS0.out
        have W4 : Hid (Below w1.heap.size w1 wr.drew) := WR.out.drew
        have K4 : Hid (Blk wr.drew w.heap.size 27 f.cs) := KR.out
        have O4 := Lib.hid (OR.out.below (show Below wr.heap.size wr wr.drew from below_drewN (Below.refl _ _) 1))
        clear WR KR OR HS
        generalize wr.drew = x0 at *
        refine wpAnyH_take (i := 0) (oi := ⟨some 27, _, _, _, _, _⟩) (v := ?_) rfl (by kernel_rfl) (by kernel_rfl) (by kernel_rfl) (fun _ _ _ h => h) (Or.inl ⟨by rfl, ?_⟩) HS0.out ?_
        rotate_left
        · (intro W hSW; clear hSW; go_simp)
          first | done | (with_reducible rfl)
        try simp only [Act.put, List.setIfInBounds_toArray, List.set_cons_zero, List.set_cons_succ]
        refine wpAnyH_take (i := 1) (oi := ⟨some 28, _, _, _, _, _⟩) (v := ?_) rfl (by kernel_rfl) (by kernel_rfl) (by kernel_rfl) (fun _ _ _ h => h) (Or.inl ⟨by rfl, ?_⟩) HS0.out ?_
        rotate_left
        · (intro W hSW; clear hSW; go_simp)
          first | done | (with_reducible rfl)
        try simp only [Act.put, List.setIfInBounds_toArray, List.set_cons_zero, List.set_cons_succ]
        refine wpAnyH_take (i := 2) (oi := ⟨some 29, _, _, _, _, _⟩) (v := undef) rfl (by kernel_rfl) (by kernel_rfl) (by kernel_rfl) (fun _ _ _ h => h) (Or.inr ⟨by rfl, rfl⟩) HS0.out ?_
        try simp only [Act.put, List.setIfInBounds_toArray, List.set_cons_zero, List.set_cons_succ]
        refine wpAnyH_take (i := 3) (oi := ⟨some 30, _, _, _, _, _⟩) (v := undef) rfl (by kernel_rfl) (by kernel_rfl) (by kernel_rfl) (fun _ _ _ h => h) (Or.inr ⟨by rfl, rfl⟩) HS0.out ?_
        try simp only [Act.put, List.setIfInBounds_toArray, List.set_cons_zero, List.set_cons_succ]
        refine wpAnyH_take (i := 4) (oi := ⟨some 31, _, _, _, _, _⟩) (v := undef) rfl (by kernel_rfl) (by kernel_rfl) (by kernel_rfl) (fun _ _ _ h => h) (Or.inr ⟨by rfl, rfl⟩) HS0.out ?_
        try simp only [Act.put, List.setIfInBounds_toArray, List.set_cons_zero, List.set_cons_succ]
        refine wpAnyH_take (i := 5) (oi := ⟨some 32, _, _, _, _, _⟩) (v := undef) rfl (by kernel_rfl) (by kernel_rfl) (by kernel_rfl) (fun _ _ _ h => h) (Or.inr ⟨by rfl, rfl⟩) HS0.out ?_
        try simp only [Act.put, List.setIfInBounds_toArray, List.set_cons_zero, List.set_cons_succ]
        refine wpAnyH_take (i := 6) (oi := ⟨some 33, _, _, _, _, _⟩) (v := undef) rfl (by kernel_rfl) (by kernel_rfl) (by kernel_rfl) (fun _ _ _ h => h) (Or.inr ⟨by rfl, rfl⟩) HS0.out ?_
        try simp only [Act.put, List.setIfInBounds_toArray, List.set_cons_zero, List.set_cons_succ]
        refine wpAnyH_take (i := 7) (oi := ⟨some 34, _, _, _, _, _⟩) (v := undef) rfl (by kernel_rfl) (by kernel_rfl) (by kernel_rfl) (fun _ _ _ h => h) (Or.inr ⟨by rfl, rfl⟩) HS0.out ?_
        try simp only [Act.put, List.setIfInBounds_toArray, List.set_cons_zero, List.set_cons_succ]
        refine wpAnyH_take (i := 8) (oi := ⟨some 35, _, _, _, _, _⟩) (v := .bool true) rfl (by kernel_rfl) (by kernel_rfl) (by kernel_rfl) (fun _ _ _ h => h) (Or.inl ⟨by rfl, ?_⟩) HS0.out ?_
        · (intro W hSW; clear hSW; go_simp)
        try simp only [Act.put, List.setIfInBounds_toArray, List.set_cons_zero, List.set_cons_succ]
        refine wpAnyH_take (i := 9) (oi := ⟨some 7, _, _, _, _, _⟩) (v := ?_) rfl (by kernel_rfl) (by kernel_rfl) (by kernel_rfl) (fun _ _ _ h => h) (Or.inl ⟨by rfl, ?_⟩) HS0.out ?_
        rotate_left
        · (intro W hSW; clear hSW; go_simp)
          first | done | (with_reducible rfl)
        try simp only [Act.put, List.setIfInBounds_toArray, List.set_cons_zero, List.set_cons_succ]
        refine wpAnyH_done (by kernel_rfl) ?_ _
        clear HS0
        have hz := W4.out.size
        have hb3 : Below x0.heap.size x0 (x0.alloc (.cells f.cs.toArray 27)) := (Below.refl _ _).alloc (Nat.le_refl _) _
        obtain ⟨v3, w3, hrun, o3, g3, b3⟩ := run_app (P := Try.prog) (R := [f]) (x0.alloc (.cells f.cs.toArray 27)) 23 23 (.agg flo0.cs.toArray) 38 Try.underlying23 infoFB rfl (by decide) (O4.out.below hb3) (Els.of_blk (Blk.new x0 27 f.cs)) 1 (by simp; omega) (by simp; omega)
        rw [rep_next] at o3
        have O3 := Lib.hid o3
        have W3 : Hid (Below w1.heap.size w1 w3) := (W4.out.trans (hb3.mono W4.out.size)).trans ((Far.grown (S := fun k => w1.heap.size ≤ k) (Far.refl _ _) g3 (fun k hk _ => (O4.out.lt k hk).1)).below (by have := W4.out.size; simp; omega) (fun k hk e => by omega))
        rw [show ([f] : List Flo).length = 1 from rfl] at hrun
        clear o3 g3 b3 hb3
        go_upto_region 10 with (first | (refine wpList_flo (by rfl) (.tmp 5) rfl w.heap.size 0 rfl f (whole_at K4.out) ?_) | (refine wpList_onef rfl (.tmp 37) rfl f rfl ?_) | (at_builtin; refine wpList_app rfl 23 (.tmp 36) (.tmp 38) rfl _ _ _ rfl rfl hrun ?_; clear hrun))
        go_wp2_with fail
        go_roundw
        case rel => exact ⟨k + 1, true, by omega, rfl, by go_num, HNX.out, O3.out, W3.out⟩
        case measure => simp [intOf]; omega
    · have hkl : k = l := by omega
      subst hkl
      have hlen := HL.out
      obtain ⟨A3, c3, ev, hc3, _, hE3, _, _⟩ := OR.out.els
      have HE3 := Lib.hid hE3
      have WR2 : Hid (Below w.heap.size w wr) := W1.out.trans (WR.out.mono W1.out.size)
      have HR : Hid ((∀ x ∈ List.replicate k f, x.Ok) ∧ (List.replicate k f).length ≤ 100000) := ⟨fun x hx => by rw [List.eq_of_mem_replicate hx]; exact HO.out.2, by simp; omega⟩
      have hmr := met_rep (n := k) (f := f) (d := d)
      obtain ⟨mb, hmb⟩ : ∃ b, met d L f = b := ⟨_, rfl⟩
      obtain ⟨m1, hm1⟩ : ∃ m, mat d L f = m := ⟨_, rfl⟩
      obtain ⟨m2, hm2⟩ : ∃ m, mat d (List.replicate k f) f = m := ⟨_, rfl⟩
      have hor : bm = false → mb = false := fun e => by rw [← hmb]; exact among_all (by rw [hlen, hbm, e])
      rw [hmb, hm1] at HM
      have HMR := fun W hW => HM2.out W A3 c3 _ (HE3.out.below hW) HR.out.1 HR.out.2
      rw [hmr, hm2, List.length_replicate] at HMR
      have HM3 := Lib.hid HMR
      rw [List.length_replicate] at ev
      subst ev
      have KR2 := Lib.hid (KR.out)
      clear hc3 hE3 HM2 HR hmr hmb hm1 hm2 HMR hbm WR OR KR HE0 HO
      go_upto_region 12 with (first
        | (refine wpList_flo (by rfl) (.tmp 5) rfl _ 0 rfl f (whole_at KR2.out) ?_)
        | (go_at_call 8; (with_reducible refine (HM.out _ WR2.out).mono ?_); rintro e w4 ⟨rfl, hb⟩; have W4 : Hid (Below w.heap.size w w4) := WR2.out.trans (hb.mono WR2.out.size); have K4 := Lib.hid (KR2.out.below hb); have B4 := Lib.hid hb; clear hb))
      go_upto_region 13 with (first
        | (refine wpList_flo (by rfl) (.tmp 5) rfl _ 0 rfl f (whole_at K4.out) ?_)
        | (go_at_call 8; (with_reducible refine (HM3.out _ B4.out).mono ?_); rintro e w5 ⟨rfl, hb⟩; have W5 : Hid (Below w.heap.size w w5) := W4.out.trans (hb.mono W4.out.size); clear hb))
      clear K4 W4 B4 HM HM3 WR2 KR2
      have hdec : decide (0 < k) = decide ((0 : Int) < (k : Int)) := by
        rw [Bool.eq_iff_iff, decide_eq_true_eq, decide_eq_true_eq]
        omega
      rw [hdec]
      rcases bm with _ | _
      · have e := hor rfl
        subst e
        clear hor
        go_wp2
        go_ret
        exact ⟨rfl, W5.out⟩
      · clear hor
        go_wp2
        go_ret
        exact ⟨rfl, W5.out⟩
end Go.Proofs.Ytcbjcnefnkfcaaa
