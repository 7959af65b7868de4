/- The walk of GensMove. Conditions: the program's contracts. -/
import Derived.Test.YtfhlgmmfknfamaaEpochsWalk
namespace Go.Proofs.Ytfhlgmmfknfamaa
open Go.RowKit

theorem infoI3 : (Try.prog.info? 3).map (fun i => (i.zero, i.size, i.bytes)) = some (some (.int .i64 0), kInt.n, 8) := by kernel_rfl
/-- Others, that are left alone: they live between lo and hi. -/
def Fix (T : Gbl) (h : Nat) (S : St) (lo hi : Nat) (W : World) : Prop := ∃ b, T b W h S ∧ ∀ k, b k → lo ≤ k ∧ k < hi
section
variable {T : Gbl} {K : Ks} {h lo hi hi' : Nat} {S : St} {W W' : World} {f : Flo}
theorem Fix.far (P : ProgG T K) (x : Fix T h S lo hi W) {X : Nat → Prop} (hf : Far X W W') (hX : ∀ k, lo ≤ k → k < hi → ¬ X k) : Fix T h S lo hi W' := by
  obtain ⟨b, h1, h2⟩ := x
  exact ⟨b, P.keep _ _ _ _ _ X h1 hf (fun k hk => hX k (h2 k hk).1 (h2 k hk).2), h2⟩
theorem Fix.below (P : ProgG T K) (x : Fix T h S lo hi W) (hb : Below W.heap.size W W') : Fix T h S lo hi W' := x.far P (Far.of_below hb nobody) (fun _ _ _ e => e)
theorem Fix.wide (x : Fix T h S lo hi W) (hh : hi ≤ hi') : Fix T h S lo hi' W := by
  obtain ⟨b, h1, h2⟩ := x
  exact ⟨b, h1, fun k hk => ⟨(h2 k hk).1, Nat.lt_of_lt_of_le (h2 k hk).2 hh⟩⟩
theorem Fix.where_ (P : ProgG T K) (x : Fix T h S lo hi W) (ho : S.Ok) (hf : f.Ok) : Calls Try.prog 17 #[.pointer (some ⟨h, 0, none⟩), .agg f.cs.toArray] W (Ans (.tuple #[.int .i64 (nm (gen K S f) : Nat), .int .i64 (cls K S f : Nat)]) W) := by
  obtain ⟨b, h1, _⟩ := x
  exact P.where_ b W h S f h1 ho hf
theorem Fix.new (P : ProgG T K) {n : Nat} {k : Key} (h1 : 1 ≤ n) (h2 : n ≤ 64) (hk : k.Ok) : Calls Try.prog 8 #[.int .i64 (n : Nat), .agg k.cs.toArray] W fun e W' => ∃ h, e = .returned (.tuple #[.pointer (some ⟨h, 0, none⟩), .int .i64 0]) ∧ Fix T h (st0 n k) W.heap.size W'.heap.size W' ∧ Below W.heap.size W W' :=
  (P.new n k W h1 h2 hk).mono fun _ _ ⟨h, b, he, ht, hb, hbe⟩ => ⟨h, he, ⟨b, ht, fun j hj => ⟨hb j hj, P.lt _ _ _ _ ht j hj⟩⟩, hbe⟩
end
section
variable {K : Ks} {n : Nat} {k k2 : Key} {f : Flo}
theorem new_gen : gen K (st0 n k) f = false := rfl
theorem new_cls : cls K (st0 n k) f = K.bk k f n := by
  unfold cls
  rw [new_gen]
  show 0 * n + K.bk ((st0 n k).key false) f n = _
  rw [Nat.zero_mul, Nat.zero_add]
  rfl
/-- The first m + 1 buckets are moved. -/
theorem step_gen {m : Nat} (hm : m < n) : gen K (stps (rek (st0 n k) k2) (m + 1)) f = decide (K.bk k f n ≤ m) ∧ cls K (stps (rek (st0 n k) k2) (m + 1)) f = if K.bk k f n ≤ m then n + K.bk k2 f n else K.bk k f n := by
  have h0 : (rek (st0 n k) k2).mv = some 0 := rfl
  have hn : (stps (rek (st0 n k) k2) (m + 1)).n = n := stps_n _ _
  have ka : (stps (rek (st0 n k) k2) (m + 1)).key false = k := stps_key _ _ _
  have kb : (stps (rek (st0 n k) k2) (m + 1)).key true = k2 := stps_key _ _ _
  have hmv := stps_mv h0 (show 1 ≤ n by omega) (m + 1)
  have hlt := K.lt k f n (by omega)
  by_cases hl : m + 1 < n
  · obtain ⟨a1, a2, _⟩ := hmv.1 hl
    have a2' : (stps (rek (st0 n k) k2) (m + 1)).o = false := a2
    have hg : gen K (stps (rek (st0 n k) k2) (m + 1)) f = decide (K.bk k f n ≤ m) := by
      rw [gen_some a1, a2', ka, hn]
      by_cases hb : K.bk k f n ≤ m
      · rw [if_pos (by omega), decide_eq_true hb]; rfl
      · rw [if_neg (by omega), decide_eq_false hb]
    refine ⟨hg, ?_⟩
    unfold cls
    rw [hg, hn]
    by_cases hb : K.bk k f n ≤ m
    · rw [decide_eq_true hb, if_pos hb, kb]
      show 1 * n + _ = _
      rw [Nat.one_mul]
    · rw [decide_eq_false hb, if_neg hb, ka]
      show 0 * n + _ = _
      rw [Nat.zero_mul, Nat.zero_add]
  · obtain ⟨a1, a2, _⟩ := hmv.2 (show n ≤ m + 1 by omega)
    have a2' : (stps (rek (st0 n k) k2) (m + 1)).o = true := a2
    have hb : K.bk k f n ≤ m := by omega
    have hg : gen K (stps (rek (st0 n k) k2) (m + 1)) f = decide (K.bk k f n ≤ m) := by
      rw [gen_none a1, a2', decide_eq_true hb]
    refine ⟨hg, ?_⟩
    unfold cls
    rw [hg, hn, decide_eq_true hb, if_pos hb, kb]
    show 1 * n + _ = _
    rw [Nat.one_mul]
/-- What the step number m tells. -/
theorem step_tell {m : Nat} (hm : m < n) : stpC (stps (rek (st0 n k) k2) m) = m ∧ (stps (rek (st0 n k) k2) m).mv.isSome = true ∧ (stps (rek (st0 n k) k2) (m + 1)).mv.isSome = decide (m + 1 < n) := by
  have h0 : (rek (st0 n k) k2).mv = some 0 := rfl
  have hmv := stps_mv h0 (show 1 ≤ n by omega) m
  have hmv2 := stps_mv h0 (show 1 ≤ n by omega) (m + 1)
  have hn : (stps (rek (st0 n k) k2) m).n = n := stps_n _ _
  obtain ⟨a1, a2, _⟩ := hmv.1 hm
  have a2' : (stps (rek (st0 n k) k2) m).o = false := a2
  refine ⟨?_, by rw [a1]; rfl, ?_⟩
  · unfold stpC
    rw [a1]
    show nm (stps (rek (st0 n k) k2) m).o * _ + m = m
    rw [a2']
    show 0 * _ + m = m
    omega
  · by_cases hl : m + 1 < n
    · rw [(hmv2.1 hl).1, decide_eq_true hl]; rfl
    · rw [(hmv2.2 (show n ≤ m + 1 by omega)).1, decide_eq_false hl]; rfl
end
/-- While they move: gens, others that never had another key, where each flow was. -/
structure Mv (T : Gbl) (w1 : World) (g h : Nat) (S S2 : St) (lo hi : Nat) (A : Option Addr) (R : List Int) (W : World) : Prop where
  a : At T w1 g S (fun j => lo ≤ j ∧ j < hi) W
  x : Fix T h S2 lo hi W
  e : Els kInt W A R
  loc : ∀ ad, A = some ad → lo ≤ ad.block ∧ ad.block < hi
section
variable {T : Gbl} {K : Ks} {w1 W W' : World} {g h lo hi : Nat} {S S' S2 : St} {A : Option Addr} {R : List Int} {v : Value} {e : Ending}
theorem Mv.below (P : ProgG T K) (m : Mv T w1 g h S S2 lo hi A R W) (hb : Below W.heap.size W W') : Mv T w1 g h S S2 lo hi A R W' := ⟨m.a.below P hb, m.x.below P hb, m.e.below hb, m.loc⟩
theorem Mv.act (P : ProgG T K) (m : Mv T w1 g h S S2 lo hi A R W) (ha : Act1 T w1 g S' (fun j => lo ≤ j ∧ j < hi) v W e W') : Mv T w1 g h S' S2 lo hi A R W' :=
  ⟨ha.2.1, m.x.far P ha.2.2 (fun _ h1 h2 n => n.2 ⟨h1, h2⟩), m.e.far ha.2.2 (fun _ _ e n => n.2 (m.loc _ e)), m.loc⟩
end
set_option maxRecDepth 100000 in
set_option maxHeartbeats 2000000 in
theorem move_long (T : Gbl) (K : Ks) (P : ProgG T K) (b0 : Int) (k k2 : Key) (A : Option Addr) (l c : Nat) (w : World) (hl : 10 < l) (hm : l ≤ maxLen) :
    Calls Try.prog 4 #[.int .u8 b0, .agg k.cs.toArray, .agg k2.cs.toArray, .slice A l c] w (Ans (.bool true) w) := by
  have HA := Lib.hid (fun W => awake_ T K P W)
  obtain ⟨x1, x2, x4⟩ := two_box k.cs k2.cs 22 22 w
  have X4 := Lib.hid x4
  unfold maxLen at hm
  clear P x1 x2 x4
  go_enter Try.func4, Try.ntmps4
  go_upto_region 1 with fail
  generalize ((w.alloc (.cells k.cs.toArray 22)).alloc (.cells k2.cs.toArray 22)) = w0 at *
  go_wp2_with (first
    | (go_at_call 7; (with_reducible refine (HA.out w0).mono ?_); rintro e w1 ⟨rfl, hb⟩; have W1 : Hid (Below w.heap.size w w1) := X4.out.trans (hb.mono X4.out.size); clear hb)
    | (go_at_call 7; (with_reducible refine (HA.out w1).mono ?_); rintro e w2 ⟨rfl, hb⟩; have W2 : Hid (Below w.heap.size w w2) := W1.out.trans (hb.mono W1.out.size); clear hb))
  go_ret
  exact ⟨rfl, W2.out⟩
set_option maxRecDepth 100000 in
set_option maxHeartbeats 8000000 in
theorem move_near (T : Gbl) (K : Ks) (P : ProgG T K) (b0 : Int) (k k2 : Key) (A : Option Addr) (L : List Flo) (c : Nat) (w : World) (hb0 : 0 ≤ b0 ∧ b0 ≤ 255) (hl : L.length ≤ 10) (hk : k.Ok) (hk2 : k2.Ok) (hE : Els kFlo w A L) (hL : ∀ x ∈ L, x.Ok) :
    Calls Try.prog 4 #[.int .u8 b0, .agg k.cs.toArray, .agg k2.cs.toArray, .slice A L.length c] w (Ans (.bool true) w) := by
  have HP := Lib.hid P
  have HA := Lib.hid (fun W => awake_ T K P W)
  have HO : Hid (k.Ok ∧ k2.Ok) := ⟨hk, hk2⟩
  have HL := Lib.hid hL
  have HE := Lib.hid hE
  obtain ⟨x1, x2, x4⟩ := two_box k.cs k2.cs 22 22 w
  have X1 := Lib.hid x1
  have X2 := Lib.hid x2
  have X4 := Lib.hid x4
  obtain ⟨m, hm⟩ : ∃ m : Nat, Int.tmod b0 64 = (m : Int) := ⟨(Int.tmod b0 64).toNat, by have := Int.tmod_nonneg 64 hb0.1; omega⟩
  have hml : m < 64 := by have := Int.tmod_lt_of_pos b0 (show (0 : Int) < 64 by omega); omega
  obtain ⟨n, hn⟩ : ∃ n : Nat, (1 : Int) + (m : Int) = (n : Int) := ⟨m + 1, by omega⟩
  have hwb : IntKind.i64.wrap b0 = b0 := by rw [IntKind.wrap_i64]; omega
  obtain ⟨l, hll⟩ : ∃ l, L.length = l := ⟨_, rfl⟩
  have HLL := Lib.hid hll
  rw [hll] at hl ⊢
  clear P hk hk2 x1 x2 x4 hE hL hll
  go_enter Try.func4, Try.ntmps4
  go_upto_region 1 with fail
  generalize ((w.alloc (.cells k.cs.toArray 22)).alloc (.cells k2.cs.toArray 22)) = w0 at *
  go_upto_region 3 with (go_at_call 7; (with_reducible refine (HA.out w0).mono ?_); rintro e w1 ⟨rfl, hb⟩; have HK : Hid (Blk w1 w.heap.size 22 k.cs ∧ Blk w1 (w.heap.size + 1) 22 k2.cs) := ⟨X1.out.below hb, X2.out.below hb⟩; have WB : Hid (Below w.heap.size w w1) := X4.out.trans (hb.mono X4.out.size); clear hb)
  clear X1 X2 X4 HA
  have HNEW := Lib.hid (At.new (w := w1) HP.out (Below.refl _ w1) (m := n) (by omega) (by omega) HO.out.1)
  go_upto_region 5 with (first
    | (refine wpList_key (by rfl) (.tmp 5) rfl _ 0 rfl k (whole_at HK.out.1) ?_)
    | (go_at_call 8; (with_reducible refine HNEW.out.mono ?_); rintro e w2 ⟨g, rfl, ha⟩; have A2 := Lib.hid ha; clear ha))
  have HNEW2 := Lib.hid (Fix.new (W := w2) HP.out (n := n) (by omega) (by omega) HO.out.2)
  go_upto_region 6 with (first
    | (refine wpList_key (by rfl) (.tmp 6) rfl _ 0 rfl k2 (whole_at (HK.out.2.below A2.out.be)) ?_)
    | (go_at_call 8; (with_reducible refine HNEW2.out.mono ?_); rintro e w3 ⟨h, rfl, hx, hb⟩; have X3 := Lib.hid hx; have B3 := Lib.hid hb; clear hx hb))
  have HS0 : Hid (st0 n k).Ok := st0_ok (by omega) (by omega) HO.out.1
  have HT0 : Hid (st0 n k2).Ok := st0_ok (by omega) (by omega) HO.out.2
  clear HNEW HNEW2 hwb hm
  have hn1 : 1 ≤ n := by omega
  have hn64 : n ≤ 64 := by omega
  have HF1 : Hid (∀ W, Below w1.heap.size w1 W → ∀ i x, L[i]? = some x → ∃ qa oa, A = some ⟨qa, oa, none⟩ ∧ W.rangeAt qa (oa + i * 36) x.cs) := fun W hW i x hx => ((HE.out.below WB.out).below hW) i x hx
  go_wp2_with fail
  go_loopw [14, 15, 16, 17, 52] (fun v _ _ _ i w' => ∃ j : Nat, j ≤ l ∧ i = .int .i64 j ∧ Ow kInt 3 w3.heap.size v ((L.take j).map fun f => (K.bk k f n : Int)) w' ∧ Below w3.heap.size w3 w') (fun _ _ _ _ i _ => l - (intOf i).toNat)
  case atStart => exact ⟨0, by omega, rfl, Ow.nil, Below.refl _ _⟩
  case round =>
    obtain ⟨j, hj, rfl, ho, hbe⟩ := hrel
    have O1 := Lib.hid ho
    have B1 := Lib.hid hbe
    clear ho hbe
    have AR : Hid (At T w1 g (st0 n k) nobody wr) := (A2.out.below HP.out B3.out).below HP.out B1.out
    by_cases hlt : j < l
    · have hjL : j < L.length := by rw [HLL.out]; exact hlt
      obtain ⟨f, hf⟩ : ∃ f, L[j]? = some f := ⟨_, List.getElem?_eq_getElem hjL⟩
      have HFO : Hid f.Ok := HL.out f (List.mem_of_getElem? hf)
      obtain ⟨qa, oa, hA, hs⟩ := HF1.out wr AR.out.be j f hf
      have HRG := Lib.hid hs
      have HNX : Hid ((L.take j).map (fun f => (K.bk k f n : Int)) ++ [(K.bk k f n : Int)] = (L.take (j + 1)).map (fun f => (K.bk k f n : Int))) := by
        show _ = _
        rw [List.take_add_one, hf]
        simp
      have HW := Lib.hid (AR.out.where_ HP.out HS0.out HFO.out)
      rw [new_gen, new_cls] at HW
      have hlt2 := K.lt k f n hn1
      generalize K.bk k f n = bv at *
      subst hA
      clear hs hf hjL HFO
      go_upto_region 11 with (first
        | (refine wpList_flo (by rfl) (.tmp 59) rfl qa (oa + j * 36) rfl f HRG.out ?_)
        | (go_at_call 17; (with_reducible refine HW.out.mono ?_); rintro e w5 ⟨rfl, hb⟩; have O5 := Lib.hid (O1.out.below hb); have B5 : Hid (Below w3.heap.size w3 w5) := B1.out.trans (hb.mono B1.out.size); clear hb))
      clear O1 B1 AR HW HRG
      have hz := B5.out.size
      have hb6 : Below w5.heap.size w5 (w5.alloc (.cells #[.int .i64 (bv : Nat)] 3)) := (Below.refl _ _).alloc (Nat.le_refl _) _
      obtain ⟨v6, w6, hrun, o6, g6, b6⟩ := run_app (P := Try.prog) (R := [((bv : Nat) : Int)]) (w5.alloc (.cells #[.int .i64 (bv : Nat)] 3)) 47 47 (.int .i64 0) 8 Try.underlying47 infoI3 rfl (by decide) (O5.out.below hb6) (Els.of_blk (K := kInt) (Blk.new w5 3 [.int .i64 (bv : Nat)])) 1 (by simp; omega) (by simp; omega)
      rw [HNX.out] at o6
      have O6 := Lib.hid o6
      have B6 : Hid (Below w3.heap.size w3 w6) := (B5.out.trans (hb6.mono hz)).trans ((Far.grown (S := fun k => w3.heap.size ≤ k) (Far.refl _ _) g6 (fun k hk _ => (O5.out.lt k hk).1)).below (by simp; omega) (fun k hk e => by omega))
      rw [show ([((bv : Nat) : Int)] : List Int).length = 1 from rfl] at hrun
      clear o6 g6 b6 hb6
      go_upto_region 12 with (at_builtin; refine wpList_app rfl 47 (.tmp 64) (.tmp 66) rfl _ _ _ rfl rfl hrun ?_; clear hrun)
      go_wp2_with fail
      go_roundw
      case rel => exact ⟨j + 1, by omega, by go_num, O6.out, B6.out⟩
      case measure => simp [intOf]; omega
    · have hjl : l = j := by omega
      subst hjl
      obtain ⟨R, hR⟩ : ∃ R, L.map (fun f => (K.bk k f n : Int)) = R := ⟨_, rfl⟩
      have htk : L.take l = L := List.take_of_length_le (by rw [HLL.out]; omega)
      rw [htk, hR] at O1
      obtain ⟨Aw, cw, ev, _, _, hEw, hob, _⟩ := O1.out.els
      have hloc : ∀ ad, Aw = some ad → w2.heap.size ≤ ad.block ∧ ad.block < wr.heap.size := fun ad e0 => by
        have h1 := O1.out.lt _ (by rw [hob, e0]; rfl)
        exact ⟨Nat.le_trans B3.out.size h1.1, h1.2⟩
      have hRl : R.length = l := by rw [← hR, List.length_map, HLL.out]
      have HR : Hid (∀ i f, L[i]? = some f → R[i]? = some ((K.bk k f n : Nat) : Int)) := fun i f hf => by rw [← hR, List.getElem?_map, hf]; rfl
      have hb2 : Below w2.heap.size w2 wr := B3.out.trans (B1.out.mono B3.out.size)
      have M0 : Hid (Mv T w1 g h (st0 n k) (st0 n k2) w2.heap.size wr.heap.size Aw R wr) := ⟨(A2.out.grow HP.out hb2).less (fun j hj => .inr hj), (X3.out.below HP.out B1.out).wide B1.out.size, hEw, hloc⟩
      rw [hRl] at ev
      subst ev
      clear hRl hloc hob hEw htk hR hb2 O1 B1 AR A2 B3 X3
      generalize w2.heap.size = lo at *
      obtain ⟨hi, hhi⟩ : ∃ x, wr.heap.size = x := ⟨_, rfl⟩
      rw [hhi] at M0
      clear hhi
      have hq0 : rekE (st0 n k) = 0 := rfl
      have HRK := Lib.hid (M0.out.a.rekey HP.out HS0.out HO.out.2)
      rw [hq0] at HRK
      have HS1 : Hid (rek (st0 n k) k2).Ok := rek_ok HS0.out HO.out.2
      have hq1 : rekE (rek (st0 n k) k2) = 4 := rfl
      have hq2 : rek (rek (st0 n k) k2) k = rek (st0 n k) k2 := rfl
      have HRK2 := Lib.hid (fun W (hW : Mv T w1 g h (rek (st0 n k) k2) (st0 n k2) lo hi Aw R W) => hW.a.rekey HP.out HS1.out HO.out.1)
      rw [hq1, hq2] at HRK2
      clear hq0 hq1 hq2
      go_upto_region 15 with (first
        | (refine wpList_key (by rfl) (.tmp 6) rfl _ 0 rfl k2 (whole_at (HK.out.2.below M0.out.a.be)) ?_)
        | (refine wpList_key (by rfl) (.tmp 5) rfl _ 0 rfl k (whole_at (HK.out.1.below M4.out.a.be)) ?_)
        | (go_at_call 9; (with_reducible refine HRK.out.mono ?_); rintro e w4 hact; have M4 := Lib.hid (M0.out.act HP.out hact); obtain ⟨rfl, -, -⟩ := hact)
        | (go_at_call 9; (with_reducible refine (HRK2.out _ M4.out).mono ?_); rintro e w5 hact; have M5 := Lib.hid (M4.out.act HP.out hact); obtain ⟨rfl, -, -⟩ := hact))
      clear HRK HRK2 M0 M4 HS0
      have HST : Hid (∀ m, m < n → (stps (rek (st0 n k) k2) m).Ok) := fun m _ => stps_ok HS1.out (by show (0 : Nat) ≤ _; omega) rfl m
      go_wp2_with fail
      go_loopw [18, 19, 20, 21, 22, 23, 24, 25, 80] (fun _ _ _ _ _ _ _ _ i w' => ∃ m : Nat, m ≤ n ∧ i = .int .i64 m ∧ Mv T w1 g h (stps (rek (st0 n k) k2) m) (st0 n k2) lo hi Aw R w') (fun _ _ _ _ _ _ _ _ i _ => n - (intOf i).toNat)
      case atStart => exact ⟨0, by omega, rfl, M5.out⟩
      case round =>
        clear M5
        obtain ⟨m, hm, rfl, ha⟩ := hrel
        have MR := Lib.hid ha
        clear ha
        by_cases hlt : m < n
        · obtain ⟨t1, t2, t3⟩ := step_tell (k := k) (k2 := k2) hlt
          have HSP := Lib.hid (MR.out.a.step HP.out (HST.out m hlt))
          rw [t1, t2] at HSP
          have HSG := Lib.hid (fun f => step_gen (K := K) (k := k) (k2 := k2) (f := f) hlt)
          have HS2 : Hid (stps (rek (st0 n k) k2) (m + 1)).Ok := stps_ok HS1.out (by show (0 : Nat) ≤ _; omega) rfl (m + 1)
          obtain ⟨mb, hmb⟩ : ∃ b, decide (m + 1 < n) = b := ⟨_, rfl⟩
          have hdc : decide ((m : Int) < (n : Int) - 1) = mb := by
            rw [← hmb, Bool.eq_iff_iff, decide_eq_true_eq, decide_eq_true_eq]
            omega
          rw [hmb] at t3
          have HT3 := Lib.hid t3
          clear t1 t2 t3 hmb
          have e1 : stp (stps (rek (st0 n k) k2) m) = stps (rek (st0 n k) k2) (m + 1) := rfl
          rw [e1] at HSP
          obtain ⟨S2, hS2⟩ : ∃ S, stps (rek (st0 n k) k2) (m + 1) = S := ⟨_, rfl⟩
          rw [hS2] at HSP HSG HS2 HT3
          clear e1
          go_upto_region 19 with (go_at_call 13; (with_reducible refine HSP.out.mono ?_); rintro e w6 hact; have M6 := Lib.hid (MR.out.act HP.out hact); obtain ⟨rfl, -, -⟩ := hact)
          clear MR HSP
          have HMO := Lib.hid (M6.out.a.moving HP.out)
          rw [HT3.out] at HMO
          go_upto_region 21 with (go_at_call 10; (with_reducible refine HMO.out.mono ?_); rintro e w7 ⟨rfl, hb⟩; have M7 := Lib.hid (M6.out.below HP.out hb); clear hb)
          clear M6 HMO HT3 hdc
          go_wp2_with fail
          go_loopw [21, 22, 23, 24, 25, 106] (fun _ _ _ _ _ i w' => ∃ j : Nat, j ≤ l ∧ i = .int .i64 j ∧ Mv T w1 g h S2 (st0 n k2) lo hi Aw R w') (fun _ _ _ _ _ i _ => l - (intOf i).toNat)
          case atStart => exact ⟨0, by omega, rfl, M7.out⟩
          case round =>
            clear M7
            obtain ⟨j, hj, rfl, ha⟩ := hrel
            have MR := Lib.hid ha
            clear ha
            by_cases hlt2 : j < l
            · have hjL : j < L.length := by rw [HLL.out]; exact hlt2
              obtain ⟨f, hf⟩ : ∃ f, L[j]? = some f := ⟨_, List.getElem?_eq_getElem hjL⟩
              have HFO : Hid f.Ok := HL.out f (List.mem_of_getElem? hf)
              obtain ⟨qa, oa, hA, hs⟩ := HF1.out wr MR.out.a.be j f hf
              have HRG := Lib.hid hs
              obtain ⟨qw, ow, hAw, hsw⟩ := MR.out.e j _ (HR.out j f hf)
              have HCW : Hid (∀ W, Below wr.heap.size wr W → W.cell? ⟨qw, ow + j, none⟩ = some (.int .i64 ((K.bk k f n : Nat) : Int))) := fun W hW => by
                have h0 := hsw 0 _ rfl
                rw [show kInt.n = 1 from rfl, Nat.mul_one, Nat.add_zero] at h0
                exact (hW.cell (World.block_lt_of_cell? wr _ h0)).trans h0
              obtain ⟨g1, g2⟩ := HSG.out f
              have HW := Lib.hid (MR.out.a.where_ HP.out HS2.out HFO.out)
              rw [g1, g2] at HW
              have HW2 := Lib.hid (fun W (hW : Fix T h (st0 n k2) lo hi W) => hW.where_ HP.out HT0.out HFO.out)
              rw [new_gen, new_cls] at HW2
              have hbl := K.lt k f n hn1
              have hbl2 := K.lt k2 f n hn1
              generalize K.bk k f n = bv at *
              generalize K.bk k2 f n = nv at *
              subst hA
              subst hAw
              clear hs hsw hf hjL HFO g1 g2
              by_cases hbm : bv ≤ m
              · obtain ⟨c2, hc2⟩ : ∃ c2 : Nat, (n : Int) + (nv : Int) = (c2 : Int) := ⟨n + nv, by omega⟩
                have hc3 : n + nv = c2 := by omega
                rw [decide_eq_true hbm, if_pos hbm, hc3, show ((nm true : Nat) : Int) = 1 from rfl] at HW
                have i1 : (bv : Int) ≤ (m : Int) := by omega
                have i2 : ¬ (m : Int) < (bv : Int) := by omega
                have i3 : ¬ m < bv := by omega
                go_upto_region 25 with (first
                  | (refine wpList_flo (by rfl) (.tmp 113) rfl qa (oa + j * 36) rfl f HRG.out ?_)
                  | (go_at_call 17; (with_reducible refine HW.out.mono ?_); rintro e w8 ⟨rfl, hb⟩; have M8 := Lib.hid (MR.out.below HP.out hb); have HRG8 : Hid (w8.rangeAt qa (oa + j * 36) f.cs) := (fun i u hi => (hb.cell (World.block_lt_of_cell? wr _ (HRG.out i u hi))).trans (HRG.out i u hi)); have HB8 := Lib.hid hb; clear hb))
                clear HW HRG
                go_upto_region 26 with (first
                  | (refine wpList_flo (by rfl) (.tmp 122) rfl qa (oa + j * 36) rfl f HRG8.out ?_)
                  | (go_at_call 17; (with_reducible refine (HW2.out _ M8.out.x).mono ?_); rintro e w9 ⟨rfl, hb⟩; have M9 := Lib.hid (M8.out.below HP.out hb); have c0 := HCW.out w9 (HB8.out.trans (hb.mono HB8.out.size)); clear hb))
                clear HW2 HRG8 HCW HB8 M8 MR
                go_wp2_with fail
                go_roundw
                case rel => exact ⟨j + 1, by omega, by go_num, M9.out⟩
                case measure => simp [intOf]; omega
              · rw [decide_eq_false hbm, if_neg hbm, show ((nm false : Nat) : Int) = 0 from rfl] at HW
                have i1 : ¬ (bv : Int) ≤ (m : Int) := by omega
                have i2 : (m : Int) < (bv : Int) := by omega
                have i3 : m < bv := by omega
                go_upto_region 25 with (first
                  | (refine wpList_flo (by rfl) (.tmp 113) rfl qa (oa + j * 36) rfl f HRG.out ?_)
                  | (go_at_call 17; (with_reducible refine HW.out.mono ?_); rintro e w8 ⟨rfl, hb⟩; have M8 := Lib.hid (MR.out.below HP.out hb); have HRG8 : Hid (w8.rangeAt qa (oa + j * 36) f.cs) := (fun i u hi => (hb.cell (World.block_lt_of_cell? wr _ (HRG.out i u hi))).trans (HRG.out i u hi)); have HB8 := Lib.hid hb; clear hb))
                clear HW HRG
                go_upto_region 26 with (first
                  | (refine wpList_flo (by rfl) (.tmp 122) rfl qa (oa + j * 36) rfl f HRG8.out ?_)
                  | (go_at_call 17; (with_reducible refine (HW2.out _ M8.out.x).mono ?_); rintro e w9 ⟨rfl, hb⟩; have M9 := Lib.hid (M8.out.below HP.out hb); have c0 := HCW.out w9 (HB8.out.trans (hb.mono HB8.out.size)); clear hb))
                clear HW2 HRG8 HCW HB8 M8 MR
                go_wp2_with fail
                go_roundw
                case rel => exact ⟨j + 1, by omega, by go_num, M9.out⟩
                case measure => simp [intOf]; omega
            · have hjl2 : l = j := by omega
              subst hjl2
              go_wp2_with fail
              go_roundw
              case rel => exact ⟨m + 1, by omega, by go_num, hS2 ▸ MR.out⟩
              case measure => simp [intOf]; omega
        · have hmn : n = m := by omega
          subst hmn
          have hfin := (stps_mv (S := rek (st0 n k) k2) rfl hn1 n).2 (Nat.le_refl _)
          obtain ⟨z1, z2, z3⟩ := hfin
          have z2' : (stps (rek (st0 n k) k2) n).o = true := z2
          have z3' : (stps (rek (st0 n k) k2) n).ep = 1 := z3
          have HSO : Hid (stps (rek (st0 n k) k2) n).Ok := stps_ok HS1.out (by show (0 : Nat) ≤ _; omega) rfl n
          have hrz : rekE (stps (rek (st0 n k) k2) n) = 0 := by unfold rekE; rw [z1]; rfl
          obtain ⟨S2, hS2⟩ : ∃ S, stps (rek (st0 n k) k2) n = S := ⟨_, rfl⟩
          rw [hS2] at MR z1 z2' z3' HSO hrz
          have HOL := Lib.hid (MR.out.a.old HP.out)
          rw [z2', show ((nm true : Nat) : Int) = 1 from rfl] at HOL
          have HEP := Lib.hid (fun W (hW : Mv T w1 g h S2 (st0 n k2) lo hi Aw R W) => hW.a.epoch HP.out)
          rw [z3', show ((1 : Nat) : Int) = 1 from rfl] at HEP
          have HRE := Lib.hid (fun W (hW : Mv T w1 g h S2 (st0 n k2) lo hi Aw R W) => hW.a.rekey HP.out HSO.out HO.out.1)
          rw [hrz] at HRE
          clear z1 z2 z3 z2' z3' hrz hS2
          go_wp2_with (first
            | (go_at_call 18; (with_reducible refine HOL.out.mono ?_); rintro e w8 ⟨rfl, hb⟩; have M8 := Lib.hid (MR.out.below HP.out hb); clear hb)
            | (go_at_call 11; (with_reducible refine (HEP.out _ M8.out).mono ?_); rintro e w9 ⟨rfl, hb⟩; have M9 := Lib.hid (M8.out.below HP.out hb); clear hb)
            | (refine wpList_key (by rfl) (.tmp 5) rfl _ 0 rfl k (whole_at (HK.out.1.below M9.out.a.be)) ?_)
            | (go_at_call 9; (with_reducible refine (HRE.out _ M9.out).mono ?_); rintro e wx hact; have MX := Lib.hid (M9.out.act HP.out hact); obtain ⟨rfl, -, -⟩ := hact))
          go_ret
          exact ⟨rfl, WB.out.trans (MX.out.a.be.mono WB.out.size)⟩
end Go.Proofs.Ytfhlgmmfknfamaa
