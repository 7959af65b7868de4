/- The walk of GensEpochs. Conditions: the program's contracts. -/
import Derived.Test.YtfhlgmmfknfamaaAwake
namespace Go.Proofs.Ytfhlgmmfknfamaa
open Go.RowKit

theorem two_box (a b : List Value) (ta tb : TypeId) (w : World) : Blk ((w.alloc (.cells a.toArray ta)).alloc (.cells b.toArray tb)) w.heap.size ta a ∧ Blk ((w.alloc (.cells a.toArray ta)).alloc (.cells b.toArray tb)) (w.heap.size + 1) tb b ∧ Below w.heap.size w ((w.alloc (.cells a.toArray ta)).alloc (.cells b.toArray tb)) := by
  refine ⟨(Blk.new w ta a).alloc _, ?_, ((Below.refl _ w).alloc (Nat.le_refl _) _).alloc (by simp) _⟩
  have := Blk.new (w.alloc (.cells a.toArray ta)) tb b
  rwa [show (w.alloc (.cells a.toArray ta)).heap.size = w.heap.size + 1 by simp] at this
theorem par_next (k : Nat) (o : Bool) (h : o = decide (k % 2 = 1)) : (!o) = decide ((k + 1) % 2 = 1) := by
  subst h
  rcases Nat.mod_two_eq_zero_or_one k with h | h
  · rw [decide_eq_false (by omega), decide_eq_true (by omega)]; rfl
  · rw [decide_eq_true h, decide_eq_false (by omega)]; rfl
set_option maxRecDepth 100000 in
set_option maxHeartbeats 2000000 in
theorem epochs_long (T : Gbl) (K : Ks) (P : ProgG T K) (b0 : Int) (k : Key) (A : Option Addr) (l c : Nat) (f : Flo) (w : World) (hl : 8 < l) (hm : l ≤ maxLen) :
    Calls Try.prog 5 #[.int .u8 b0, .agg k.cs.toArray, .slice A l c, .agg f.cs.toArray] w (Ans (.bool true) w) := by
  have HA := Lib.hid (fun W => awake_ T K P W)
  obtain ⟨x1, x2, x4⟩ := two_box k.cs f.cs 22 45 w
  have X4 := Lib.hid x4
  unfold maxLen at hm
  clear P x1 x2 x4
  go_enter Try.func5, Try.ntmps5
  go_upto_region 1 with fail
  generalize ((w.alloc (.cells k.cs.toArray 22)).alloc (.cells f.cs.toArray 45)) = w0 at *
  go_wp2_with (first
    | (go_at_call 7; (with_reducible refine (HA.out w0).mono ?_); rintro e w1 ⟨rfl, hb⟩; have W1 : Hid (Below w.heap.size w w1) := X4.out.trans (hb.mono X4.out.size); clear hb)
    | (go_at_call 7; (with_reducible refine (HA.out w1).mono ?_); rintro e w2 ⟨rfl, hb⟩; have W2 : Hid (Below w.heap.size w w2) := W1.out.trans (hb.mono W1.out.size); clear hb))
  go_ret
  exact ⟨rfl, W2.out⟩
set_option maxRecDepth 100000 in
set_option maxHeartbeats 8000000 in
theorem epochs_near (T : Gbl) (K : Ks) (P : ProgG T K) (b0 : Int) (k0 : Key) (A : Option Addr) (L : List Key) (c : Nat) (f : Flo) (w : World) (hb0 : 0 ≤ b0 ∧ b0 ≤ 255) (hl : L.length ≤ 8) (hk : k0.Ok) (hE : Els kKey w A L) (hL : ∀ x ∈ L, x.Ok) (hf : f.Ok) :
    Calls Try.prog 5 #[.int .u8 b0, .agg k0.cs.toArray, .slice A L.length c, .agg f.cs.toArray] w (Ans (.bool true) w) := by
  have HP := Lib.hid P
  have HA := Lib.hid (fun W => awake_ T K P W)
  have HO : Hid (k0.Ok ∧ f.Ok) := ⟨hk, hf⟩
  have HL := Lib.hid hL
  have HE := Lib.hid hE
  obtain ⟨x1, x2, x4⟩ := two_box k0.cs f.cs 22 45 w
  have X1 := Lib.hid x1
  have X2 := Lib.hid x2
  have X4 := Lib.hid x4
  obtain ⟨m, hm⟩ : ∃ m : Nat, Int.tmod b0 20 = (m : Int) := ⟨(Int.tmod b0 20).toNat, by have := Int.tmod_nonneg 20 hb0.1; omega⟩
  have hml : m < 20 := by have := Int.tmod_lt_of_pos b0 (show (0 : Int) < 20 by omega); omega
  obtain ⟨n, hn⟩ : ∃ n : Nat, (1 : Int) + (m : Int) = (n : Int) := ⟨m + 1, by omega⟩
  have hwb : IntKind.i64.wrap b0 = b0 := by rw [IntKind.wrap_i64]; omega
  obtain ⟨l, hll⟩ : ∃ l, L.length = l := ⟨_, rfl⟩
  have HLL := Lib.hid hll
  rw [hll] at hl ⊢
  clear P hk hf x1 x2 x4 hE hL hll
  go_enter Try.func5, Try.ntmps5
  go_upto_region 1 with fail
  generalize ((w.alloc (.cells k0.cs.toArray 22)).alloc (.cells f.cs.toArray 45)) = w0 at *
  go_upto_region 3 with (go_at_call 7; (with_reducible refine (HA.out w0).mono ?_); rintro e w1 ⟨rfl, hb⟩; have HK : Hid (Blk w1 w.heap.size 22 k0.cs) := X1.out.below hb; have HF : Hid (Blk w1 (w.heap.size + 1) 45 f.cs) := X2.out.below hb; have WB : Hid (Below w.heap.size w w1) := X4.out.trans (hb.mono X4.out.size); clear hb)
  clear X1 X2 X4 HA
  have HNEW := Lib.hid (At.new (w := w1) HP.out (Below.refl _ w1) (m := n) (by omega) (by omega) HO.out.1)
  go_upto_region 5 with (first
    | (refine wpList_key (by rfl) (.tmp 5) rfl _ 0 rfl k0 (whole_at HK.out) ?_)
    | (go_at_call 8; (with_reducible refine HNEW.out.mono ?_); rintro e w2 ⟨g, rfl, ha⟩; have A2 := Lib.hid ha; clear ha))
  have hS0 := st0_ok (k := k0) (n := n) (by omega) (by omega) HO.out.1
  clear HNEW hwb hm HK
  have hn1 : 1 ≤ n := by omega
  have hn64 : n ≤ 64 := by omega
  go_wp2_with fail
  go_loopw [12, 13, 14, 15, 16, 17, 18, 19, 40] (fun _ _ _ _ _ _ _ _ i w' => ∃ (k : Nat) (S : St), k ≤ l ∧ i = .int .i64 k ∧ At T w1 g S nobody w' ∧ S.Ok ∧ S.n = n ∧ S.mv = none ∧ S.o = decide (k % 2 = 1) ∧ S.ep = k) (fun _ _ _ _ _ _ _ _ i _ => l - (intOf i).toNat)
  case atStart => exact ⟨0, st0 n k0, by omega, rfl, A2.out, hS0, rfl, rfl, rfl, rfl⟩
  case round =>
    clear A2 hS0
    obtain ⟨k, S, hk, rfl, ha, hS, hSn, hSm, hSo, hSe⟩ := hrel
    have AR := Lib.hid ha
    clear ha
    by_cases hlt : k < l
    · have hkL : k < L.length := by rw [HLL.out]; exact hlt
      obtain ⟨q, hq⟩ : ∃ q, L[k]? = some q := ⟨_, List.getElem?_eq_getElem hkL⟩
      have HQ : Hid q.Ok := HL.out q (List.mem_of_getElem? hq)
      obtain ⟨qa, oa, hA, hs⟩ := (HE.out.below WB.out) k q hq
      have HS1K : Hid (w1.rangeAt qa (oa + k * 16) q.cs) := hs
      have HRG : Hid (∀ W, At T w1 g (stps (rek S q) 0) nobody W ∨ Below w1.heap.size w1 W → W.rangeAt qa (oa + k * 16) q.cs) := fun W hW => by
        have hb : Below w1.heap.size w1 W := hW.elim At.be id
        intro j u hj
        exact (hb.cell (World.block_lt_of_cell? w1 _ (HS1K.out j u hj))).trans (HS1K.out j u hj)
      subst hA
      obtain ⟨r1, r2, r3, r4, r5, r6⟩ := rek_none (k := q) hSm
      have hre : rekE S = 0 := by unfold rekE; rw [hSm]; rfl
      have HRK := Lib.hid (AR.out.rekey HP.out hS HQ.out)
      rw [hre] at HRK
      have hok1 := rek_ok hS HQ.out
      obtain ⟨S1, hS1⟩ : ∃ X, rek S q = X := ⟨_, rfl⟩
      rw [hS1] at HRK r1 r2 r3 r4 r5 r6 hok1
      have hep : S1.ep ≤ 1000 := by rw [r4, hSe]; omega
      have HOS : Hid (∀ j, (stps S1 j).Ok) := stps_ok hok1 hep r3
      have hfm := (stps_mv r3 hok1.n1 n).2 (by rw [r1, hSn]; exact Nat.le_refl _)
      have hn2 : (stps S1 n).n = n := by rw [stps_n, r1, hSn]
      have hky : (stps S1 n).key (!S.o) = q := by rw [stps_key, r6]
      have HB0 : Hid (Below w1.heap.size w1 wr) := AR.out.be
      clear hs hq hS hSm hre r5 r6 hkL hok1 hep hS1
      go_upto_region 10 with (first
        | (refine wpList_key (by rfl) (.tmp 46) rfl qa (oa + k * 16) rfl q (HRG.out _ (.inr HB0.out)) ?_)
        | (go_at_call 9; (with_reducible refine HRK.out.mono ?_); rintro e w4 hact; have A4 := Lib.hid hact.2.1; obtain ⟨rfl, -, -⟩ := hact))
      clear AR HRK HB0
      go_wp2_with fail
      go_loopw [51] (fun i w' => ∃ j : Nat, j ≤ n ∧ i = .int .i64 j ∧ At T w1 g (stps S1 j) nobody w') (fun i _ => n - (intOf i).toNat)
      case atStart => exact ⟨0, by omega, rfl, A4.out⟩
      case round =>
        clear A4
        obtain ⟨j, hj, rfl, ha⟩ := hrel
        have AR := Lib.hid ha
        clear ha
        by_cases hlt2 : j < n
        · have HST := Lib.hid (AR.out.step HP.out (HOS.out j))
          clear AR
          go_wp2_with (go_at_call 13; (with_reducible refine HST.out.mono ?_); rintro e w5 hact; have A5 := Lib.hid hact.2.1; obtain ⟨rfl, -, -⟩ := hact)
          go_roundw
          case rel => exact ⟨j + 1, by omega, by go_num, A5.out⟩
          case measure => simp [intOf]; omega
        · have hjn : n = j := by omega
          subst hjn
          clear hlt2 hj
          have HS2 : Hid (stps S1 n).Ok := HOS.out n
          obtain ⟨S2, hS2⟩ : ∃ X, stps S1 n = X := ⟨_, rfl⟩
          rw [hS2] at AR HS2 hfm hn2 hky
          obtain ⟨hmv2, ho2, hep2⟩ := hfm
          rw [r2] at ho2
          rw [r4, hSe] at hep2
          clear hS2 HOS r1 r2 r3 r4
          have HFR := Lib.hid (fun W (hW : At T w1 g S2 nobody W) => At.newF (F := nobody) (k := q) HP.out hW.be hn1 hn64 HQ.out (fun _ h => absurd h (fun e => e)))
          have HB5 := Lib.hid AR.out.be
          go_upto_region 15 with (first
            | (refine wpList_key (by rfl) (.tmp 60) rfl qa (oa + k * 16) rfl q (HRG.out _ (.inr HB5.out)) ?_)
            | (go_at_call 8; (with_reducible refine (HFR.out _ AR.out).mono ?_); rintro e w6 ⟨g2, rfl, ha2, hb2⟩; have G6 := Lib.hid ha2; have A6 := Lib.hid (AR.out.below HP.out hb2); clear ha2 hb2))
          clear AR HFR HB5 HRG HS1K
          have HW1 := Lib.hid (G6.out.where_ HP.out (st0_ok hn1 hn64 HQ.out) HO.out.2)
          have hf1 : gen K (st0 n q) f = false := rfl
          have hf2 : cls K (st0 n q) f = K.bk q f n := by
            unfold cls
            rw [hf1]
            show 0 * n + K.bk ((st0 n q).key false) f n = _
            rw [Nat.zero_mul, Nat.zero_add]
            rfl
          rw [hf1, hf2] at HW1
          have e1 : gen K S2 f = S2.o := gen_none hmv2
          have hcl : cls K S2 f = nm S2.o * n + K.bk q f n := by
            unfold cls
            rw [e1, hn2, ho2, hky]
          clear G6 hf1 hf2
          have hpr := par_next k S.o hSo
          have HPAR := Lib.hid hpr
          have hmd : Int.tmod ((k : Int) + 1) 2 = ((nm (!S.o) : Nat) : Int) := by
            have : Int.tmod ((k : Int) + 1) 2 = (((k + 1) % 2 : Nat) : Int) := by rw [Int.tmod_eq_emod_of_nonneg (by omega)]; omega
            rw [this, hpr]
            unfold nm
            rcases Nat.mod_two_eq_zero_or_one (k + 1) with h | h
            · rw [h]; rfl
            · rw [h]; rfl
          have hbl := K.lt q f n hn1
          obtain ⟨b, hb⟩ : ∃ b, K.bk q f n = b := ⟨_, rfl⟩
          rw [hb] at HW1 hcl hbl
          rw [ho2] at e1 hcl
          clear hb hpr hSo hSe hky
          rcases hob : S.o with _ | _
          · rw [hob] at HPAR e1 hcl ho2 hmd
            rw [show (!false) = true from rfl] at HPAR e1 hcl ho2 hmd
            obtain ⟨c2, hc2⟩ : ∃ c2 : Nat, (n : Int) + (b : Int) = (c2 : Int) := ⟨n + b, by omega⟩
            have hcg : cls K S2 f = c2 := by rw [hcl]; show 1 * n + b = c2; omega
            have hmd1 : Int.tmod ((k : Int) + 1) 2 = 1 := hmd
            clear hcl hmd hob
            go_upto_region 16 with (first
              | (refine wpList_flo (by rfl) (.tmp 7) rfl _ 0 rfl f (whole_at (HF.out.below A6.out.be)) ?_)
              | (go_at_call 17; (with_reducible refine HW1.out.mono ?_); rintro e w7 ⟨rfl, hb⟩; have A7 := Lib.hid (A6.out.below HP.out hb); clear hb))
            clear A6 HW1
            have HW2 := Lib.hid (A7.out.where_ HP.out HS2.out HO.out.2)
            rw [e1, hcg] at HW2
            go_upto_region 17 with (first
              | (refine wpList_flo (by rfl) (.tmp 7) rfl _ 0 rfl f (whole_at (HF.out.below A7.out.be)) ?_)
              | (go_at_call 17; (with_reducible refine HW2.out.mono ?_); rintro e w8 ⟨rfl, hb⟩; have A8 := Lib.hid (A7.out.below HP.out hb); clear hb))
            clear A7 HW2 e1 hcg
            have HOL := Lib.hid (A8.out.old HP.out)
            have HEP := Lib.hid (fun W (hW : At T w1 g S2 nobody W) => hW.epoch HP.out)
            have HMO := Lib.hid (fun W (hW : At T w1 g S2 nobody W) => hW.moving HP.out)
            rw [ho2] at HOL
            rw [hep2, show ((k + 1 : Nat) : Int) = (k : Int) + 1 by omega] at HEP
            rw [hmv2] at HMO
            have hnm : ((nm true : Nat) : Int) = 1 := rfl
            rw [hnm] at HOL ⊢
            clear hnm
            go_wp2_with (first
              | (go_at_call 18; (with_reducible refine HOL.out.mono ?_); rintro e w9 ⟨rfl, hb⟩; have A9 := Lib.hid (A8.out.below HP.out hb); clear hb)
              | (go_at_call 11; (with_reducible refine (HEP.out _ A9.out).mono ?_); rintro e wx ⟨rfl, hb⟩; have AX := Lib.hid (A9.out.below HP.out hb); clear hb)
              | (go_at_call 10; (with_reducible refine (HMO.out _ AX.out).mono ?_); rintro e wy ⟨rfl, hb⟩; have AY := Lib.hid (AX.out.below HP.out hb); clear hb; rw [show (none : Option Nat).isSome = false from rfl]))
            go_roundw
            case rel => exact ⟨k + 1, S2, by omega, by go_num, AY.out, HS2.out, hn2, hmv2, by rw [ho2]; exact HPAR.out, hep2⟩
            case measure => simp [intOf]; omega
          · rw [hob] at HPAR e1 hcl ho2 hmd
            rw [show (!true) = false from rfl] at HPAR e1 hcl ho2 hmd
            have hcg : cls K S2 f = b := by rw [hcl]; show 0 * n + b = b; omega
            have hmd1 : Int.tmod ((k : Int) + 1) 2 = 0 := hmd
            clear hcl hmd hob
            go_upto_region 16 with (first
              | (refine wpList_flo (by rfl) (.tmp 7) rfl _ 0 rfl f (whole_at (HF.out.below A6.out.be)) ?_)
              | (go_at_call 17; (with_reducible refine HW1.out.mono ?_); rintro e w7 ⟨rfl, hb⟩; have A7 := Lib.hid (A6.out.below HP.out hb); clear hb))
            clear A6 HW1
            have HW2 := Lib.hid (A7.out.where_ HP.out HS2.out HO.out.2)
            rw [e1, hcg] at HW2
            go_upto_region 17 with (first
              | (refine wpList_flo (by rfl) (.tmp 7) rfl _ 0 rfl f (whole_at (HF.out.below A7.out.be)) ?_)
              | (go_at_call 17; (with_reducible refine HW2.out.mono ?_); rintro e w8 ⟨rfl, hb⟩; have A8 := Lib.hid (A7.out.below HP.out hb); clear hb))
            clear A7 HW2 e1 hcg
            have HOL := Lib.hid (A8.out.old HP.out)
            have HEP := Lib.hid (fun W (hW : At T w1 g S2 nobody W) => hW.epoch HP.out)
            have HMO := Lib.hid (fun W (hW : At T w1 g S2 nobody W) => hW.moving HP.out)
            rw [ho2] at HOL
            rw [hep2, show ((k + 1 : Nat) : Int) = (k : Int) + 1 by omega] at HEP
            rw [hmv2] at HMO
            have hnm : ((nm false : Nat) : Int) = 0 := rfl
            rw [hnm] at HOL ⊢
            clear hnm
            go_wp2_with (first
              | (go_at_call 18; (with_reducible refine HOL.out.mono ?_); rintro e w9 ⟨rfl, hb⟩; have A9 := Lib.hid (A8.out.below HP.out hb); clear hb)
              | (go_at_call 11; (with_reducible refine (HEP.out _ A9.out).mono ?_); rintro e wx ⟨rfl, hb⟩; have AX := Lib.hid (A9.out.below HP.out hb); clear hb)
              | (go_at_call 10; (with_reducible refine (HMO.out _ AX.out).mono ?_); rintro e wy ⟨rfl, hb⟩; have AY := Lib.hid (AX.out.below HP.out hb); clear hb; rw [show (none : Option Nat).isSome = false from rfl]))
            go_roundw
            case rel => exact ⟨k + 1, S2, by omega, by go_num, AY.out, HS2.out, hn2, hmv2, by rw [ho2]; exact HPAR.out, hep2⟩
            case measure => simp [intOf]; omega
    · have hkl : k = l := by omega
      subst hkl
      have FIN : Hid (Ans (.bool true) w (.returned (.bool true)) wr) := ⟨rfl, WB.out.trans (AR.out.be.mono WB.out.size)⟩
      clear AR
      go_wp2
      go_ret
      exact FIN.out
end Go.Proofs.Ytfhlgmmfknfamaa
