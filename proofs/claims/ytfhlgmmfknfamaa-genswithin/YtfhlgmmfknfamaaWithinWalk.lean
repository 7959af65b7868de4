/- The walk of GensWithin. Conditions: the program's contracts. -/
import Derived.Test.YtfhlgmmfknfamaaAwake
import Derived.Lib.MinMax
namespace Go.Proofs.Ytfhlgmmfknfamaa
open Go.RowKit

theorem three_box (a b : List Value) (c : List Value) (ta tb tc : TypeId) (w : World) : Blk (((w.alloc (.cells a.toArray ta)).alloc (.cells b.toArray tb)).alloc (.cells c.toArray tc)) w.heap.size ta a ∧ Blk (((w.alloc (.cells a.toArray ta)).alloc (.cells b.toArray tb)).alloc (.cells c.toArray tc)) (w.heap.size + 1) tb b ∧
    Blk (((w.alloc (.cells a.toArray ta)).alloc (.cells b.toArray tb)).alloc (.cells c.toArray tc)) (w.heap.size + 2) tc c ∧ Below w.heap.size w (((w.alloc (.cells a.toArray ta)).alloc (.cells b.toArray tb)).alloc (.cells c.toArray tc)) := by
  refine ⟨((Blk.new w ta a).alloc _).alloc _, ?_, ?_, (((Below.refl _ w).alloc (Nat.le_refl _) _).alloc (by simp) _).alloc (by simp; omega) _⟩
  · have := (Blk.new (w.alloc (.cells a.toArray ta)) tb b).alloc (.cells c.toArray tc)
    rwa [show (w.alloc (.cells a.toArray ta)).heap.size = w.heap.size + 1 by simp] at this
  · have := Blk.new ((w.alloc (.cells a.toArray ta)).alloc (.cells b.toArray tb)) tc c
    rwa [show ((w.alloc (.cells a.toArray ta)).alloc (.cells b.toArray tb)).heap.size = w.heap.size + 2 by simp] at this
set_option maxRecDepth 100000 in
set_option maxHeartbeats 4000000 in
theorem within_ (T : Gbl) (K : Ks) (P : ProgG T K) (b0 : Int) (k k2 : Key) (s : Nat) (f : Flo) (w : World) (hb0 : 0 ≤ b0 ∧ b0 ≤ 255) (hs : s ≤ 255) (hk : k.Ok) (hk2 : k2.Ok) (hf : f.Ok) :
    Calls Try.prog 6 #[.int .u8 b0, .agg k.cs.toArray, .agg k2.cs.toArray, .int .u8 (s : Nat), .agg f.cs.toArray] w (Ans (.bool true) w) := by
  have HP := Lib.hid P
  have HA := Lib.hid (fun W => awake_ T K P W)
  have HO : Hid (k.Ok ∧ k2.Ok ∧ f.Ok) := ⟨hk, hk2, hf⟩
  obtain ⟨x1, x2, x3, x4⟩ := three_box k.cs k2.cs f.cs 22 22 45 w
  have X1 := Lib.hid x1
  have X2 := Lib.hid x2
  have X3 := Lib.hid x3
  have X4 := Lib.hid x4
  obtain ⟨m, hm⟩ : ∃ m : Nat, Int.tmod b0 64 = (m : Int) := ⟨(Int.tmod b0 64).toNat, by have := Int.tmod_nonneg 64 hb0.1; omega⟩
  have hml : m < 64 := by have := Int.tmod_lt_of_pos b0 (show (0 : Int) < 64 by omega); omega
  obtain ⟨n, hn⟩ : ∃ n : Nat, (1 : Int) + (m : Int) = (n : Int) := ⟨m + 1, by omega⟩
  have hwb : IntKind.i64.wrap b0 = b0 := by rw [IntKind.wrap_i64]; omega
  have hws : IntKind.i64.wrap (s : Int) = (s : Int) := by rw [IntKind.wrap_i64]; omega
  obtain ⟨q, hq⟩ : ∃ q : Nat, max ((s : Int) - 1) 0 = (q : Int) := ⟨s - 1, by omega⟩
  clear P hk hk2 hf x1 x2 x3 x4
  go_enter Try.func6, Try.ntmps6
  go_upto_region 1 with fail
  generalize (((w.alloc (.cells k.cs.toArray 22)).alloc (.cells k2.cs.toArray 22)).alloc (.cells f.cs.toArray 45)) = w0 at *
  go_upto_region 3 with (go_at_call 7; (with_reducible refine (HA.out w0).mono ?_); rintro e w1 ⟨rfl, hb⟩; have HBX : Hid (Blk w1 w.heap.size 22 k.cs ∧ Blk w1 (w.heap.size + 1) 22 k2.cs ∧ Blk w1 (w.heap.size + 2) 45 f.cs) := ⟨X1.out.below hb, X2.out.below hb, X3.out.below hb⟩; have WB : Hid (Below w.heap.size w w1) := X4.out.trans (hb.mono X4.out.size); clear hb)
  clear X1 X2 X3 X4 HA
  have HNEW := Lib.hid (At.new (w := w1) HP.out (Below.refl _ w1) (m := n) (by omega) (by omega) HO.out.1)
  go_upto_region 5 with (first
    | (refine wpList_key (by rfl) (.tmp 6) rfl _ 0 rfl k (whole_at HBX.out.1) ?_)
    | (go_at_call 8; (with_reducible refine HNEW.out.mono ?_); rintro e w2 ⟨g, rfl, ha⟩; have A2 := Lib.hid ha; clear ha))
  clear HNEW hwb hm
  have hn1 : 1 ≤ n := by omega
  have hn2 : n ≤ 64 := by omega
  have HS0 : Hid (st0 n k).Ok := st0_ok hn1 hn2 HO.out.1
  rcases Nat.eq_zero_or_pos s with hs0 | hs0
  · subst hs0
    have hq0 : q = 0 := by omega
    obtain ⟨S1, hS1⟩ : ∃ S, st0 n k = S := ⟨_, rfl⟩
    have A3 := Lib.hid A2.out
    rw [hS1] at A3 HS0
    have hmv0 : S1.mv.isSome = false := by rw [← hS1]; rfl
    have hnn : S1.n = n := by rw [← hS1]; rfl
    have HOS : Hid (∀ j, j < q → (stps S1 j).Ok) := fun j hj => absurd hj (by omega)
    have HFIN : Hid ((stps S1 q).Ok ∧ (stps S1 q).n = n ∧ (stps S1 q).mv.isSome = false) := by rw [hq0]; exact ⟨HS0.out, hnn, hmv0⟩
    clear A2 HS0 hS1 hmv0 hnn
    go_wp2_with fail
    go_loopw [38] (fun i w' => ∃ j : Nat, j ≤ q ∧ i = .int .i64 j ∧ At T w1 g (stps S1 j) nobody w') (fun i _ => q - (intOf i).toNat)
    case atStart => exact ⟨0, by omega, rfl, A3.out⟩
    case round =>
      clear A3
      obtain ⟨j, hj, rfl, ha⟩ := hrel
      have AR := Lib.hid ha
      clear ha
      by_cases hlt : j < q
      · exact absurd hlt (by omega)
      · have hjq : j = q := by omega
        subst hjq
        clear hlt hj HOS
        obtain ⟨S, hS⟩ : ∃ S, stps S1 j = S := ⟨_, rfl⟩
        rw [hS] at AR HFIN
        have HS : Hid S.Ok := HFIN.out.1
        have HSN : Hid (S.n = n) := HFIN.out.2.1
        have hmv := HFIN.out.2.2
        clear HFIN hS
        have HF := Lib.hid HBX.out.2.2
        clear HBX
        go_upto_region 12 with (first
          | (refine wpList_flo (by rfl) (.tmp 9) rfl _ 0 rfl f (whole_at (HF.out.below AR.out.be)) ?_)
          | (go_at_call 17; (with_reducible refine (AR.out.where_ HP.out HS.out HO.out.2.2).mono ?_); rintro e w5 ⟨rfl, hb⟩; have A5 := Lib.hid (AR.out.below HP.out hb); clear hb))
        clear AR
        have hbn := bins_there (K := K) (S := S) (f := f) 2 9
        have hcb := cls_bd (K := K) (f := f) HS.out
        obtain ⟨B, hB⟩ : ∃ B, K.bi (S.key (gen K S f)) f 2 9 = B := ⟨_, rfl⟩
        have hBl := K.len (S.key (gen K S f)) f 2 9
        have hBb := K.bd (S.key (gen K S f)) f 2 9 (by omega)
        have HBN := Lib.hid (fun (ht : i64 ((nm (gen K S f) : Nat) : Int)) => A5.out.bins HP.out HS.out HO.out.2.2 ht (show i64 2 by constructor <;> decide) (show i64 9 by constructor <;> decide))
        rw [hbn, hB] at HBN
        rw [hB] at hBl hBb
        rw [HSN.out] at hcb
        generalize cls K S f = c at *
        generalize gen K S f = gb at *
        obtain ⟨z0, z1, rfl⟩ : ∃ z0 z1, B = [z0, z1] := by
          match B, hBl with
          | [z0, z1], _ => exact ⟨z0, z1, rfl⟩
        have hz := hBb z0 (by simp)
        clear hBl hBb hbn hB
        have HBN2 := Lib.hid (HBN.out (by cases gb <;> (constructor <;> decide)))
        clear HBN
        go_upto_region 13 with (first
          | (refine wpList_flo (by rfl) (.tmp 9) rfl _ 0 rfl f (whole_at (HF.out.below A5.out.be)) ?_)
          | (go_at_call 19; (with_reducible refine HBN2.out.mono ?_); rintro e w6 ⟨A, cb, rfl, hE, hb⟩; have A6 := Lib.hid (A5.out.below HP.out hb); clear hb))
        clear A5 HBN2 HF
        obtain ⟨ad, rfl, c0⟩ := hE.at_ (k := 0) (v := .int .i64 z0) rfl
        rw [show ad.add 0 = ad by simp [Addr.add]] at c0
        clear hE
        have HM := Lib.hid (A6.out.moving HP.out)
        rw [hmv] at HM
        have y0 : 0 ≤ z0 := hz.1
        have y1 : z0 < 9 := hz.2
        have u0 : ¬ z0 < 0 := by omega
        have u1 : ¬ 9 ≤ z0 := by omega
        cases gb
        · have hc1 : ¬ (c : Int) < 0 := by omega
          have hc2 : (c : Int) < (n : Int) := by
            have := hcb.2
            simp [nm] at this
            omega
          have e1 : ((nm false : Nat) : Int) = 0 := rfl
          clear hcb hmv hz
          rw [e1]
          go_wp2_with (go_at_call 10; (with_reducible refine HM.out.mono ?_); rintro e w7 ⟨rfl, hb⟩; have W7 : Hid (Below w1.heap.size w1 w7) := A6.out.be.trans (hb.mono A6.out.be.size); clear hb)
          go_ret
          exact ⟨rfl, WB.out.trans (W7.out.mono WB.out.size)⟩
        · have hc1 : (n : Int) ≤ (c : Int) := by
            have := hcb.1
            simp [nm] at this
            omega
          have hc2 : (c : Int) < 2 * (n : Int) := by
            have := hcb.2
            simp [nm] at this
            omega
          have e1 : ((nm true : Nat) : Int) = 1 := rfl
          clear hcb hmv hz
          rw [e1]
          go_wp2_with (go_at_call 10; (with_reducible refine HM.out.mono ?_); rintro e w7 ⟨rfl, hb⟩; have W7 : Hid (Below w1.heap.size w1 w7) := A6.out.be.trans (hb.mono A6.out.be.size); clear hb)
          go_ret
          exact ⟨rfl, WB.out.trans (W7.out.mono WB.out.size)⟩
  · have HRK := Lib.hid (A2.out.rekey HP.out HS0.out HO.out.2.1)
    have hq1 : q + 1 = s := by omega
    have hs1 : (0 : Int) < (s : Int) := by omega
    obtain ⟨S1, hS1⟩ : ∃ S, rek (st0 n k) k2 = S := ⟨_, rfl⟩
    have hmv0 : S1.mv = some 0 := by rw [← hS1]; rfl
    have hnn : S1.n = n := by rw [← hS1]; rfl
    have hep : S1.ep = 0 := by rw [← hS1]; rfl
    have hok : S1.Ok := by rw [← hS1]; exact rek_ok HS0.out HO.out.2.1
    rw [hS1] at HRK
    have HOS : Hid (∀ j, j < q → (stps S1 j).Ok) := fun j _ => stps_ok hok (by omega) hmv0 j
    have hfm := stps_mv hmv0 (by omega) q
    rw [hnn] at hfm
    have hok2 := stps_ok hok (by omega) hmv0 q
    have hnn2 := (stps_n S1 q).trans hnn
    go_upto_region 7 with (first
      | (refine wpList_key (by rfl) (.tmp 7) rfl _ 0 rfl k2 (whole_at (HBX.out.2.1.below A2.out.be)) ?_)
      | (go_at_call 9; (with_reducible refine HRK.out.mono ?_); rintro e w3 hact; have A3 := Lib.hid hact.2.1; obtain ⟨rfl, -, -⟩ := hact))
    clear A2 HRK HS0 hS1 hmv0 hnn hep hok
    by_cases hsn : s ≤ n
    · have HFIN : Hid ((stps S1 q).Ok ∧ (stps S1 q).n = n ∧ (stps S1 q).mv.isSome = true) := ⟨hok2, hnn2, by rw [(hfm.1 (by omega)).1]; rfl⟩
      have hs2 : (s : Int) ≤ (n : Int) := by omega
      clear hfm hok2 hnn2 hsn
      go_wp2_with fail
      go_loopw [38] (fun i w' => ∃ j : Nat, j ≤ q ∧ i = .int .i64 j ∧ At T w1 g (stps S1 j) nobody w') (fun i _ => q - (intOf i).toNat)
      case atStart => exact ⟨0, by omega, rfl, A3.out⟩
      case round =>
        clear A3
        obtain ⟨j, hj, rfl, ha⟩ := hrel
        have AR := Lib.hid ha
        clear ha
        by_cases hlt : j < q
        · have HST := Lib.hid (AR.out.step HP.out (HOS.out j hlt))
          clear AR
          go_wp2_with (go_at_call 13; (with_reducible refine HST.out.mono ?_); rintro e w4 hact; have A4 := Lib.hid hact.2.1; obtain ⟨rfl, -, -⟩ := hact)
          go_roundw
          case rel => exact ⟨j + 1, by omega, by go_num, A4.out⟩
          case measure => simp [intOf]; omega
        · have hjq : j = q := by omega
          subst hjq
          clear hlt hj HOS
          obtain ⟨S, hS⟩ : ∃ S, stps S1 j = S := ⟨_, rfl⟩
          rw [hS] at AR HFIN
          have HS : Hid S.Ok := HFIN.out.1
          have HSN : Hid (S.n = n) := HFIN.out.2.1
          have hmv := HFIN.out.2.2
          clear HFIN hS
          have HF := Lib.hid HBX.out.2.2
          clear HBX
          go_upto_region 12 with (first
            | (refine wpList_flo (by rfl) (.tmp 9) rfl _ 0 rfl f (whole_at (HF.out.below AR.out.be)) ?_)
            | (go_at_call 17; (with_reducible refine (AR.out.where_ HP.out HS.out HO.out.2.2).mono ?_); rintro e w5 ⟨rfl, hb⟩; have A5 := Lib.hid (AR.out.below HP.out hb); clear hb))
          clear AR
          have hbn := bins_there (K := K) (S := S) (f := f) 2 9
          have hcb := cls_bd (K := K) (f := f) HS.out
          obtain ⟨B, hB⟩ : ∃ B, K.bi (S.key (gen K S f)) f 2 9 = B := ⟨_, rfl⟩
          have hBl := K.len (S.key (gen K S f)) f 2 9
          have hBb := K.bd (S.key (gen K S f)) f 2 9 (by omega)
          have HBN := Lib.hid (fun (ht : i64 ((nm (gen K S f) : Nat) : Int)) => A5.out.bins HP.out HS.out HO.out.2.2 ht (show i64 2 by constructor <;> decide) (show i64 9 by constructor <;> decide))
          rw [hbn, hB] at HBN
          rw [hB] at hBl hBb
          rw [HSN.out] at hcb
          generalize cls K S f = c at *
          generalize gen K S f = gb at *
          obtain ⟨z0, z1, rfl⟩ : ∃ z0 z1, B = [z0, z1] := by
            match B, hBl with
            | [z0, z1], _ => exact ⟨z0, z1, rfl⟩
          have hz := hBb z0 (by simp)
          clear hBl hBb hbn hB
          have HBN2 := Lib.hid (HBN.out (by cases gb <;> (constructor <;> decide)))
          clear HBN
          go_upto_region 13 with (first
            | (refine wpList_flo (by rfl) (.tmp 9) rfl _ 0 rfl f (whole_at (HF.out.below A5.out.be)) ?_)
            | (go_at_call 19; (with_reducible refine HBN2.out.mono ?_); rintro e w6 ⟨A, cb, rfl, hE, hb⟩; have A6 := Lib.hid (A5.out.below HP.out hb); clear hb))
          clear A5 HBN2 HF
          obtain ⟨ad, rfl, c0⟩ := hE.at_ (k := 0) (v := .int .i64 z0) rfl
          rw [show ad.add 0 = ad by simp [Addr.add]] at c0
          clear hE
          have HM := Lib.hid (A6.out.moving HP.out)
          rw [hmv] at HM
          have y0 : 0 ≤ z0 := hz.1
          have y1 : z0 < 9 := hz.2
          have u0 : ¬ z0 < 0 := by omega
          have u1 : ¬ 9 ≤ z0 := by omega
          cases gb
          · have hc1 : ¬ (c : Int) < 0 := by omega
            have hc2 : (c : Int) < (n : Int) := by
              have := hcb.2
              simp [nm] at this
              omega
            have e1 : ((nm false : Nat) : Int) = 0 := rfl
            clear hcb hmv hz
            rw [e1]
            go_wp2_with (go_at_call 10; (with_reducible refine HM.out.mono ?_); rintro e w7 ⟨rfl, hb⟩; have W7 : Hid (Below w1.heap.size w1 w7) := A6.out.be.trans (hb.mono A6.out.be.size); clear hb)
            go_ret
            exact ⟨rfl, WB.out.trans (W7.out.mono WB.out.size)⟩
          · have hc1 : (n : Int) ≤ (c : Int) := by
              have := hcb.1
              simp [nm] at this
              omega
            have hc2 : (c : Int) < 2 * (n : Int) := by
              have := hcb.2
              simp [nm] at this
              omega
            have e1 : ((nm true : Nat) : Int) = 1 := rfl
            clear hcb hmv hz
            rw [e1]
            go_wp2_with (go_at_call 10; (with_reducible refine HM.out.mono ?_); rintro e w7 ⟨rfl, hb⟩; have W7 : Hid (Below w1.heap.size w1 w7) := A6.out.be.trans (hb.mono A6.out.be.size); clear hb)
            go_ret
            exact ⟨rfl, WB.out.trans (W7.out.mono WB.out.size)⟩
    · have HFIN : Hid ((stps S1 q).Ok ∧ (stps S1 q).n = n ∧ (stps S1 q).mv.isSome = false) := ⟨hok2, hnn2, by rw [(hfm.2 (by omega)).1]; rfl⟩
      have hs2 : ¬ (s : Int) ≤ (n : Int) := by omega
      have hs3 : decide (s ≤ n) = false := by simp; omega
      have hs4 : decide ((s : Int) ≤ (n : Int)) = false := by simp; omega
      clear hfm hok2 hnn2
      go_wp2_with fail
      go_loopw [38] (fun i w' => ∃ j : Nat, j ≤ q ∧ i = .int .i64 j ∧ At T w1 g (stps S1 j) nobody w') (fun i _ => q - (intOf i).toNat)
      case atStart => exact ⟨0, by omega, rfl, A3.out⟩
      case round =>
        clear A3
        obtain ⟨j, hj, rfl, ha⟩ := hrel
        have AR := Lib.hid ha
        clear ha
        by_cases hlt : j < q
        · have HST := Lib.hid (AR.out.step HP.out (HOS.out j hlt))
          clear AR
          go_wp2_with (go_at_call 13; (with_reducible refine HST.out.mono ?_); rintro e w4 hact; have A4 := Lib.hid hact.2.1; obtain ⟨rfl, -, -⟩ := hact)
          go_roundw
          case rel => exact ⟨j + 1, by omega, by go_num, A4.out⟩
          case measure => simp [intOf]; omega
        · have hjq : j = q := by omega
          subst hjq
          clear hlt hj HOS
          obtain ⟨S, hS⟩ : ∃ S, stps S1 j = S := ⟨_, rfl⟩
          rw [hS] at AR HFIN
          have HS : Hid S.Ok := HFIN.out.1
          have HSN : Hid (S.n = n) := HFIN.out.2.1
          have hmv := HFIN.out.2.2
          clear HFIN hS
          have HF := Lib.hid HBX.out.2.2
          clear HBX
          go_upto_region 12 with (first
            | (refine wpList_flo (by rfl) (.tmp 9) rfl _ 0 rfl f (whole_at (HF.out.below AR.out.be)) ?_)
            | (go_at_call 17; (with_reducible refine (AR.out.where_ HP.out HS.out HO.out.2.2).mono ?_); rintro e w5 ⟨rfl, hb⟩; have A5 := Lib.hid (AR.out.below HP.out hb); clear hb))
          clear AR
          have hbn := bins_there (K := K) (S := S) (f := f) 2 9
          have hcb := cls_bd (K := K) (f := f) HS.out
          obtain ⟨B, hB⟩ : ∃ B, K.bi (S.key (gen K S f)) f 2 9 = B := ⟨_, rfl⟩
          have hBl := K.len (S.key (gen K S f)) f 2 9
          have hBb := K.bd (S.key (gen K S f)) f 2 9 (by omega)
          have HBN := Lib.hid (fun (ht : i64 ((nm (gen K S f) : Nat) : Int)) => A5.out.bins HP.out HS.out HO.out.2.2 ht (show i64 2 by constructor <;> decide) (show i64 9 by constructor <;> decide))
          rw [hbn, hB] at HBN
          rw [hB] at hBl hBb
          rw [HSN.out] at hcb
          generalize cls K S f = c at *
          generalize gen K S f = gb at *
          obtain ⟨z0, z1, rfl⟩ : ∃ z0 z1, B = [z0, z1] := by
            match B, hBl with
            | [z0, z1], _ => exact ⟨z0, z1, rfl⟩
          have hz := hBb z0 (by simp)
          clear hBl hBb hbn hB
          have HBN2 := Lib.hid (HBN.out (by cases gb <;> (constructor <;> decide)))
          clear HBN
          go_upto_region 13 with (first
            | (refine wpList_flo (by rfl) (.tmp 9) rfl _ 0 rfl f (whole_at (HF.out.below A5.out.be)) ?_)
            | (go_at_call 19; (with_reducible refine HBN2.out.mono ?_); rintro e w6 ⟨A, cb, rfl, hE, hb⟩; have A6 := Lib.hid (A5.out.below HP.out hb); clear hb))
          clear A5 HBN2 HF
          obtain ⟨ad, rfl, c0⟩ := hE.at_ (k := 0) (v := .int .i64 z0) rfl
          rw [show ad.add 0 = ad by simp [Addr.add]] at c0
          clear hE
          have HM := Lib.hid (A6.out.moving HP.out)
          rw [hmv] at HM
          have y0 : 0 ≤ z0 := hz.1
          have y1 : z0 < 9 := hz.2
          have u0 : ¬ z0 < 0 := by omega
          have u1 : ¬ 9 ≤ z0 := by omega
          cases gb
          · have hc1 : ¬ (c : Int) < 0 := by omega
            have hc2 : (c : Int) < (n : Int) := by
              have := hcb.2
              simp [nm] at this
              omega
            have e1 : ((nm false : Nat) : Int) = 0 := rfl
            clear hcb hmv hz
            rw [e1]
            go_wp2_with (go_at_call 10; (with_reducible refine HM.out.mono ?_); rintro e w7 ⟨rfl, hb⟩; have W7 : Hid (Below w1.heap.size w1 w7) := A6.out.be.trans (hb.mono A6.out.be.size); clear hb)
            go_ret
            exact ⟨rfl, WB.out.trans (W7.out.mono WB.out.size)⟩
          · have hc1 : (n : Int) ≤ (c : Int) := by
              have := hcb.1
              simp [nm] at this
              omega
            have hc2 : (c : Int) < 2 * (n : Int) := by
              have := hcb.2
              simp [nm] at this
              omega
            have e1 : ((nm true : Nat) : Int) = 1 := rfl
            clear hcb hmv hz
            rw [e1]
            go_wp2_with (go_at_call 10; (with_reducible refine HM.out.mono ?_); rintro e w7 ⟨rfl, hb⟩; have W7 : Hid (Below w1.heap.size w1 w7) := A6.out.be.trans (hb.mono A6.out.be.size); clear hb)
            go_ret
            exact ⟨rfl, WB.out.trans (W7.out.mono WB.out.size)⟩
end Go.Proofs.Ytfhlgmmfknfamaa
