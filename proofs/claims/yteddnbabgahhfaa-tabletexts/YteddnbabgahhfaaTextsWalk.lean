/- The walk of TableTexts. Conditions: those of each theorem. -/
import Derived.Test.YteddnbabgahhfaaTextMem
import Derived.Test.YteddnbabgahhfaaActs
namespace Go.Proofs.Yteddnbabgahhfaa
open Go.RowKit

set_option maxRecDepth 4000 in
set_option maxHeartbeats 2000000 in
theorem texts_long (A : Option Addr) (n c : Nat) (s : ByteArray) (w : World) (hn : 30 < n) (hm : n ≤ maxLen) :
    Calls Try.prog 6 #[.slice A n c, .string s] w (Ans (.bool true) w) := by
  have HA := Lib.hid (fun W => awake_ TabI progT W)
  unfold maxLen at hm
  go_enter Try.func6, Try.ntmps6
  go_wp2_with (first
    | (go_at_call 7; (with_reducible refine (HA.out w).mono ?_); rintro e w1 ⟨rfl, hb⟩; have B1 := Lib.hid hb; clear hb)
    | (go_at_call 7; (with_reducible refine (HA.out w1).mono ?_); rintro e w2 ⟨rfl, hb⟩; have B2 : Hid (Below w.heap.size w w2) := B1.out.trans (hb.mono B1.out.size); clear hb))
  go_ret
  exact ⟨rfl, B2.out⟩
theorem new64 (s : ByteArray) (w : World) : Calls Try.prog 21 #[.int .i64 64] w fun e w' => ∃ g q, e = .returned (.tuple #[.pointer (some ⟨g, 0, none⟩), .int .i64 0]) ∧ TbAt (kTx s) 71 73 w' g q 64 [] ∧ w.heap.size ≤ g ∧ w.heap.size ≤ q ∧ Below w.heap.size w w' := newS_ s 64 w (by omega) (by omega)
theorem put1 (s : ByteArray) (g q : Nat) (L : List Ent) (p : Pre) (w : World) (h : TbAt (kTx s) 71 73 w g q 64 (one L)) (ho : Oks L) (hp : p.Ok) :
    Calls Try.prog 22 #[.pointer (some ⟨g, 0, none⟩), .agg p.cs.toArray, .string s] w fun e w' => ∃ b, e = .returned (.bool b) ∧ TbAt (kTx s) 71 73 w' g q 64 (one (put L 64 p 0)) ∧ Far (two g q) w w' := by
  have := putS_ s g q 64 (one L) p 1 w h ho.one_ hp
  rw [tx_one] at this
  refine this.mono fun e w' ⟨he, ht, hf⟩ => ⟨_, he, ?_, hf⟩
  have e1 : put (one L) ((64 : Nat) : Int) p 1 = one (put L 64 p 0) := one_put
  rwa [e1] at ht
theorem get1 (s : ByteArray) (g q : Nat) (L : List Ent) (p : Pre) (w : World) (h : TbAt (kTx s) 71 73 w g q 64 (one L)) (ho : Oks L) (hp : p.Ok) {t : Bool} (ht : has L p = t) :
    Calls Try.prog 24 #[.pointer (some ⟨g, 0, none⟩), .agg p.cs.toArray] w fun e w' => ∃ u, e = .returned (.tuple #[.string u, .bool t]) ∧ (t = true → u = s) ∧ Below w.heap.size w w' := by
  have := getS_ s g q 64 (one L) p w h ho.one_ hp
  rw [one_has, ht] at this
  refine this.mono fun e w' ⟨he, hb⟩ => ⟨_, he, fun e => ?_, hb⟩
  subst e
  rw [one_val ht, tx_one]
theorem del1 (s : ByteArray) (g q : Nat) (L : List Ent) (p : Pre) (w : World) (h : TbAt (kTx s) 71 73 w g q 64 (one L)) (ho : Oks L) (hp : p.Ok) {t : Bool} (ht : has L p = t) :
    Calls Try.prog 25 #[.pointer (some ⟨g, 0, none⟩), .agg p.cs.toArray] w fun e w' => e = .returned (.bool t) ∧ TbAt (kTx s) 71 73 w' g q 64 (one (del L p)) ∧ Far (two g q) w w' := by
  have := delS_ s g q 64 (one L) p w h ho.one_ hp
  rw [one_has, ht, one_del] at this
  exact this
theorem all1 (s : ByteArray) (g q : Nat) (L : List Ent) (w : World) (h : TbAt (kTx s) 71 73 w g q 64 (one L)) : Calls Try.prog 23 #[.pointer (some ⟨g, 0, none⟩)] w (DRes kPre (pres L) w) := by
  have := allS_ s g q 64 (one L) w h
  rwa [one_pres] at this
theorem all0 (s : ByteArray) (g q : Nat) (w : World) (h : TbAt (kTx s) 71 73 w g q 64 (one [])) : Calls Try.prog 23 #[.pointer (some ⟨g, 0, none⟩)] w fun e w' => ∃ A c, e = .returned (.slice A 0 c) ∧ Below w.heap.size w w' :=
  (all1 s g q [] w h).mono fun _ _ ⟨A, c, he, _, _, hb⟩ => ⟨A, c, he, hb⟩
theorem len0 (s : ByteArray) (g q : Nat) (w : World) (h : TbAt (kTx s) 71 73 w g q 64 (one [])) : Calls Try.prog 26 #[.pointer (some ⟨g, 0, none⟩)] w (Ans (.int .i64 0) w) := lenS_ s g q 64 (one []) w h
theorem find1 (A : Option Addr) (c : Nat) (L : List Ent) (p : Pre) (w : World) (h : Els kEnt w A L) (ho : Oks L) (hp : p.Ok) (hl : L.length ≤ 100000) {t : Bool} (ht : has L p = t) :
    Calls Try.prog 13 #[.slice A L.length c, .agg p.cs.toArray] w fun e w' => ∃ f, e = .returned (.int .i64 f) ∧ decide (0 ≤ f) = t ∧ Below w.heap.size w w' :=
  (find_ A c L p w h ho hp hl).mono fun e w' ⟨he, hb⟩ => ⟨_, he, by
    rcases t with _ | _
    · rw [fnd_not ht]; rfl
    · rw [fnd_has ht]; simp, hb⟩
set_option maxRecDepth 100000 in
set_option maxHeartbeats 4000000 in
theorem texts_near (A0 : Option Addr) (n c0 : Nat) (s : ByteArray) (R : List Pre) (w : World) (hn : n ≤ 30) (hR : R.length = n) (hin : Els kPre w A0 R) (hok : ∀ p ∈ R, p.Ok) :
    Calls Try.prog 6 #[.slice A0 n c0, .string s] w (Ans (.bool true) w) := by
  have HA := Lib.hid (fun W => awake_ TabI progT W)
  have HIN := Lib.hid (fun W (hW : Below w.heap.size w W) => hin.below hW)
  have HOK := Lib.hid hok
  have HR := Lib.hid hR
  clear hin hok hR
  go_enter Try.func6, Try.ntmps6
  go_upto_region 4 with (first
    | (go_at_call 7; (with_reducible refine (HA.out w).mono ?_); rintro e w1 ⟨rfl, hb⟩; have B1 := Lib.hid hb; clear hb)
    | (go_at_call 21; (with_reducible refine (new64 s _).mono ?_); rintro e w2 ⟨g, q, rfl, ht, hg, hq, hb⟩; have X0 : Hid (TX s w g q (R.take 0) [] none 0 w2) := ⟨Els.nil, Nat.le_refl _, ht, B1.out.trans (hb.mono B1.out.size), ⟨Nat.le_trans B1.out.size hg, Nat.le_trans B1.out.size hq⟩, (fun _ e => by cases e), Oks.nil, Uni.nil, (fun _ e => by cases e)⟩; clear ht hg hq hb))
  clear B1 HA
  go_wp2_with fail
  go_loopw [7, 8, 27] (fun v _ i w' => ∃ (k : Nat) (L : List Ent) (A : Option Addr) (c : Nat), k ≤ n ∧ i = .int .i64 k ∧ v = .slice A L.length c ∧ TX s w g q (R.take k) L A c w') (fun _ _ i _ => n - (intOf i).toNat)
  case atStart => exact ⟨0, [], none, 0, by omega, rfl, rfl, X0.out⟩
  case round =>
    clear X0
    obtain ⟨k, L, A, c, hk, rfl, rfl, htx⟩ := hrel
    have X1 := Lib.hid htx
    clear htx
    by_cases hlt : k < n
    · have hkR : k < R.length := by rw [HR.out]; exact hlt
      have hRk : R[k]? = some R[k] := by simp [hkR]
      obtain ⟨b, o, hA0, hs0⟩ := HIN.out _ X1.out.be k _ hRk
      subst hA0
      have HS : Hid (∀ W, Below w.heap.size w W → W.rangeAt b (o + k * 8) (R[k]).cs) := fun W hW => by
        obtain ⟨b', o', e, h⟩ := HIN.out W hW k _ hRk
        cases e
        exact h
      have HP : Hid ((R[k]).Ok) := HOK.out _ (List.getElem_mem _)
      have HT : Hid (R.take (k + 1) = R.take k ++ [R[k]]) := by show _ = _; rw [List.take_add_one, hRk]; rfl
      generalize R[k] = p at *
      clear hs0 hRk hkR
      have hsz := X1.out.size
      have HSUB : Hid (∀ e ∈ put L 64 p 0, e.p ∈ R.take (k + 1)) := fun e he => by
        rw [HT.out, List.mem_append]
        rcases put_sub he with h | h
        · exact .inr (by simp [h])
        · exact .inl (X1.out.sub e h)
      go_wp2_with (first
        | (refine wpList_pre (by rfl) (.tmp 33) rfl b (o + k * 8) rfl p (HS.out _ X1.out.be) ?_)
        | (go_at_call 22; (with_reducible refine (put1 s g q L p _ X1.out.tab X1.out.ok HP.out).mono ?_); rintro e w3 ⟨bo, rfl, ht, hf⟩; have T3 := Lib.hid ht; have E3 := Lib.hid (X1.out.act hf); clear ht hf)
        | (refine wpList_pre (by rfl) (.tmp 41) rfl b (o + k * 8) rfl p (HS.out _ E3.out.2) ?_)
        | (go_at_call 15; (with_reducible refine (put_ A c L 64 0 p _ E3.out.1 X1.out.ok HP.out X1.out.cap (by omega)).mono ?_); rintro e w4 ⟨A', c', rfl, hc', hE', hb', hfr⟩; have X4 := Lib.hid (TX.next T3.out E3.out.2 X1.out.lo X1.out.apart hb' hE' hc' hfr (X1.out.ok.put_ HP.out ⟨by omega, by omega⟩) X1.out.uni.put_ HSUB.out); clear hc' hE' hb' hfr))
      go_roundw
      case rel => exact ⟨k + 1, _, _, _, by omega, by go_num, rfl, X4.out⟩
      case measure => simp [intOf]; omega
    · have hkn : k = n := by omega
      subst hkn
      have hsz := X1.out.size
      have HSM := Lib.hid (fun A1 A2 c1 c2 W h h' => same_ A1 A2 c1 c2 (pres L) (pres L) W h h' (fun q hq => by obtain ⟨s, hs, rfl⟩ := List.mem_map.1 hq; exact (X1.out.ok s hs).1) (fun q hq => by obtain ⟨s, hs, rfl⟩ := List.mem_map.1 hq; exact (X1.out.ok s hs).1) (by simp [pres]; omega))
      rw [decide_eq_true (rfl : pres L = pres L)] at HSM
      go_upto_region 13 with (first
        | (go_at_call 23; (with_reducible refine (all1 s g q L _ X1.out.tab).mono ?_); rintro e w10 ⟨A1, c1, rfl, _, hE1, hb1⟩; have X2 := Lib.hid (X1.out.below hb1); have E2 := Lib.hid hE1; clear hE1 hb1)
        | (go_at_call 18; (with_reducible refine (prefixes_ A c L _ X2.out.els (by omega)).mono ?_); rintro e w11 ⟨A2, c2, rfl, _, hE2, hb2⟩; have X3 := Lib.hid (X2.out.below hb2); have E3 := Lib.hid (E2.out.below hb2); have G3 := Lib.hid hE2; clear hE2 hb2)
        | (go_at_call 17; (with_reducible refine (HSM.out _ _ _ _ _ E3.out G3.out).mono ?_); rintro e w12 ⟨rfl, hb3⟩; have X4 := Lib.hid (X3.out.below hb3); clear hb3))
      clear X1 X2 X3 E2 E3 G3 HSM hsz
      have X5 : Hid (TX s w g q (R.drop 0) L A c w12) := ⟨X4.out.els, X4.out.cap, X4.out.tab, X4.out.be, X4.out.lo, X4.out.apart, X4.out.ok, X4.out.uni, fun e he => List.mem_of_mem_take (X4.out.sub e he)⟩
      clear X4
      go_wp2_with fail
      go_loopw [7, 9, 10, 11, 12, 55] (fun v _ _ _ _ i w' => ∃ (j : Nat) (L : List Ent) (A : Option Addr) (c : Nat), j ≤ k ∧ i = .int .i64 j ∧ v = .slice A L.length c ∧ TX s w g q (R.drop j) L A c w') (fun _ _ _ _ _ i _ => k - (intOf i).toNat)
      case atStart => exact ⟨0, L, A, c, by omega, rfl, rfl, X5.out⟩
      case round =>
        clear X5
        obtain ⟨j, L, A, c, hj, rfl, rfl, htx⟩ := hrel
        have X1 := Lib.hid htx
        clear htx
        by_cases hlt : j < k
        · have hkR : j < R.length := by rw [HR.out]; exact hlt
          have hRk : R[j]? = some R[j] := by simp [hkR]
          obtain ⟨b, o, hA0, hs0⟩ := HIN.out _ X1.out.be j _ hRk
          subst hA0
          have HS : Hid (∀ W, Below w.heap.size w W → W.rangeAt b (o + j * 8) (R[j]).cs) := fun W hW => by
            obtain ⟨b', o', e, h⟩ := HIN.out W hW j _ hRk
            cases e
            exact h
          have HP : Hid ((R[j]).Ok) := HOK.out _ (List.getElem_mem _)
          have HT : Hid (R.drop j = R[j] :: R.drop (j + 1)) := by show _ = _; rw [List.drop_eq_getElem_cons hkR]
          generalize R[j] = p at *
          clear hs0 hRk hkR
          have hsz := X1.out.size
          have HSUB : Hid (∀ e ∈ del L p, e.p ∈ R.drop (j + 1)) := fun e he => by
            have h1 := (mem_del (q := e.p) (u := e.v) X1.out.uni).1 he
            have h2 := X1.out.sub e h1.2
            rw [HT.out] at h2
            rcases List.mem_cons.1 h2 with h | h
            · exact absurd h h1.1
            · exact h
          rcases hh : has L p with _ | _
          · have HH := Lib.hid hh
            clear hh
            go_wp2_with (first
              | (refine wpList_pre (by rfl) (.tmp 62) rfl b (o + j * 8) rfl p (HS.out _ X1.out.be) ?_)
              | (go_at_call 24; (with_reducible refine (get1 s g q L p _ X1.out.tab X1.out.ok HP.out HH.out).mono ?_); rintro e w3 ⟨u, rfl, _, hb⟩; have X2 := Lib.hid (X1.out.below hb); clear hb)
              | (refine wpList_pre (by rfl) (.tmp 70) rfl b (o + j * 8) rfl p (HS.out _ X2.out.be) ?_)
              | (go_at_call 13; (with_reducible refine (find1 A c L p _ X2.out.els X2.out.ok HP.out (by omega) HH.out).mono ?_); rintro e w4 ⟨f, rfl, hge, hb⟩; have X3 := Lib.hid (X2.out.below hb); clear hb)
              | (refine wpList_pre (by rfl) (.tmp 89) rfl b (o + j * 8) rfl p (HS.out _ X3.out.be) ?_)
              | (go_at_call 25; (with_reducible refine (del1 s g q L p _ X3.out.tab X3.out.ok HP.out HH.out).mono ?_); rintro e w5 ⟨rfl, ht, hf⟩; have T5 := Lib.hid ht; have E5 := Lib.hid (X3.out.act hf); clear ht hf)
              | (refine wpList_pre (by rfl) (.tmp 98) rfl b (o + j * 8) rfl p (HS.out _ E5.out.2) ?_)
              | (go_at_call 16; (with_reducible refine (del_ A c L p _ E5.out.1 X1.out.ok HP.out X1.out.cap (by omega)).mono ?_); rintro e w6 ⟨A', c', rfl, hc', hE', hb', hfr⟩; have X6 := Lib.hid (TX.next T5.out E5.out.2 X1.out.lo X1.out.apart hb' hE' hc' hfr X1.out.ok.del_ X1.out.uni.del_ HSUB.out); clear hc' hE' hb' hfr))
            go_roundw
            case rel => exact ⟨j + 1, _, _, _, by omega, by go_num, rfl, X6.out⟩
            case measure => simp [intOf]; omega
          · have HH := Lib.hid hh
            clear hh
            go_wp2_with (first
              | (refine wpList_pre (by rfl) (.tmp 62) rfl b (o + j * 8) rfl p (HS.out _ X1.out.be) ?_)
              | (go_at_call 24; (with_reducible refine (get1 s g q L p _ X1.out.tab X1.out.ok HP.out HH.out).mono ?_); rintro e w3 ⟨u, rfl, hu, hb⟩; obtain rfl := (hu rfl).symm; have X2 := Lib.hid (X1.out.below hb); clear hb)
              | (refine wpList_pre (by rfl) (.tmp 70) rfl b (o + j * 8) rfl p (HS.out _ X2.out.be) ?_)
              | (go_at_call 13; (with_reducible refine (find1 A c L p _ X2.out.els X2.out.ok HP.out (by omega) HH.out).mono ?_); rintro e w4 ⟨f, rfl, hge, hb⟩; have X3 := Lib.hid (X2.out.below hb); clear hb)
              | (refine wpList_pre (by rfl) (.tmp 89) rfl b (o + j * 8) rfl p (HS.out _ X3.out.be) ?_)
              | (go_at_call 25; (with_reducible refine (del1 s g q L p _ X3.out.tab X3.out.ok HP.out HH.out).mono ?_); rintro e w5 ⟨rfl, ht, hf⟩; have T5 := Lib.hid ht; have E5 := Lib.hid (X3.out.act hf); clear ht hf)
              | (refine wpList_pre (by rfl) (.tmp 98) rfl b (o + j * 8) rfl p (HS.out _ E5.out.2) ?_)
              | (go_at_call 16; (with_reducible refine (del_ A c L p _ E5.out.1 X1.out.ok HP.out X1.out.cap (by omega)).mono ?_); rintro e w6 ⟨A', c', rfl, hc', hE', hb', hfr⟩; have X6 := Lib.hid (TX.next T5.out E5.out.2 X1.out.lo X1.out.apart hb' hE' hc' hfr X1.out.ok.del_ X1.out.uni.del_ HSUB.out); clear hc' hE' hb' hfr))
            go_roundw
            case rel => exact ⟨j + 1, _, _, _, by omega, by go_num, rfl, X6.out⟩
            case measure => simp [intOf]; omega
        · have hjk : j = k := by omega
          subst hjk
          have hL : L = [] := by
            rw [List.eq_nil_iff_forall_not_mem]
            intro e he
            have := X1.out.sub e he
            rw [List.drop_of_length_le (by rw [HR.out]; omega)] at this
            cases this
          subst hL
          go_wp2_with (first
            | (go_at_call 26; (with_reducible refine (len0 s g q _ X1.out.tab).mono ?_); rintro e w2 ⟨rfl, hb⟩; have X2 := Lib.hid (X1.out.below hb); clear hb)
            | (go_at_call 23; (with_reducible refine (all0 s g q _ X2.out.tab).mono ?_); rintro e w3 ⟨A1, c1, rfl, hb⟩; have X3 := Lib.hid (X2.out.below hb); clear hb))
          go_ret
          exact ⟨rfl, X3.out.be⟩
end Go.Proofs.Yteddnbabgahhfaa
