/- The walk of the law SipParts: for any key and any parts it returns true and turns nothing that was there. -/
import Derived.Test.YthiikecmhaijlaaSumsWalk
namespace Go.Proofs.Ythiikecmhaijlaa
open Go.RowKit

theorem keepS {wr w' : World} {g : Nat} {k : List Nat} (h : Blk wr g 22 (cel k)) (hb : Below wr.heap.size wr w') : w'.rangeAt g 0 (cel k) :=
  range_of (h.far (S := fun _ => False) (Far.of_below hb _) (fun e => e))
/-- Two parts, in a new list. -/
theorem PartsAt.two {w : World} {A B : Option Addr} {q c m d : Nat} {l l' : List Nat} (h : Vals w A q (cel l)) (h' : Vals w B m (cel l')) :
    PartsAt (w.alloc (.cells #[.slice A q c, .slice B m d] 23)) (some ⟨w.heap.size, 0, none⟩) 2 [l, l'] := by
  have hn : l.length = q := by have := h.1; rw [cel_length] at this; exact this
  have hn' : l'.length = m := by have := h'.1; rw [cel_length] at this; exact this
  subst hn hn'
  have hb := Blk.new w 23 [.slice A l.length c, .slice B l'.length d]
  have hbel : Below w.heap.size w (w.alloc (.cells #[.slice A l.length c, .slice B l'.length d] 23)) := (Below.refl _ _).alloc (Nat.le_refl _) _
  refine ⟨rfl, fun i hi => ?_⟩
  rcases (by omega : i = 0 ∨ i = 1) with rfl | rfl
  · exact ⟨_, A, c, rfl, by rw [Addr.add_at]; exact hb.cell 0, h.below hbel⟩
  · exact ⟨_, B, d, rfl, by rw [Addr.add_at]; exact hb.cell 1, h'.below hbel⟩
theorem two_more (w : World) : PartsAt ((w.alloc (.cells #[] 5)).alloc (.cells #[.slice none 0 0, .slice (some ⟨w.heap.size, 0, none⟩) 0 0] 23)) (some ⟨w.heap.size + 1, 0, none⟩) 2 [[], []] := by
  have h := PartsAt.two (w := w.alloc (.cells #[] 5)) (A := none) (B := some ⟨w.heap.size, 0, none⟩) (q := 0) (c := 0) (m := 0) (d := 0) (l := []) (l' := []) Vals.none_ Vals.none_
  simpa using h

set_option maxRecDepth 100000 in
set_option maxHeartbeats 4000000 in
theorem parts_long (k : List Nat) (A : Option Addr) (n c : Nat) (w : World) (hn : 30 < n) : Calls Try.prog 5 #[.agg (cel k).toArray, .slice A n c] w fun e w' => e = .returned (.bool true) ∧ Below w.heap.size w w' := by
  have hd : decide ((30 : Int) < (n : Int)) = true := by simp; omega
  have hd2 : decide (30 < n) = true := by simpa using hn
  have W0 : Hid (Below w.heap.size w (w.alloc (.cells (cel k).toArray 22))) := (Below.refl _ w).alloc (Nat.le_refl _) _
  go_enter Try.func5, Try.ntmps5
  go_wp2_with fail
  refine (awake_any _).mono ?_
  rintro e w1 ⟨rfl, hb1⟩
  have W1 : Hid (Below w.heap.size w w1) := W0.out.trans (hb1.mono W0.out.size)
  clear hb1
  go_wp2_with fail
  refine (awake_any _).mono ?_
  rintro e w2 ⟨rfl, hb2⟩
  have W2 : Hid (Below w.heap.size w w2) := W1.out.trans (hb2.mono W1.out.size)
  clear hb2
  go_wp2_with fail
  go_ret
  exact ⟨rfl, W2.out⟩

/-- All of bytes; those up to i short. -/
def Bytes (ps : List (List Nat)) : Prop := ∀ i, Octs (ps.getD i [])
def ShortTo (ps : List (List Nat)) (i : Nat) : Prop := ∀ j, j < i → (ps.getD j []).length ≤ 30
theorem small_of {ps : List (List Nat)} (h : Bytes ps) (hs : ShortTo ps ps.length) : Small ps := fun p hp => by
  obtain ⟨i, hi, rfl⟩ := List.getElem_of_mem hp
  have e : ps.getD i [] = ps[i] := by simp [List.getD_eq_getElem?_getD, List.getElem?_eq_getElem hi]
  have h1 := h i
  have h2 := hs i hi
  rw [e] at h1 h2
  exact ⟨h1, by omega⟩
theorem flat_len {ps : List (List Nat)} : ∀ i, ShortTo ps i → (ps.take i).flatten.length ≤ 30 * i
  | 0, _ => by simp
  | i + 1, h => by
    have h1 := flat_len i (fun j hj => h j (by omega))
    have h2 := h i (by omega)
    by_cases hi : i < ps.length
    · rw [← flatten_snoc hi, List.length_append]; omega
    · rw [List.take_of_length_le (by omega)] at h1 ⊢; omega
/-- Where the loop stands. -/
structure PartsRel (w : World) (g : Nat) (k : List Nat) (l : List Nat) (r : Value) (w' : World) : Prop where
  key : Blk w' g 22 (cel k)
  row : w'.ownsRow w.heap.size 5 1 r l.length (cel l)
  be : Below w.heap.size w w'

set_option maxRecDepth 100000 in
set_option maxHeartbeats 4000000 in
theorem parts_near (k : List Nat) (A : Option Addr) (n c : Nat) (ps : List (List Nat)) (w : World) (hk : Octs k) (h16 : k.length = 16) (h : PartsAt w A n ps) (hps : Bytes ps) (hn : n ≤ 30) :
    Calls Try.prog 5 #[.agg (cel k).toArray, .slice A n c] w fun e w' => e = .returned (.bool true) ∧ Below w.heap.size w w' := by
  have hd : decide ((30 : Int) < (n : Int)) = false := by simp; omega
  have hd2 : decide (30 < n) = false := by simp; omega
  have W0 : Hid (Below w.heap.size w (w.alloc (.cells (cel k).toArray 22))) := (Below.refl _ w).alloc (Nat.le_refl _) _
  have B0 : Hid (Blk (w.alloc (.cells (cel k).toArray 22)) w.heap.size 22 (cel k)) := Blk.new w 22 (cel k)
  have HP := Lib.hid h
  have HPS := Lib.hid hps
  have HK := Lib.hid hk
  have H16 := Lib.hid h16
  clear h hps hk h16
  go_enter Try.func5, Try.ntmps5
  go_wp2_with fail
  refine (awake_any _).mono ?_
  rintro e w1 ⟨rfl, hb1⟩
  have W1 : Hid (Below w.heap.size w w1) := W0.out.trans (hb1.mono W0.out.size)
  have B1 : Hid (Blk w1 w.heap.size 22 (cel k)) := B0.out.far (S := fun _ => False) (Far.of_below hb1 _) (fun e => e)
  clear hb1 W0 B0
  go_wp2_with fail
  go_loopw [5, 6, 17] (fun r _ y w' => ∃ (i : Nat) (B : Option Addr) (t d : Nat), y = .int .i64 i ∧ r = .slice B t d ∧ i ≤ n ∧ t = (ps.take i).flatten.length ∧ ShortTo ps i ∧ PartsRel w w.heap.size k (ps.take i).flatten r w') (fun _ _ y _ => n - (intOf y).toNat)
  case atStart => exact ⟨0, none, 0, 0, rfl, rfl, by omega, by simp, fun j hj => by omega, B1.out, World.ownsRow_nil _ _ _ _, W1.out⟩
  case round =>
    obtain ⟨i, B, t, d, rfl, rfl, hi, ht, hsh, hr⟩ := hrel
    have HR := Lib.hid hr
    have HSH := Lib.hid hsh
    have HT := Lib.hid ht
    clear hr hsh ht
    by_cases hlt : i < n
    · have hd : decide ((i : Int) < (n : Int)) = true := by simp; omega
      have hd2 : decide (i < n) = true := by simpa using hlt
      obtain ⟨ad, B', cp, rfl, hc, hv⟩ := HP.out.2 i hlt
      have hc1 := (HR.out.be.cell (World.block_lt_of_cell? w _ hc)).trans hc
      have HV := Lib.hid (hv.below HR.out.be)
      have HF := Lib.hid (flatten_snoc (ps := ps) (i := i) (by rw [HP.out.1]; exact hlt))
      have HFL := Lib.hid (flat_len i HSH.out)
      have HSN : Hid ((ps.getD i []).length ≤ 30 → ShortTo ps (i + 1)) := fun hh j hj => by
        rcases (by omega : j < i ∨ j = i) with h | rfl
        · exact HSH.out j h
        · exact hh
      clear hc hv
      generalize ps.getD i [] = p at *
      generalize hm : p.length = m at *
      have HM := Lib.hid hm
      clear hm
      by_cases hm30 : m ≤ 30
      · have hd3 : decide ((30 : Int) < (m : Int)) = false := by simp; omega
        have hd4 : decide (30 < m) = false := by simp; omega
        have HS1 := Lib.hid (HSN.out hm30)
        have htl : t ≤ 900 := by have := HFL.out; rw [← HT.out] at this; omega
        have HBs := HR.out.be.size
        have HLN : Hid ((ps.take i).flatten.length = t) := HT.out.symm
        clear HSN
        go_wp2_with (at_builtin; refine wpList_app rfl (.tmp 26) (.tmp 30) rfl w.heap.size (.slice B t d) t (ps.take i).flatten rfl (by have := HR.out.row; rw [HLN.out] at this; exact this) B' m cp p rfl HV.out (t + m) rfl (ps.take (i + 1)).flatten HF.out (by omega) HBs ?_; intro A4 c4 w4 H1 H2 H3)
        go_roundw
        case rel =>
          have e : t + m = (ps.take (i + 1)).flatten.length := by rw [← HF.out, List.length_append, HLN.out, HM.out]
          exact ⟨i + 1, A4, t + m, c4, by go_num, rfl, by omega, e, HS1.out, HR.out.key.grown H2.out (HR.out.key.row_apart HR.out.row (by decide)), by rw [← e]; exact H1.out, HR.out.be.grown H2.out HBs (fun k e => (HR.out.row.lt k e).1)⟩
        case measure => simp [intOf]; omega
      · have hd3 : decide ((30 : Int) < (m : Int)) = true := by simp; omega
        have hd4 : decide (30 < m) = true := by simp; omega
        go_wp2_with fail
        go_ret
        exact ⟨rfl, HR.out.be⟩
    · have hd : decide ((i : Int) < (n : Int)) = false := by simp; omega
      have hd2 : decide (i < n) = false := by simpa using hlt
      have hin : i = n := by omega
      have HRF : Hid (PartsRel w w.heap.size k ps.flatten (.slice B t d) wr) := by have := HR.out; rw [List.take_of_length_le (by rw [HP.out.1]; omega)] at this; exact this
      have HTF : Hid (t = ps.flatten.length) := by have := HT.out; rw [List.take_of_length_le (by rw [HP.out.1]; omega)] at this; exact this
      have HSM : Hid (Small ps) := small_of HPS.out (by rw [HP.out.1, ← hin]; exact HSH.out)
      have HFO := Lib.hid HSM.out.flat
      have HFL : ps.flatten.length ≤ 900 := by
        have := flat_len i HSH.out
        rw [List.take_of_length_le (by rw [HP.out.1]; omega)] at this
        omega
      have VA : Hid (Vals wr B t (cel ps.flatten)) := Vals.of_own (by have := HRF.out.row; rw [← HTF.out] at this; exact this)
      have KB := Lib.hid HRF.out.key
      have HBE := Lib.hid HRF.out.be
      have D0 : Hid (Below wr.heap.size wr wr.drew) := (Below.refl _ wr).drew
      have CP : Hid (∀ w', Below wr.heap.size wr w' → Calls Try.prog 8 #[.agg (cel k).toArray, .slice A n c] w' fun e w'' => e = .returned (.int .u64 (sip k ps.flatten : Nat)) ∧ Below w'.heap.size w' w'') := fun w' hb =>
        sum_is k A n c ps w' HK.out H16.out (HP.out.below (HBE.out.trans (hb.mono HBE.out.size))) (by omega) HSM.out
      have CA : Hid (∀ w' a, PartsAt w' (some a) 1 [ps.flatten] → Calls Try.prog 8 #[.agg (cel k).toArray, .slice (some a) 1 1] w' fun e w'' => e = .returned (.int .u64 (sip k ps.flatten : Nat)) ∧ Below w'.heap.size w' w'') := fun w' a hp => by
        have := sum_is k (some a) 1 1 [ps.flatten] w' HK.out H16.out hp (by omega) (Small.one HFO.out (by omega))
        rw [show [ps.flatten].flatten = ps.flatten by simp] at this
        exact this
      have CN : Hid (∀ w', Calls Try.prog 8 #[.agg (cel k).toArray, .slice none 0 0] w' fun e w'' => e = .returned (.int .u64 (sip k [] : Nat)) ∧ Below w'.heap.size w' w'') := fun w' =>
        sum_is k none 0 0 [] w' HK.out H16.out ⟨rfl, fun i hi => by omega⟩ (by omega) (fun p hp => by simp at hp)
      have CE : Hid (∀ w' a, PartsAt w' (some a) 2 [[], []] → Calls Try.prog 8 #[.agg (cel k).toArray, .slice (some a) 2 2] w' fun e w'' => e = .returned (.int .u64 (sip k [] : Nat)) ∧ Below w'.heap.size w' w'') := fun w' a hp =>
        sum_is k (some a) 2 2 [[], []] w' HK.out H16.out hp (by omega) (fun p hp => by
          have e : p = [] := by simpa using hp
          subst e
          exact ⟨Octs.nil, by simp⟩)
      have hu := Try.underlying22
      have hi := key_info H16.out
      have hs1 : (((sip k ps.flatten : Nat) : Int) == ((sip k ps.flatten : Nat) : Int)) = true := by simp
      have hs2 : (((sip k [] : Nat) : Int) == ((sip k [] : Nat) : Int)) = true := by simp
      clear HR HT HSH HRF HTF HSM HFO HFL hin HP HPS B1 W1
      generalize sip k ps.flatten = s at *
      generalize sip k [] = s0 at *
      generalize ps.flatten = F at *
      go_upto_region 11 with fail
      refine wp_region_noPanic ?_
      refine wp_region_held_drew (S := fun W => W.rangeAt w.heap.size 0 (cel k)) (by kernel_rfl) ?_ (fun hHeld => ?_)
      · exact keepS KB.out D0.out
      refine wpAnyH_take (i := 0) (oi := ⟨some 33, _, _, _, _, _⟩) (v := .agg (cel k).toArray) rfl (by kernel_rfl) (by kernel_rfl) (by kernel_rfl) (fun _ _ _ h => h) (yieldsIf_load_mid (by rfl) 22 (.tmp 2) rfl w.heap.size 0 rfl (cel k) _ (fun _ hW => hW) hu rfl hi) (by assumption) ?_
      try simp only [Act.put, List.setIfInBounds_toArray, List.set_cons_zero, List.set_cons_succ]
      refine wpAnyH_take (i := 1) (oi := ⟨some 34, _, _, _, _, _⟩) (v := ?_) rfl (by kernel_rfl) (by kernel_rfl) (by kernel_rfl) (fun _ _ _ h => h) (Or.inl ⟨by rfl, ?_⟩) (by assumption) ?_
      rotate_left
      · (intro w hSw; (try dsimp only at hSw); go_simp)
        first | done | (with_reducible rfl)
      try simp only [Act.put, List.setIfInBounds_toArray, List.set_cons_zero, List.set_cons_succ]
      refine wpAnyH_take (i := 3) (oi := ⟨some 36, _, _, _, _, _⟩) (v := .agg (cel k).toArray) rfl (by kernel_rfl) (by kernel_rfl) (by kernel_rfl) (fun _ _ _ h => h) (yieldsIf_load_mid (by rfl) 22 (.tmp 2) rfl w.heap.size 0 rfl (cel k) _ (fun _ hW => hW) hu rfl hi) (by assumption) ?_
      try simp only [Act.put, List.setIfInBounds_toArray, List.set_cons_zero, List.set_cons_succ]
      refine wpAnyH_take (i := 4) (oi := ⟨some 37, _, _, _, _, _⟩) (v := ?_) rfl (by kernel_rfl) (by kernel_rfl) (by kernel_rfl) (fun _ _ _ h => h) (Or.inl ⟨by rfl, ?_⟩) (by assumption) ?_
      rotate_left
      · (intro w hSw; (try dsimp only at hSw); go_simp)
        first | done | (with_reducible rfl)
      try simp only [Act.put, List.setIfInBounds_toArray, List.set_cons_zero, List.set_cons_succ]
      refine wpAnyH_ready (rs := [2, 5]) (by kernel_rfl) (by simp) ?_
      refine AllReadyH.cons (o := ⟨some 35, _, _, _, _, _⟩) rfl (fun K hK => ?_) (AllReadyH.cons (o := ⟨some 38, _, _, _, _, _⟩) rfl (fun K hK => ?_) (AllReadyH.nil))
      · go_simp
        refine (CP.out _ D0.out).mono ?_
        rintro e wA ⟨rfl, hb⟩
        have DwA : Hid (Below wr.heap.size wr wA) := D0.out.trans (hb.mono D0.out.size)
        clear hb
        refine hK.out _ _ ?_ (fun hHeld => ?_)
        · exact keepS KB.out DwA.out
        clear hK K
        try simp only [Act.put, List.setIfInBounds_toArray, List.set_cons_zero, List.set_cons_succ]
        refine wpAnyH_ready (rs := [5]) (by kernel_rfl) (by simp) ?_
        refine AllReadyH.cons (o := ⟨some 38, _, _, _, _, _⟩) rfl (fun K hK => ?_) (AllReadyH.nil)
        go_simp
        have EA : Hid (Below wr.heap.size wr (wA.alloc (.cells #[.slice B t d] 23))) := DwA.out.alloc DwA.out.size _
        have PA : Hid (PartsAt (wA.alloc (.cells #[.slice B t d] 23)) (some ⟨wA.heap.size, 0, none⟩) 1 [F]) := PartsAt.one (c := d) (VA.out.below DwA.out)
        refine hK.out _ _ ?_ (fun hHeld => ?_)
        · exact keepS KB.out EA.out
        clear hK K
        try simp only [Act.put, List.setIfInBounds_toArray, List.set_cons_zero, List.set_cons_succ]
        refine wpAnyH_ready (rs := [6]) (by kernel_rfl) (by simp) ?_
        refine AllReadyH.cons (o := ⟨some 39, _, _, _, _, _⟩) rfl (fun K hK => ?_) (AllReadyH.nil)
        go_simp
        refine (CA.out _ _ PA.out).mono ?_
        rintro e wA2 ⟨rfl, hb⟩
        have DwA2 : Hid (Below wr.heap.size wr wA2) := EA.out.trans (hb.mono EA.out.size)
        clear hb
        refine hK.out _ _ ?_ (fun hHeld => ?_)
        · exact keepS KB.out DwA2.out
        clear hK K
        try simp only [Act.put, List.setIfInBounds_toArray, List.set_cons_zero, List.set_cons_succ]
        refine wpAnyH_take (i := 7) (oi := ⟨some 40, _, _, _, _, _⟩) (v := ?_) rfl (by kernel_rfl) (by kernel_rfl) (by kernel_rfl) (fun _ _ _ h => h) (Or.inl ⟨by rfl, ?_⟩) (by assumption) ?_
        rotate_left
        · (intro w hSw; (try dsimp only at hSw); go_simp)
          first | done | (with_reducible rfl)
        try simp only [Act.put, List.setIfInBounds_toArray, List.set_cons_zero, List.set_cons_succ]
        refine wpAnyH_take (i := 8) (oi := ⟨some 41, _, _, _, _, _⟩) (v := ?_) rfl (by kernel_rfl) (by kernel_rfl) (by kernel_rfl) (fun _ _ _ h => h) (Or.inl ⟨by rfl, ?_⟩) (by assumption) ?_
        rotate_left
        · (intro w hSw; (try dsimp only at hSw); go_simp)
          first | done | (with_reducible rfl)
        try simp only [Act.put, List.setIfInBounds_toArray, List.set_cons_zero, List.set_cons_succ]
        refine wpAnyH_take (i := 9) (oi := ⟨some 42, _, _, _, _, _⟩) (v := .agg (cel k).toArray) rfl (by kernel_rfl) (by kernel_rfl) (by kernel_rfl) (fun _ _ _ h => h) (yieldsIf_load_mid (by rfl) 22 (.tmp 2) rfl w.heap.size 0 rfl (cel k) _ (fun _ hW => hW) hu rfl hi) (by assumption) ?_
        try simp only [Act.put, List.setIfInBounds_toArray, List.set_cons_zero, List.set_cons_succ]
        refine wpAnyH_take (i := 11) (oi := ⟨some 44, _, _, _, _, _⟩) (v := .agg (cel k).toArray) rfl (by kernel_rfl) (by kernel_rfl) (by kernel_rfl) (fun _ _ _ h => h) (yieldsIf_load_mid (by rfl) 22 (.tmp 2) rfl w.heap.size 0 rfl (cel k) _ (fun _ hW => hW) hu rfl hi) (by assumption) ?_
        try simp only [Act.put, List.setIfInBounds_toArray, List.set_cons_zero, List.set_cons_succ]
        refine wpAnyH_ready (rs := [10, 12]) (by kernel_rfl) (by simp) ?_
        refine AllReadyH.cons (o := ⟨some 43, _, _, _, _, _⟩) rfl (fun K hK => ?_) (AllReadyH.cons (o := ⟨some 45, _, _, _, _, _⟩) rfl (fun K hK => ?_) (AllReadyH.nil))
        · go_simp
          refine (CN.out _).mono ?_
          rintro e ya1 ⟨rfl, hb⟩
          have Dya1 : Hid (Below wr.heap.size wr ya1) := DwA2.out.trans (hb.mono DwA2.out.size)
          clear hb
          refine hK.out _ _ ?_ (fun hHeld => ?_)
          · exact keepS KB.out Dya1.out
          clear hK K
          try simp only [Act.put, List.setIfInBounds_toArray, List.set_cons_zero, List.set_cons_succ]
          refine wpAnyH_ready (rs := [12]) (by kernel_rfl) (by simp) ?_
          refine AllReadyH.cons (o := ⟨some 45, _, _, _, _, _⟩) rfl (fun K hK => ?_) (AllReadyH.nil)
          go_simp
          have Ea1 : Hid (Below wr.heap.size wr (ya1.alloc (.cells #[] 5))) := Dya1.out.alloc Dya1.out.size _
          refine hK.out _ _ ?_ (fun hHeld => ?_)
          · exact keepS KB.out Ea1.out
          clear hK K
          try simp only [Act.put, List.setIfInBounds_toArray, List.set_cons_zero, List.set_cons_succ]
          refine wpAnyH_ready (rs := [13]) (by kernel_rfl) (by simp) ?_
          refine AllReadyH.cons (o := ⟨some 46, _, _, _, _, _⟩) rfl (fun K hK => ?_) (AllReadyH.nil)
          go_simp
          have Ga1 : Hid (Below wr.heap.size wr ((ya1.alloc (.cells #[] 5)).alloc (.cells #[.slice none 0 0, .slice (some ⟨ya1.heap.size, 0, none⟩) 0 0] 23))) := Ea1.out.alloc Ea1.out.size _
          have Pa1 : Hid (PartsAt ((ya1.alloc (.cells #[] 5)).alloc (.cells #[.slice none 0 0, .slice (some ⟨ya1.heap.size, 0, none⟩) 0 0] 23)) (some ⟨ya1.heap.size + 1, 0, none⟩) 2 [[], []]) := two_more ya1
          refine hK.out _ _ ?_ (fun hHeld => ?_)
          · exact keepS KB.out Ga1.out
          clear hK K
          try simp only [Act.put, List.setIfInBounds_toArray, List.set_cons_zero, List.set_cons_succ]
          refine wpAnyH_ready (rs := [14]) (by kernel_rfl) (by simp) ?_
          refine AllReadyH.cons (o := ⟨some 47, _, _, _, _, _⟩) rfl (fun K hK => ?_) (AllReadyH.nil)
          go_simp
          refine (CE.out _ _ Pa1.out).mono ?_
          rintro e za1 ⟨rfl, hb⟩
          have Dza1 : Hid (Below wr.heap.size wr za1) := Ga1.out.trans (hb.mono Ga1.out.size)
          clear hb
          refine hK.out _ _ ?_ (fun hHeld => ?_)
          · exact keepS KB.out Dza1.out
          clear hK K
          try simp only [Act.put, List.setIfInBounds_toArray, List.set_cons_zero, List.set_cons_succ]
          refine wpAnyH_take (i := 15) (oi := ⟨some 48, _, _, _, _, _⟩) (v := ?_) rfl (by kernel_rfl) (by kernel_rfl) (by kernel_rfl) (fun _ _ _ h => h) (Or.inl ⟨by rfl, ?_⟩) (by assumption) ?_
          rotate_left
          · (intro w hSw; (try dsimp only at hSw); go_simp)
            first | done | (with_reducible rfl)
          try simp only [Act.put, List.setIfInBounds_toArray, List.set_cons_zero, List.set_cons_succ]
          refine wpAnyH_take (i := 16) (oi := ⟨some 49, _, _, _, _, _⟩) (v := ?_) rfl (by kernel_rfl) (by kernel_rfl) (by kernel_rfl) (fun _ _ _ h => h) (Or.inl ⟨by rfl, ?_⟩) (by assumption) ?_
          rotate_left
          · (intro w hSw; (try dsimp only at hSw); go_simp)
            first | done | (with_reducible rfl)
          try simp only [Act.put, List.setIfInBounds_toArray, List.set_cons_zero, List.set_cons_succ]
          refine wpAnyH_take (i := 17) (oi := ⟨some 4, _, _, _, _, _⟩) (v := ?_) rfl (by kernel_rfl) (by kernel_rfl) (by kernel_rfl) (fun _ _ _ h => h) (Or.inl ⟨by rfl, ?_⟩) (by assumption) ?_
          rotate_left
          · (intro w hSw; (try dsimp only at hSw); go_simp)
            first | done | (with_reducible rfl)
          try simp only [Act.put, List.setIfInBounds_toArray, List.set_cons_zero, List.set_cons_succ]
          refine wpAnyH_done (by kernel_rfl) ?_ _
          refine NoPanic.normal ?_
          go_wp2
          go_ret
          exact ⟨rfl, HBE.out.trans (Dza1.out.mono HBE.out.size)⟩
        · go_simp
          have Eab : Hid (Below wr.heap.size wr (wA2.alloc (.cells #[] 5))) := DwA2.out.alloc DwA2.out.size _
          refine hK.out _ _ ?_ (fun hHeld => ?_)
          · exact keepS KB.out Eab.out
          clear hK K
          try simp only [Act.put, List.setIfInBounds_toArray, List.set_cons_zero, List.set_cons_succ]
          refine wpAnyH_ready (rs := [10, 13]) (by kernel_rfl) (by simp) ?_
          refine AllReadyH.cons (o := ⟨some 43, _, _, _, _, _⟩) rfl (fun K hK => ?_) (AllReadyH.cons (o := ⟨some 46, _, _, _, _, _⟩) rfl (fun K hK => ?_) (AllReadyH.nil))
          · go_simp
            refine (CN.out _).mono ?_
            rintro e ya2 ⟨rfl, hb⟩
            have Dya2 : Hid (Below wr.heap.size wr ya2) := Eab.out.trans (hb.mono Eab.out.size)
            clear hb
            refine hK.out _ _ ?_ (fun hHeld => ?_)
            · exact keepS KB.out Dya2.out
            clear hK K
            try simp only [Act.put, List.setIfInBounds_toArray, List.set_cons_zero, List.set_cons_succ]
            refine wpAnyH_ready (rs := [13]) (by kernel_rfl) (by simp) ?_
            refine AllReadyH.cons (o := ⟨some 46, _, _, _, _, _⟩) rfl (fun K hK => ?_) (AllReadyH.nil)
            go_simp
            have Ga2 : Hid (Below wr.heap.size wr (ya2.alloc (.cells #[.slice none 0 0, .slice (some ⟨wA2.heap.size, 0, none⟩) 0 0] 23))) := Dya2.out.alloc Dya2.out.size _
            have Pa2 : Hid (PartsAt (ya2.alloc (.cells #[.slice none 0 0, .slice (some ⟨wA2.heap.size, 0, none⟩) 0 0] 23)) (some ⟨ya2.heap.size, 0, none⟩) 2 [[], []]) := PartsAt.two (l := []) (l' := []) Vals.none_ Vals.none_
            refine hK.out _ _ ?_ (fun hHeld => ?_)
            · exact keepS KB.out Ga2.out
            clear hK K
            try simp only [Act.put, List.setIfInBounds_toArray, List.set_cons_zero, List.set_cons_succ]
            refine wpAnyH_ready (rs := [14]) (by kernel_rfl) (by simp) ?_
            refine AllReadyH.cons (o := ⟨some 47, _, _, _, _, _⟩) rfl (fun K hK => ?_) (AllReadyH.nil)
            go_simp
            refine (CE.out _ _ Pa2.out).mono ?_
            rintro e za2 ⟨rfl, hb⟩
            have Dza2 : Hid (Below wr.heap.size wr za2) := Ga2.out.trans (hb.mono Ga2.out.size)
            clear hb
            refine hK.out _ _ ?_ (fun hHeld => ?_)
            · exact keepS KB.out Dza2.out
            clear hK K
            try simp only [Act.put, List.setIfInBounds_toArray, List.set_cons_zero, List.set_cons_succ]
            refine wpAnyH_take (i := 15) (oi := ⟨some 48, _, _, _, _, _⟩) (v := ?_) rfl (by kernel_rfl) (by kernel_rfl) (by kernel_rfl) (fun _ _ _ h => h) (Or.inl ⟨by rfl, ?_⟩) (by assumption) ?_
            rotate_left
            · (intro w hSw; (try dsimp only at hSw); go_simp)
              first | done | (with_reducible rfl)
            try simp only [Act.put, List.setIfInBounds_toArray, List.set_cons_zero, List.set_cons_succ]
            refine wpAnyH_take (i := 16) (oi := ⟨some 49, _, _, _, _, _⟩) (v := ?_) rfl (by kernel_rfl) (by kernel_rfl) (by kernel_rfl) (fun _ _ _ h => h) (Or.inl ⟨by rfl, ?_⟩) (by assumption) ?_
            rotate_left
            · (intro w hSw; (try dsimp only at hSw); go_simp)
              first | done | (with_reducible rfl)
            try simp only [Act.put, List.setIfInBounds_toArray, List.set_cons_zero, List.set_cons_succ]
            refine wpAnyH_take (i := 17) (oi := ⟨some 4, _, _, _, _, _⟩) (v := ?_) rfl (by kernel_rfl) (by kernel_rfl) (by kernel_rfl) (fun _ _ _ h => h) (Or.inl ⟨by rfl, ?_⟩) (by assumption) ?_
            rotate_left
            · (intro w hSw; (try dsimp only at hSw); go_simp)
              first | done | (with_reducible rfl)
            try simp only [Act.put, List.setIfInBounds_toArray, List.set_cons_zero, List.set_cons_succ]
            refine wpAnyH_done (by kernel_rfl) ?_ _
            refine NoPanic.normal ?_
            go_wp2
            go_ret
            exact ⟨rfl, HBE.out.trans (Dza2.out.mono HBE.out.size)⟩
          · go_simp
            have Ga3 : Hid (Below wr.heap.size wr ((wA2.alloc (.cells #[] 5)).alloc (.cells #[.slice none 0 0, .slice (some ⟨wA2.heap.size, 0, none⟩) 0 0] 23))) := Eab.out.alloc Eab.out.size _
            have Oa3 : Hid (PartsAt ((wA2.alloc (.cells #[] 5)).alloc (.cells #[.slice none 0 0, .slice (some ⟨wA2.heap.size, 0, none⟩) 0 0] 23)) (some ⟨wA2.heap.size + 1, 0, none⟩) 2 [[], []]) := two_more wA2
            refine hK.out _ _ ?_ (fun hHeld => ?_)
            · exact keepS KB.out Ga3.out
            clear hK K
            try simp only [Act.put, List.setIfInBounds_toArray, List.set_cons_zero, List.set_cons_succ]
            refine wpAnyH_ready (rs := [10]) (by kernel_rfl) (by simp) ?_
            refine AllReadyH.cons (o := ⟨some 43, _, _, _, _, _⟩) rfl (fun K hK => ?_) (AllReadyH.nil)
            go_simp
            refine (CN.out _).mono ?_
            rintro e ya3 ⟨rfl, hb⟩
            have Dya3 : Hid (Below wr.heap.size wr ya3) := Ga3.out.trans (hb.mono Ga3.out.size)
            have Pa3 := Lib.hid (Oa3.out.below hb)
            clear hb
            refine hK.out _ _ ?_ (fun hHeld => ?_)
            · exact keepS KB.out Dya3.out
            clear hK K
            try simp only [Act.put, List.setIfInBounds_toArray, List.set_cons_zero, List.set_cons_succ]
            refine wpAnyH_ready (rs := [14]) (by kernel_rfl) (by simp) ?_
            refine AllReadyH.cons (o := ⟨some 47, _, _, _, _, _⟩) rfl (fun K hK => ?_) (AllReadyH.nil)
            go_simp
            refine (CE.out _ _ Pa3.out).mono ?_
            rintro e za3 ⟨rfl, hb⟩
            have Dza3 : Hid (Below wr.heap.size wr za3) := Dya3.out.trans (hb.mono Dya3.out.size)
            clear hb
            refine hK.out _ _ ?_ (fun hHeld => ?_)
            · exact keepS KB.out Dza3.out
            clear hK K
            try simp only [Act.put, List.setIfInBounds_toArray, List.set_cons_zero, List.set_cons_succ]
            refine wpAnyH_take (i := 15) (oi := ⟨some 48, _, _, _, _, _⟩) (v := ?_) rfl (by kernel_rfl) (by kernel_rfl) (by kernel_rfl) (fun _ _ _ h => h) (Or.inl ⟨by rfl, ?_⟩) (by assumption) ?_
            rotate_left
            · (intro w hSw; (try dsimp only at hSw); go_simp)
              first | done | (with_reducible rfl)
            try simp only [Act.put, List.setIfInBounds_toArray, List.set_cons_zero, List.set_cons_succ]
            refine wpAnyH_take (i := 16) (oi := ⟨some 49, _, _, _, _, _⟩) (v := ?_) rfl (by kernel_rfl) (by kernel_rfl) (by kernel_rfl) (fun _ _ _ h => h) (Or.inl ⟨by rfl, ?_⟩) (by assumption) ?_
            rotate_left
            · (intro w hSw; (try dsimp only at hSw); go_simp)
              first | done | (with_reducible rfl)
            try simp only [Act.put, List.setIfInBounds_toArray, List.set_cons_zero, List.set_cons_succ]
            refine wpAnyH_take (i := 17) (oi := ⟨some 4, _, _, _, _, _⟩) (v := ?_) rfl (by kernel_rfl) (by kernel_rfl) (by kernel_rfl) (fun _ _ _ h => h) (Or.inl ⟨by rfl, ?_⟩) (by assumption) ?_
            rotate_left
            · (intro w hSw; (try dsimp only at hSw); go_simp)
              first | done | (with_reducible rfl)
            try simp only [Act.put, List.setIfInBounds_toArray, List.set_cons_zero, List.set_cons_succ]
            refine wpAnyH_done (by kernel_rfl) ?_ _
            refine NoPanic.normal ?_
            go_wp2
            go_ret
            exact ⟨rfl, HBE.out.trans (Dza3.out.mono HBE.out.size)⟩
      · go_simp
        have EB : Hid (Below wr.heap.size wr (wr.alloc (.cells #[.slice B t d] 23)).drew) := ((Below.refl _ wr).alloc (Nat.le_refl _) _).drew
        have PB0 : Hid (PartsAt (wr.alloc (.cells #[.slice B t d] 23)).drew (some ⟨wr.heap.size, 0, none⟩) 1 [F]) := PartsAt.one (c := d) VA.out
        refine hK.out _ _ ?_ (fun hHeld => ?_)
        · exact keepS KB.out EB.out
        clear hK K
        try simp only [Act.put, List.setIfInBounds_toArray, List.set_cons_zero, List.set_cons_succ]
        refine wpAnyH_ready (rs := [2]) (by kernel_rfl) (by simp) ?_
        refine AllReadyH.cons (o := ⟨some 35, _, _, _, _, _⟩) rfl (fun K hK => ?_) (AllReadyH.nil)
        go_simp
        refine (CP.out _ EB.out).mono ?_
        rintro e wB ⟨rfl, hb⟩
        have DwB : Hid (Below wr.heap.size wr wB) := EB.out.trans (hb.mono EB.out.size)
        have PB := Lib.hid (PB0.out.below hb)
        clear hb
        refine hK.out _ _ ?_ (fun hHeld => ?_)
        · exact keepS KB.out DwB.out
        clear hK K
        try simp only [Act.put, List.setIfInBounds_toArray, List.set_cons_zero, List.set_cons_succ]
        refine wpAnyH_ready (rs := [6]) (by kernel_rfl) (by simp) ?_
        refine AllReadyH.cons (o := ⟨some 39, _, _, _, _, _⟩) rfl (fun K hK => ?_) (AllReadyH.nil)
        go_simp
        refine (CA.out _ _ PB.out).mono ?_
        rintro e wB2 ⟨rfl, hb⟩
        have DwB2 : Hid (Below wr.heap.size wr wB2) := DwB.out.trans (hb.mono DwB.out.size)
        clear hb
        refine hK.out _ _ ?_ (fun hHeld => ?_)
        · exact keepS KB.out DwB2.out
        clear hK K
        try simp only [Act.put, List.setIfInBounds_toArray, List.set_cons_zero, List.set_cons_succ]
        refine wpAnyH_take (i := 7) (oi := ⟨some 40, _, _, _, _, _⟩) (v := ?_) rfl (by kernel_rfl) (by kernel_rfl) (by kernel_rfl) (fun _ _ _ h => h) (Or.inl ⟨by rfl, ?_⟩) (by assumption) ?_
        rotate_left
        · (intro w hSw; (try dsimp only at hSw); go_simp)
          first | done | (with_reducible rfl)
        try simp only [Act.put, List.setIfInBounds_toArray, List.set_cons_zero, List.set_cons_succ]
        refine wpAnyH_take (i := 8) (oi := ⟨some 41, _, _, _, _, _⟩) (v := ?_) rfl (by kernel_rfl) (by kernel_rfl) (by kernel_rfl) (fun _ _ _ h => h) (Or.inl ⟨by rfl, ?_⟩) (by assumption) ?_
        rotate_left
        · (intro w hSw; (try dsimp only at hSw); go_simp)
          first | done | (with_reducible rfl)
        try simp only [Act.put, List.setIfInBounds_toArray, List.set_cons_zero, List.set_cons_succ]
        refine wpAnyH_take (i := 9) (oi := ⟨some 42, _, _, _, _, _⟩) (v := .agg (cel k).toArray) rfl (by kernel_rfl) (by kernel_rfl) (by kernel_rfl) (fun _ _ _ h => h) (yieldsIf_load_mid (by rfl) 22 (.tmp 2) rfl w.heap.size 0 rfl (cel k) _ (fun _ hW => hW) hu rfl hi) (by assumption) ?_
        try simp only [Act.put, List.setIfInBounds_toArray, List.set_cons_zero, List.set_cons_succ]
        refine wpAnyH_take (i := 11) (oi := ⟨some 44, _, _, _, _, _⟩) (v := .agg (cel k).toArray) rfl (by kernel_rfl) (by kernel_rfl) (by kernel_rfl) (fun _ _ _ h => h) (yieldsIf_load_mid (by rfl) 22 (.tmp 2) rfl w.heap.size 0 rfl (cel k) _ (fun _ hW => hW) hu rfl hi) (by assumption) ?_
        try simp only [Act.put, List.setIfInBounds_toArray, List.set_cons_zero, List.set_cons_succ]
        refine wpAnyH_ready (rs := [10, 12]) (by kernel_rfl) (by simp) ?_
        refine AllReadyH.cons (o := ⟨some 43, _, _, _, _, _⟩) rfl (fun K hK => ?_) (AllReadyH.cons (o := ⟨some 45, _, _, _, _, _⟩) rfl (fun K hK => ?_) (AllReadyH.nil))
        · go_simp
          refine (CN.out _).mono ?_
          rintro e yb1 ⟨rfl, hb⟩
          have Dyb1 : Hid (Below wr.heap.size wr yb1) := DwB2.out.trans (hb.mono DwB2.out.size)
          clear hb
          refine hK.out _ _ ?_ (fun hHeld => ?_)
          · exact keepS KB.out Dyb1.out
          clear hK K
          try simp only [Act.put, List.setIfInBounds_toArray, List.set_cons_zero, List.set_cons_succ]
          refine wpAnyH_ready (rs := [12]) (by kernel_rfl) (by simp) ?_
          refine AllReadyH.cons (o := ⟨some 45, _, _, _, _, _⟩) rfl (fun K hK => ?_) (AllReadyH.nil)
          go_simp
          have Eb1 : Hid (Below wr.heap.size wr (yb1.alloc (.cells #[] 5))) := Dyb1.out.alloc Dyb1.out.size _
          refine hK.out _ _ ?_ (fun hHeld => ?_)
          · exact keepS KB.out Eb1.out
          clear hK K
          try simp only [Act.put, List.setIfInBounds_toArray, List.set_cons_zero, List.set_cons_succ]
          refine wpAnyH_ready (rs := [13]) (by kernel_rfl) (by simp) ?_
          refine AllReadyH.cons (o := ⟨some 46, _, _, _, _, _⟩) rfl (fun K hK => ?_) (AllReadyH.nil)
          go_simp
          have Gb1 : Hid (Below wr.heap.size wr ((yb1.alloc (.cells #[] 5)).alloc (.cells #[.slice none 0 0, .slice (some ⟨yb1.heap.size, 0, none⟩) 0 0] 23))) := Eb1.out.alloc Eb1.out.size _
          have Pb1 : Hid (PartsAt ((yb1.alloc (.cells #[] 5)).alloc (.cells #[.slice none 0 0, .slice (some ⟨yb1.heap.size, 0, none⟩) 0 0] 23)) (some ⟨yb1.heap.size + 1, 0, none⟩) 2 [[], []]) := two_more yb1
          refine hK.out _ _ ?_ (fun hHeld => ?_)
          · exact keepS KB.out Gb1.out
          clear hK K
          try simp only [Act.put, List.setIfInBounds_toArray, List.set_cons_zero, List.set_cons_succ]
          refine wpAnyH_ready (rs := [14]) (by kernel_rfl) (by simp) ?_
          refine AllReadyH.cons (o := ⟨some 47, _, _, _, _, _⟩) rfl (fun K hK => ?_) (AllReadyH.nil)
          go_simp
          refine (CE.out _ _ Pb1.out).mono ?_
          rintro e zb1 ⟨rfl, hb⟩
          have Dzb1 : Hid (Below wr.heap.size wr zb1) := Gb1.out.trans (hb.mono Gb1.out.size)
          clear hb
          refine hK.out _ _ ?_ (fun hHeld => ?_)
          · exact keepS KB.out Dzb1.out
          clear hK K
          try simp only [Act.put, List.setIfInBounds_toArray, List.set_cons_zero, List.set_cons_succ]
          refine wpAnyH_take (i := 15) (oi := ⟨some 48, _, _, _, _, _⟩) (v := ?_) rfl (by kernel_rfl) (by kernel_rfl) (by kernel_rfl) (fun _ _ _ h => h) (Or.inl ⟨by rfl, ?_⟩) (by assumption) ?_
          rotate_left
          · (intro w hSw; (try dsimp only at hSw); go_simp)
            first | done | (with_reducible rfl)
          try simp only [Act.put, List.setIfInBounds_toArray, List.set_cons_zero, List.set_cons_succ]
          refine wpAnyH_take (i := 16) (oi := ⟨some 49, _, _, _, _, _⟩) (v := ?_) rfl (by kernel_rfl) (by kernel_rfl) (by kernel_rfl) (fun _ _ _ h => h) (Or.inl ⟨by rfl, ?_⟩) (by assumption) ?_
          rotate_left
          · (intro w hSw; (try dsimp only at hSw); go_simp)
            first | done | (with_reducible rfl)
          try simp only [Act.put, List.setIfInBounds_toArray, List.set_cons_zero, List.set_cons_succ]
          refine wpAnyH_take (i := 17) (oi := ⟨some 4, _, _, _, _, _⟩) (v := ?_) rfl (by kernel_rfl) (by kernel_rfl) (by kernel_rfl) (fun _ _ _ h => h) (Or.inl ⟨by rfl, ?_⟩) (by assumption) ?_
          rotate_left
          · (intro w hSw; (try dsimp only at hSw); go_simp)
            first | done | (with_reducible rfl)
          try simp only [Act.put, List.setIfInBounds_toArray, List.set_cons_zero, List.set_cons_succ]
          refine wpAnyH_done (by kernel_rfl) ?_ _
          refine NoPanic.normal ?_
          go_wp2
          go_ret
          exact ⟨rfl, HBE.out.trans (Dzb1.out.mono HBE.out.size)⟩
        · go_simp
          have Ebb : Hid (Below wr.heap.size wr (wB2.alloc (.cells #[] 5))) := DwB2.out.alloc DwB2.out.size _
          refine hK.out _ _ ?_ (fun hHeld => ?_)
          · exact keepS KB.out Ebb.out
          clear hK K
          try simp only [Act.put, List.setIfInBounds_toArray, List.set_cons_zero, List.set_cons_succ]
          refine wpAnyH_ready (rs := [10, 13]) (by kernel_rfl) (by simp) ?_
          refine AllReadyH.cons (o := ⟨some 43, _, _, _, _, _⟩) rfl (fun K hK => ?_) (AllReadyH.cons (o := ⟨some 46, _, _, _, _, _⟩) rfl (fun K hK => ?_) (AllReadyH.nil))
          · go_simp
            refine (CN.out _).mono ?_
            rintro e yb2 ⟨rfl, hb⟩
            have Dyb2 : Hid (Below wr.heap.size wr yb2) := Ebb.out.trans (hb.mono Ebb.out.size)
            clear hb
            refine hK.out _ _ ?_ (fun hHeld => ?_)
            · exact keepS KB.out Dyb2.out
            clear hK K
            try simp only [Act.put, List.setIfInBounds_toArray, List.set_cons_zero, List.set_cons_succ]
            refine wpAnyH_ready (rs := [13]) (by kernel_rfl) (by simp) ?_
            refine AllReadyH.cons (o := ⟨some 46, _, _, _, _, _⟩) rfl (fun K hK => ?_) (AllReadyH.nil)
            go_simp
            have Gb2 : Hid (Below wr.heap.size wr (yb2.alloc (.cells #[.slice none 0 0, .slice (some ⟨wB2.heap.size, 0, none⟩) 0 0] 23))) := Dyb2.out.alloc Dyb2.out.size _
            have Pb2 : Hid (PartsAt (yb2.alloc (.cells #[.slice none 0 0, .slice (some ⟨wB2.heap.size, 0, none⟩) 0 0] 23)) (some ⟨yb2.heap.size, 0, none⟩) 2 [[], []]) := PartsAt.two (l := []) (l' := []) Vals.none_ Vals.none_
            refine hK.out _ _ ?_ (fun hHeld => ?_)
            · exact keepS KB.out Gb2.out
            clear hK K
            try simp only [Act.put, List.setIfInBounds_toArray, List.set_cons_zero, List.set_cons_succ]
            refine wpAnyH_ready (rs := [14]) (by kernel_rfl) (by simp) ?_
            refine AllReadyH.cons (o := ⟨some 47, _, _, _, _, _⟩) rfl (fun K hK => ?_) (AllReadyH.nil)
            go_simp
            refine (CE.out _ _ Pb2.out).mono ?_
            rintro e zb2 ⟨rfl, hb⟩
            have Dzb2 : Hid (Below wr.heap.size wr zb2) := Gb2.out.trans (hb.mono Gb2.out.size)
            clear hb
            refine hK.out _ _ ?_ (fun hHeld => ?_)
            · exact keepS KB.out Dzb2.out
            clear hK K
            try simp only [Act.put, List.setIfInBounds_toArray, List.set_cons_zero, List.set_cons_succ]
            refine wpAnyH_take (i := 15) (oi := ⟨some 48, _, _, _, _, _⟩) (v := ?_) rfl (by kernel_rfl) (by kernel_rfl) (by kernel_rfl) (fun _ _ _ h => h) (Or.inl ⟨by rfl, ?_⟩) (by assumption) ?_
            rotate_left
            · (intro w hSw; (try dsimp only at hSw); go_simp)
              first | done | (with_reducible rfl)
            try simp only [Act.put, List.setIfInBounds_toArray, List.set_cons_zero, List.set_cons_succ]
            refine wpAnyH_take (i := 16) (oi := ⟨some 49, _, _, _, _, _⟩) (v := ?_) rfl (by kernel_rfl) (by kernel_rfl) (by kernel_rfl) (fun _ _ _ h => h) (Or.inl ⟨by rfl, ?_⟩) (by assumption) ?_
            rotate_left
            · (intro w hSw; (try dsimp only at hSw); go_simp)
              first | done | (with_reducible rfl)
            try simp only [Act.put, List.setIfInBounds_toArray, List.set_cons_zero, List.set_cons_succ]
            refine wpAnyH_take (i := 17) (oi := ⟨some 4, _, _, _, _, _⟩) (v := ?_) rfl (by kernel_rfl) (by kernel_rfl) (by kernel_rfl) (fun _ _ _ h => h) (Or.inl ⟨by rfl, ?_⟩) (by assumption) ?_
            rotate_left
            · (intro w hSw; (try dsimp only at hSw); go_simp)
              first | done | (with_reducible rfl)
            try simp only [Act.put, List.setIfInBounds_toArray, List.set_cons_zero, List.set_cons_succ]
            refine wpAnyH_done (by kernel_rfl) ?_ _
            refine NoPanic.normal ?_
            go_wp2
            go_ret
            exact ⟨rfl, HBE.out.trans (Dzb2.out.mono HBE.out.size)⟩
          · go_simp
            have Gb3 : Hid (Below wr.heap.size wr ((wB2.alloc (.cells #[] 5)).alloc (.cells #[.slice none 0 0, .slice (some ⟨wB2.heap.size, 0, none⟩) 0 0] 23))) := Ebb.out.alloc Ebb.out.size _
            have Ob3 : Hid (PartsAt ((wB2.alloc (.cells #[] 5)).alloc (.cells #[.slice none 0 0, .slice (some ⟨wB2.heap.size, 0, none⟩) 0 0] 23)) (some ⟨wB2.heap.size + 1, 0, none⟩) 2 [[], []]) := two_more wB2
            refine hK.out _ _ ?_ (fun hHeld => ?_)
            · exact keepS KB.out Gb3.out
            clear hK K
            try simp only [Act.put, List.setIfInBounds_toArray, List.set_cons_zero, List.set_cons_succ]
            refine wpAnyH_ready (rs := [10]) (by kernel_rfl) (by simp) ?_
            refine AllReadyH.cons (o := ⟨some 43, _, _, _, _, _⟩) rfl (fun K hK => ?_) (AllReadyH.nil)
            go_simp
            refine (CN.out _).mono ?_
            rintro e yb3 ⟨rfl, hb⟩
            have Dyb3 : Hid (Below wr.heap.size wr yb3) := Gb3.out.trans (hb.mono Gb3.out.size)
            have Pb3 := Lib.hid (Ob3.out.below hb)
            clear hb
            refine hK.out _ _ ?_ (fun hHeld => ?_)
            · exact keepS KB.out Dyb3.out
            clear hK K
            try simp only [Act.put, List.setIfInBounds_toArray, List.set_cons_zero, List.set_cons_succ]
            refine wpAnyH_ready (rs := [14]) (by kernel_rfl) (by simp) ?_
            refine AllReadyH.cons (o := ⟨some 47, _, _, _, _, _⟩) rfl (fun K hK => ?_) (AllReadyH.nil)
            go_simp
            refine (CE.out _ _ Pb3.out).mono ?_
            rintro e zb3 ⟨rfl, hb⟩
            have Dzb3 : Hid (Below wr.heap.size wr zb3) := Dyb3.out.trans (hb.mono Dyb3.out.size)
            clear hb
            refine hK.out _ _ ?_ (fun hHeld => ?_)
            · exact keepS KB.out Dzb3.out
            clear hK K
            try simp only [Act.put, List.setIfInBounds_toArray, List.set_cons_zero, List.set_cons_succ]
            refine wpAnyH_take (i := 15) (oi := ⟨some 48, _, _, _, _, _⟩) (v := ?_) rfl (by kernel_rfl) (by kernel_rfl) (by kernel_rfl) (fun _ _ _ h => h) (Or.inl ⟨by rfl, ?_⟩) (by assumption) ?_
            rotate_left
            · (intro w hSw; (try dsimp only at hSw); go_simp)
              first | done | (with_reducible rfl)
            try simp only [Act.put, List.setIfInBounds_toArray, List.set_cons_zero, List.set_cons_succ]
            refine wpAnyH_take (i := 16) (oi := ⟨some 49, _, _, _, _, _⟩) (v := ?_) rfl (by kernel_rfl) (by kernel_rfl) (by kernel_rfl) (fun _ _ _ h => h) (Or.inl ⟨by rfl, ?_⟩) (by assumption) ?_
            rotate_left
            · (intro w hSw; (try dsimp only at hSw); go_simp)
              first | done | (with_reducible rfl)
            try simp only [Act.put, List.setIfInBounds_toArray, List.set_cons_zero, List.set_cons_succ]
            refine wpAnyH_take (i := 17) (oi := ⟨some 4, _, _, _, _, _⟩) (v := ?_) rfl (by kernel_rfl) (by kernel_rfl) (by kernel_rfl) (fun _ _ _ h => h) (Or.inl ⟨by rfl, ?_⟩) (by assumption) ?_
            rotate_left
            · (intro w hSw; (try dsimp only at hSw); go_simp)
              first | done | (with_reducible rfl)
            try simp only [Act.put, List.setIfInBounds_toArray, List.set_cons_zero, List.set_cons_succ]
            refine wpAnyH_done (by kernel_rfl) ?_ _
            refine NoPanic.normal ?_
            go_wp2
            go_ret
            exact ⟨rfl, HBE.out.trans (Dzb3.out.mono HBE.out.size)⟩
theorem parts_any (k : List Nat) (A : Option Addr) (n c : Nat) (ps : List (List Nat)) (w : World) (hk : Octs k) (h16 : k.length = 16) (h : PartsAt w A n ps) (hps : Bytes ps) :
    Calls Try.prog 5 #[.agg (cel k).toArray, .slice A n c] w fun e w' => e = .returned (.bool true) ∧ Below w.heap.size w w' := by
  by_cases hn : n ≤ 30
  · exact parts_near k A n c ps w hk h16 h hps hn
  · exact parts_long k A n c w (by omega)
end Go.Proofs.Ythiikecmhaijlaa
