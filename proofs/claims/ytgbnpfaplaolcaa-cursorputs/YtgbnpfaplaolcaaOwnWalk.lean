/- The walk of the law CursorOwn: for any slice of bytes it returns true and turns nothing that was there. -/
import Derived.Test.YtgbnpfaplaolcaaSteps
import Derived.Deep.RegionHeld3
import Derived.IntWalk
namespace Go.Proofs.Ytgbnpfaplaolcaa
open Go.RowKit

theorem OutAt.far {S : Nat → Prop} {w w' : World} {base g : Nat} {r : Option Nat} {bs : List Int} (h : OutAt w base g r bs) (hf : Far S w w') (hg : ¬ S g) (hr : ∀ k, r = some k → ¬ S k) : OutAt w' base g r bs := by
  obtain ⟨A, c, h1, h2, h3⟩ := h
  exact ⟨A, c, h1.far hf hg, hf.row h2 (fun k e => hr k (h3 ▸ e)), h3⟩
theorem OutAt.where_ {w : World} {base g : Nat} {r : Option Nat} {bs : List Int} (h : OutAt w base g r bs) : g < w.heap.size ∧ ∀ k, r = some k → base ≤ k ∧ k < w.heap.size ∧ k ≠ g := by
  obtain ⟨A, c, h1, h2, h3⟩ := h
  refine ⟨h1.lt, fun k e => ?_⟩
  have h4 := h2.lt k (h3.trans e)
  refine ⟨h4.1, h4.2, fun e2 => ?_⟩
  exact h1.row_apart h2 (by decide) (by rw [h3, e, e2])
theorem Far.of_under {S : Nat → Prop} {w w' : World} {B : Nat} (h : Below B w w') (hB : w.heap.size ≤ B) : Far S w w' := Far.of_below (h.mono hB) S

/-- The first n cells of block g are bytes. -/
def Oc (w : World) (g n : Nat) : Prop := ∃ cs, Blk w g 5 cs ∧ ∀ k, k < n → ∃ z, cs[k]? = some (.int .u8 z)
theorem Oc.of_cel {w : World} {g n : Nat} {bs : List Int} (h : Blk w g 5 (cel bs)) (hn : n ≤ bs.length) : Oc w g n := ⟨_, h, fun k hk => ⟨_, cel_at bs k (by omega)⟩⟩
theorem Oc.far {S : Nat → Prop} {w w' : World} {g n : Nat} (h : Oc w g n) (hf : Far S w w') (hg : ¬ S g) : Oc w' g n := by
  obtain ⟨cs, h1, h2⟩ := h
  exact ⟨cs, h1.far hf hg, h2⟩
theorem Oc.set_ {w : World} {g n : Nat} (h : Oc w g n) (k : Nat) (z : Int) : Oc (w.setCell ⟨g, k, none⟩ (.int .u8 z)) g n := by
  obtain ⟨cs, h1, h2⟩ := h
  refine ⟨_, h1.set_ k _, fun j hj => ?_⟩
  obtain ⟨y, hy⟩ := h2 j hj
  have hlt := (List.getElem?_eq_some_iff.1 hy).1
  rw [List.getElem?_set]
  by_cases e : k = j
  · subst e; exact ⟨z, by simp [hlt]⟩
  · exact ⟨y, by rw [if_neg e]; exact hy⟩
theorem Oc.other {w : World} {g n : Nat} (h : Oc w g n) {p : Addr} (hp : g ≠ p.block) (u : Value) : Oc (w.setCell p u) g n := by
  obtain ⟨cs, h1, h2⟩ := h
  exact ⟨cs, h1.other hp u, h2⟩
theorem Oc.at_ {w : World} {g n k : Nat} (h : Oc w g n) (hk : k < n) : ∃ z, w.cell? ⟨g, k, none⟩ = some (.int .u8 z) ∧ w.frozen? ⟨g, k, none⟩ = false := by
  obtain ⟨cs, h1, h2⟩ := h
  obtain ⟨z, hz⟩ := h2 k hk
  exact ⟨z, (h1.cell k).trans hz, h1.frozen k⟩
theorem Oc.of_own {w : World} {base n c : Nat} {A : Option Addr} {bs : List Int} (h : w.ownsRow base 5 1 (.slice A n c) n (cel bs)) (hn : 0 < n) : ∃ g, A = some ⟨g, 0, none⟩ ∧ base ≤ g ∧ g < w.heap.size ∧ Oc w g n := by
  have hl : bs.length = n := by have := h.1; simpa [cel] using this
  rcases h.2 with ⟨e, rfl⟩ | ⟨g, cap, cur, e, hb, hg, hc, _, hs, ht⟩
  · omega
  · injection e with e1 e2 e3
    refine ⟨g, e1, hb, (Array.getElem?_eq_some_iff.1 hg).1, cur.toList, by simpa [Blk] using hg, fun k hk => ⟨bs.getD k 0, ?_⟩⟩
    have hc := cel_at bs k (by omega)
    rw [← ht, List.getElem?_take] at hc
    simpa [show k < n from hk] using hc

set_option maxHeartbeats 400000 in
theorem own_far (A : Option Addr) (n c : Nat) (w : World) (hn : 300 < n) (hm : n ≤ 9223372036854775807) :
    Calls Try.prog 7 #[.slice A n c] w fun e w' => e = .returned (.bool true) ∧ Below w.heap.size w w' := by
  go_enter Try.func7, Try.ntmps7
  go_wp2_with fail
  refine (awake_any _).mono ?_
  rintro e w1 ⟨rfl, hb⟩
  have HB := Lib.hid hb
  clear hb
  go_wp2_with fail
  refine (awake_any _).mono ?_
  rintro e w2 ⟨rfl, hb⟩
  have HC := Lib.hid hb
  clear hb
  go_wp2
  go_ret
  exact ⟨rfl, HB.out.trans (HC.out.mono HB.out.size)⟩

theorem OutAt.drew {w : World} {base g : Nat} {r : Option Nat} {bs : List Int} (h : OutAt w base g r bs) : OutAt w.drew base g r bs := h
theorem InAt.drew {w : World} {g q : Nat} {bad : Bool} {bs : List Int} (h : InAt w g q bad bs) : InAt w.drew g q bad bs := h

/-- Where the loops stand: what they write is bytes still, all else is as it was. -/
def OwnRel (w6 : World) (ro bx n : Nat) (w' : World) : Prop := (0 < n → Oc w' ro n) ∧ Oc w' bx n ∧ Far (fun j => j = ro ∨ j = bx) w6 w'

set_option maxHeartbeats 2000000 in
theorem own_near (A : Option Addr) (n c : Nat) (bs : List Int) (w : World) (h : n ≤ 300) (hc : n ≤ c) (ha : Byts w A n bs) :
    Calls Try.prog 7 #[.slice A n c] w fun e w' => e = .returned (.bool true) ∧ Below w.heap.size w w' := by
  have HA := Lib.hid ha
  have hl : bs.length = n := ha.1
  have HL := Lib.hid hl
  clear ha hl
  have hd3 : decide ((300 : Int) < (n : Int)) = false := by simp; omega
  obtain ⟨m, hm1, hm2⟩ : ∃ m : Nat, 2 * m ≤ n ∧ n ≤ 2 * m + 1 := ⟨n / 2, by omega, by omega⟩
  obtain ⟨Z, HZ, HS⟩ : ∃ Z, Hid (Byts w Z (n - m) (bs.drop m)) ∧ Hid (∀ W, (Instr.slice 23 (.slice A n c) (some (.int .i64 (m : Int))) none none).run Try.prog W = .ok (.slice Z (n - m) (c - m)) W) :=
    ⟨_, HA.out.from_ (by omega) hc, fun W => run_from W (by omega)⟩
  go_enter Try.func7, Try.ntmps7
  go_wp2_with (first | (go_at_call 8; (with_reducible refine (awake_any _).mono ?_); rintro e w1 ⟨rfl, hb1⟩; have W1 := Lib.hid hb1; clear hb1) | (at_builtin; refine wpList_app_to rfl (.tmp 18) (.tmp 19) rfl w.heap.size _ 0 [] rfl (by exact World.ownsRow_made w1 #[] 0 W1.out.size (by decide) rfl) A n c bs rfl (by exact HA.out.below (W1.out.alloc W1.out.size _)) n (by omega) bs rfl (by omega) (by exact (W1.out.alloc W1.out.size _).size) ?_; intro Ao co w2 R2 H2 H3; have W2 : Hid (Below w.heap.size w w2) := (W1.out.alloc W1.out.size _).grown H2.out (W1.out.alloc W1.out.size _).size (fun k e => by cases e; exact W1.out.size); clear H2 H3) | fail)
  refine (outRaw_any w2.heap.size w2.heap.size none [] bs Ao n co _ (OutAt.new w2 _) (by decide) (by omega) (by simp) (Byts.of_own (R2.out.alloc _))).mono ?_
  rintro e w3 ⟨rfl, r, ho, hf, hr⟩
  rw [List.nil_append] at ho
  have hs2 := W2.out.size
  have hf' : Far nobody w2 w3 := ((Far.refl nobody w2).alloc (.cells #[.slice none 0 0] 26)).trans hf (fun i hi e => by rcases e with e | e <;> first | omega | cases e)
  have hs3 : w2.heap.size < w3.heap.size := by have := hf.size; simp at this; omega
  have O3 := Lib.hid ho
  have R3 : Hid (w3.ownsRow w.heap.size 5 1 (.slice Ao n co) n (cel bs)) := hf'.row R2.out (fun k _ e => e)
  have W3 : Hid (Below w.heap.size w w3) := W2.out.trans (hf'.below hs2 (fun k _ e => e))
  have Q2 : Hid (0 < n → ∃ ro, Ao = some ⟨ro, 0, none⟩ ∧ ro < w2.heap.size) := fun h0 => by
    obtain ⟨ro, e, _, h2, _⟩ := Oc.of_own R2.out h0
    exact ⟨ro, e, h2⟩
  clear ho hf hr hf' R2
  go_wp2_with fail
  refine (new_in Ao n co bs _ (by omega) (Byts.of_own R3.out)).mono ?_
  rintro e w4 ⟨g, q, rfl, hi, hg, hq, hb4⟩
  have hs4 := hb4.size
  have hlt4 := hi.lt
  have I4 := Lib.hid hi
  have O4 := Lib.hid (O3.out.far (Far.of_below hb4 nobody) (fun e => e) (fun _ _ e => e))
  have R4 := Lib.hid ((Far.of_below hb4 nobody).row R3.out (fun k _ e => e))
  have W4 : Hid (Below w.heap.size w w4) := W3.out.trans (hb4.mono W3.out.size)
  have PO := Lib.hid O3.out.where_
  clear hi hb4 O3 R3
  go_wp2_with fail
  refine (outBytes_in w2.heap.size w2.heap.size r bs n _ O4.out (by have := HL.out; omega) HL.out).mono ?_
  rintro e w5 ⟨bx, rfl, hbx, hkx, hb5⟩
  have hs5 := hb5.size
  have hx5 := hkx.lt
  have X5 := Lib.hid hkx
  have I5 := Lib.hid (I4.out.far (Far.of_below hb5 nobody) (fun e => e) (fun e => e))
  have O5 := Lib.hid (O4.out.far (Far.of_below hb5 nobody) (fun e => e) (fun _ _ e => e))
  have R5 := Lib.hid ((Far.of_below hb5 nobody).row R4.out (fun k _ e => e))
  have W5 : Hid (Below w.heap.size w w5) := W4.out.trans (hb5.mono W4.out.size)
  clear hkx hb5 I4 O4 R4
  go_wp2_with fail
  refine (raw_ok g q false bs _ m _ I5.out (by omega) (by have := HL.out; omega) (by have := HL.out; omega)).mono ?_
  rintro e w6 ⟨by_, rfl, hby, hky, hi, hf⟩
  have hs6 := hf.size
  have hy6 := hky.lt
  have Y6 := Lib.hid hky
  have I6 := Lib.hid hi
  have X6 := Lib.hid (X5.out.far hf (show ¬ only g bx by unfold only; omega))
  have O6 := Lib.hid (O5.out.far hf (show ¬ only g _ by unfold only; omega) (fun k e => by have := PO.out.2 k e; unfold only; omega))
  have W6 : Hid (Below w.heap.size w w6) := below_only W5.out hf (by omega) W5.out.size
  obtain ⟨ro, hro, hro1, hro2⟩ : ∃ ro, Hid (0 < n → Ao = some ⟨ro, 0, none⟩ ∧ Oc w6 ro n) ∧ w.heap.size ≤ ro ∧ (ro < w2.heap.size ∨ ro = bx) := by
    by_cases h0 : 0 < n
    · obtain ⟨ro, e, h1, h2, h3⟩ := Oc.of_own R5.out h0
      obtain ⟨ro', e', h4⟩ := Q2.out h0
      obtain rfl : ro = ro' := by rw [e] at e'; cases e'; rfl
      exact ⟨ro, fun _ => ⟨e, h3.far hf (show ¬ only g ro by unfold only; omega)⟩, h1, .inl h4⟩
    · exact ⟨bx, fun h => absurd h h0, by omega, .inr rfl⟩
  clear hky hi hf I5 X5 O5 R5 W5
  go_wp2
  go_loopw [8, 33] (fun _ i w' => ∃ k : Nat, k ≤ n ∧ i = .int .i64 k ∧ OwnRel w6 ro bx n w') (fun _ i _ => n - (intOf i).toNat)
  case atStart => exact ⟨0, Nat.zero_le _, rfl, fun h0 => (hro.out h0).2, Oc.of_cel X6.out (by have := HL.out; omega), Far.refl _ _⟩
  case round =>
    obtain ⟨k, hk, rfl, hw⟩ := hrel
    have HW := Lib.hid hw
    clear hw
    by_cases hlt : k < n
    · obtain ⟨rfl, _⟩ := hro.out (by omega)
      obtain ⟨ro', e', h4⟩ := Q2.out (by omega)
      obtain rfl : ro = ro' := by cases e'; rfl
      have hne : ro ≠ bx := by omega
      have hne2 : bx ≠ ro := by omega
      clear e'
      obtain ⟨z1, hz1, hf1⟩ := (HW.out.1 (by omega)).at_ hlt
      obtain ⟨z2, hz2, hf2⟩ := HW.out.2.1.at_ hlt
      go_wp2
      go_roundw
      case rel =>
        refine ⟨k + 1, by omega, by go_num, fun _ => ?_, ?_, ?_⟩
        · exact ((HW.out.1 (by omega)).set_ k _).other hne _
        · exact (HW.out.2.1.other hne2 _).set_ k _
        · exact (HW.out.2.2.set_ (p := ⟨ro, k, none⟩) (fun _ => .inl rfl) _).set_ (p := ⟨bx, k, none⟩) (fun _ => .inr rfl) _
      case measure => simp [intOf]; omega
    · have hfw : Far (fun j => j = ro ∨ j = bx) w6 wr := HW.out.2.2
      have hsr := hfw.size
      have hnr : ∀ j, w2.heap.size ≤ j → j ≠ bx → ¬ (j = ro ∨ j = bx) := fun j h1 h2 => by omega
      have O7 := Lib.hid (O6.out.far hfw (hnr _ (Nat.le_refl _) (by omega)) (fun j e => hnr j (PO.out.2 j e).1 (by have := (PO.out.2 j e).2; omega)))
      have I7 := Lib.hid (I6.out.far hfw (hnr _ (by omega) (by omega)) (hnr _ (by omega) (by omega)))
      have Y7 := Lib.hid (Y6.out.far hfw (hnr _ (by omega) (by omega)))
      have W7 : Hid (Below w.heap.size w wr) := W6.out.trans (hfw.below W6.out.size (fun j h1 e => by omega))
      clear hfw HW hnr I6 O6 Y6 X6
      go_wp2
      go_loopw [9, 51] (fun _ i w' => ∃ k : Nat, k ≤ m ∧ i = .int .i64 k ∧ Oc w' by_ m ∧ Far (only by_) wr w') (fun _ i _ => m - (intOf i).toNat)
      case atStart => exact ⟨0, Nat.zero_le _, rfl, Oc.of_cel Y7.out (by have := HL.out; simp; omega), Far.refl _ _⟩
      case round =>
        obtain ⟨k2, hk2, rfl, hoc, hfy⟩ := hrel
        have HC := Lib.hid hoc
        have HF := Lib.hid hfy
        clear hoc hfy
        by_cases hlt2 : k2 < m
        · obtain ⟨z1, hz1, hf1⟩ := HC.out.at_ hlt2
          go_wp2
          go_roundw
          case rel => exact ⟨k2 + 1, by omega, by go_num, HC.out.set_ k2 _, HF.out.set_ (p := ⟨by_, k2, none⟩) (fun _ => rfl) _⟩
          case measure => simp [intOf]; omega
        · have O8 := Lib.hid (O7.out.far HF.out (show ¬ only by_ _ by unfold only; omega) (fun j e => by have := PO.out.2 j e; unfold only; omega)).drew
          have I8 := Lib.hid (I7.out.far HF.out (show ¬ only by_ _ by unfold only; omega) (show ¬ only by_ _ by unfold only; omega)).drew
          have W8 : Hid (Below w.heap.size w wr.drew) := (below_only W7.out HF.out (by omega) W7.out.size).drew
          have hs8 := HF.out.size
          obtain ⟨l, hl⟩ : ∃ l, bs.drop m = l := ⟨_, rfl⟩
          have HLD : Hid (l.length = n - m) := by have := HL.out; rw [← hl]; show _ = _; simp; omega
          have HLB : Hid (l.length ≤ 1000000) := by have := HLD.out; show _ ≤ _; omega
          have HBB : Hid (bs.length ≤ 1000000) := by have := HL.out; show _ ≤ _; omega
          have HZ2 : Hid (Byts w Z (n - m) l) := hl ▸ HZ.out
          have I8' : Hid (InAt wr.drew g q false l) := hl ▸ I8.out
          have hgw : w.heap.size ≤ g := by omega
          have hsl := HS.out
          clear hl HF HC O7 I7 Y7 W7 HS I8
          go_wp2
          refine wp_region_held_drew (S := fun W => (convert 23 9 (.slice A n c)).run Try.prog W = .ok (.string (strOfNums bs)) W ∧ (convert 23 9 (.slice Z (n - m) (c - m))).run Try.prog W = .ok (.string (strOfNums l)) W) (by kernel_rfl) ?_ (fun hHeld => ?_)
          · exact ⟨text_is c (HA.out.below W8.out), text_is (c - m) (HZ2.out.below W8.out)⟩
          refine wpAnyH_take (i := 2) (oi := ⟨some 63, _, _, _, _, _⟩) (v := ?_) rfl (by kernel_rfl) (by kernel_rfl) (by kernel_rfl) (fun _ _ _ h => h) (Or.inl ⟨by rfl, ?_⟩) (by assumption) ?_
          rotate_left
          · (intro w hSw; (try dsimp only at hSw); go_simp)
            first | done | (with_reducible rfl)
          try simp only [Act.put, List.setIfInBounds_toArray, List.set_cons_zero, List.set_cons_succ]
          refine wpAnyH_take (i := 3) (oi := ⟨some 64, _, _, _, _, _⟩) (v := ?_) rfl (by kernel_rfl) (by kernel_rfl) (by kernel_rfl) (fun _ _ _ h => h) (Or.inl ⟨by rfl, ?_⟩) (by assumption) ?_
          rotate_left
          · (intro w hSw; (try dsimp only at hSw); go_simp)
            first | done | (with_reducible rfl)
          try simp only [Act.put, List.setIfInBounds_toArray, List.set_cons_zero, List.set_cons_succ]
          refine wpAnyH_ready (rs := [0]) (by kernel_rfl) (by simp) ?_
          refine AllReadyH.cons (o := ⟨some 61, _, _, _, _, _⟩) rfl (fun K hK => ?_) AllReadyH.nil
          go_simp
          refine (outBytes_in w2.heap.size w2.heap.size r bs n _ O8.out HBB.out HL.out).mono ?_
          rintro e w9 ⟨bz, rfl, hbz, hkz, hb9⟩
          have t2 := text_blk n hkz HL.out
          have W9 : Hid (Below w.heap.size w w9) := W8.out.trans (hb9.mono W8.out.size)
          have I9 := Lib.hid (I8'.out.far (Far.of_below hb9 nobody) (fun e => e) (fun e => e))
          clear hbz hkz hb9
          refine hK.out _ _ ?_ (fun hHeld => ?_)
          · exact ⟨text_is c (HA.out.below W9.out), text_is (c - m) (HZ2.out.below W9.out)⟩
          clear hK K
          try simp only [Act.put, List.setIfInBounds_toArray, List.set_cons_zero, List.set_cons_succ]
          refine wpAnyH_ready (rs := [1]) (by kernel_rfl) (by simp) ?_
          refine AllReadyH.cons (o := ⟨some 62, _, _, _, _, _⟩) rfl (fun K hK => ?_) AllReadyH.nil
          go_simp
          refine hK.out _ _ ?_ (fun hHeld => ?_)
          · exact ⟨text_is c (HA.out.below W9.out), text_is (c - m) (HZ2.out.below W9.out)⟩
          clear hK K
          try simp only [Act.put, List.setIfInBounds_toArray, List.set_cons_zero, List.set_cons_succ]
          refine wpAnyH_take (i := 4) (oi := ⟨some 65, _, _, _, _, _⟩) (v := ?_) rfl (by kernel_rfl) (by kernel_rfl) (by kernel_rfl) (fun _ _ _ h => h) (Or.inl ⟨by rfl, ?_⟩) (by assumption) ?_
          rotate_left
          · (intro w hSw; (try dsimp only at hSw); go_simp)
            first | done | (with_reducible rfl)
          try simp only [Act.put, List.setIfInBounds_toArray, List.set_cons_zero, List.set_cons_succ]
          refine wpAnyH_take (i := 5) (oi := ⟨some 66, _, _, _, _, _⟩) (v := ?_) rfl (by kernel_rfl) (by kernel_rfl) (by kernel_rfl) (fun _ _ _ h => h) (Or.inl ⟨by rfl, ?_⟩) (by assumption) ?_
          rotate_left
          · (intro w hSw; (try dsimp only at hSw); go_simp)
            first | done | (with_reducible rfl)
          try simp only [Act.put, List.setIfInBounds_toArray, List.set_cons_zero, List.set_cons_succ]
          refine wpAnyH_take (i := 6) (oi := ⟨some 67, _, _, _, _, _⟩) (v := ?_) rfl (by kernel_rfl) (by kernel_rfl) (by kernel_rfl) (fun _ _ _ h => h) (Or.inl ⟨by rfl, ?_⟩) (by assumption) ?_
          rotate_left
          · (intro w hSw; (try dsimp only at hSw); go_simp)
            first | done | (with_reducible rfl)
          try simp only [Act.put, List.setIfInBounds_toArray, List.set_cons_zero, List.set_cons_succ]
          refine wpAnyH_take (i := 7) (oi := ⟨some 68, _, _, _, _, _⟩) (v := ?_) rfl (by kernel_rfl) (by kernel_rfl) (by kernel_rfl) (fun _ _ _ h => h) (Or.inl ⟨by rfl, ?_⟩) (by assumption) ?_
          rotate_left
          · (intro w hSw; (try dsimp only at hSw); go_simp)
            first | done | (with_reducible rfl)
          try simp only [Act.put, List.setIfInBounds_toArray, List.set_cons_zero, List.set_cons_succ]
          refine wpAnyH_take (i := 11) (oi := ⟨some 72, _, _, _, _, _⟩) (v := ?_) rfl (by kernel_rfl) (by kernel_rfl) (by kernel_rfl) (fun _ _ _ h => h) (Or.inl ⟨by rfl, ?_⟩) (by assumption) ?_
          rotate_left
          · (intro w hSw; (try dsimp only at hSw); go_simp)
            first | done | (with_reducible rfl)
          try simp only [Act.put, List.setIfInBounds_toArray, List.set_cons_zero, List.set_cons_succ]
          refine wpAnyH_take (i := 12) (oi := ⟨some 73, _, _, _, _, _⟩) (v := ?_) rfl (by kernel_rfl) (by kernel_rfl) (by kernel_rfl) (fun _ _ _ h => h) (Or.inl ⟨by rfl, ?_⟩) (by assumption) ?_
          rotate_left
          · (intro w hSw; (try dsimp only at hSw); go_simp)
            first | done | (with_reducible rfl)
          try simp only [Act.put, List.setIfInBounds_toArray, List.set_cons_zero, List.set_cons_succ]
          refine wpAnyH_take (i := 13) (oi := ⟨some 74, _, _, _, _, _⟩) (v := ?_) rfl (by kernel_rfl) (by kernel_rfl) (by kernel_rfl) (fun _ _ _ h => h) (Or.inl ⟨by rfl, ?_⟩) (by assumption) ?_
          rotate_left
          · (intro w hSw; (try dsimp only at hSw); go_simp)
            first | done | (with_reducible rfl)
          try simp only [Act.put, List.setIfInBounds_toArray, List.set_cons_zero, List.set_cons_succ]
          refine wpAnyH_take (i := 14) (oi := ⟨some 75, _, _, _, _, _⟩) (v := .int .i64 (m : Int)) rfl (by kernel_rfl) (by kernel_rfl) (by kernel_rfl) (fun _ _ _ h => h) (Or.inl ⟨by rfl, ?_⟩) (by assumption) ?_
          · (intro w hSw; (try dsimp only at hSw); go_simp)
            rw [IntWalk.i64_in _ (by omega)]
            omega
          try simp only [Act.put, List.setIfInBounds_toArray, List.set_cons_zero, List.set_cons_succ]
          refine wpAnyH_take (i := 15) (oi := ⟨some 76, _, _, _, _, _⟩) (v := ?_) rfl (by kernel_rfl) (by kernel_rfl) (by kernel_rfl) (fun _ _ _ h => h) (Or.inl ⟨by rfl, ?_⟩) (by assumption) ?_
          rotate_left
          · (intro w hSw; (try dsimp only at hSw); go_simp)
            first | done | (with_reducible rfl)
          try simp only [Act.put, List.setIfInBounds_toArray, List.set_cons_zero, List.set_cons_succ]
          refine wpAnyH_take (i := 16) (oi := ⟨some 77, _, _, _, _, _⟩) (v := ?_) rfl (by kernel_rfl) (by kernel_rfl) (by kernel_rfl) (fun _ _ _ h => h) (Or.inl ⟨by rfl, ?_⟩) (by assumption) ?_
          rotate_left
          · (intro w hSw; (try dsimp only at hSw); go_simp)
            first | done | (with_reducible rfl)
          try simp only [Act.put, List.setIfInBounds_toArray, List.set_cons_zero, List.set_cons_succ]
          refine wpAnyH_ready (rs := [8]) (by kernel_rfl) (by simp) ?_
          refine AllReadyH.cons (o := ⟨some 69, _, _, _, _, _⟩) rfl (fun K hK => ?_) AllReadyH.nil
          go_simp
          refine (left_any g q false l _ I9.out).mono ?_
          rintro e w' ⟨rfl, rfl⟩
          refine hK.out _ _ ?_ (fun hHeld => ?_)
          · exact ⟨text_is c (HA.out.below W9.out), text_is (c - m) (HZ2.out.below W9.out)⟩
          clear hK K
          try simp only [Act.put, List.setIfInBounds_toArray, List.set_cons_zero, List.set_cons_succ]
          refine wpAnyH_ready (rs := [9]) (by kernel_rfl) (by simp) ?_
          refine AllReadyH.cons (o := ⟨some 70, _, _, _, _, _⟩) rfl (fun K hK => ?_) AllReadyH.nil
          go_simp
          refine (raw_ok g q false l _ l.length _ I9.out rfl (Nat.le_refl _) HLB.out).mono ?_
          rintro e w10 ⟨bv, rfl, hbv, hkv, hi, hf⟩
          rw [List.take_length] at hkv
          have t5 := text_blk l.length hkv rfl
          have W10 : Hid (Below w.heap.size w w10) := below_only W9.out hf hgw W9.out.size
          clear hbv hkv hi hf
          refine hK.out _ _ ?_ (fun hHeld => ?_)
          · exact ⟨text_is c (HA.out.below W10.out), text_is (c - m) (HZ2.out.below W10.out)⟩
          clear hK K
          try simp only [Act.put, List.setIfInBounds_toArray, List.set_cons_zero, List.set_cons_succ]
          refine wpAnyH_ready (rs := [10]) (by kernel_rfl) (by simp) ?_
          refine AllReadyH.cons (o := ⟨some 71, _, _, _, _, _⟩) rfl (fun K hK => ?_) AllReadyH.nil
          go_simp
          refine hK.out _ _ ?_ (fun hHeld => ?_)
          · exact ⟨text_is c (HA.out.below W10.out), text_is (c - m) (HZ2.out.below W10.out)⟩
          clear hK K
          try simp only [Act.put, List.setIfInBounds_toArray, List.set_cons_zero, List.set_cons_succ]
          refine wpAnyH_take (i := 17) (oi := ⟨some 78, _, _, _, _, _⟩) (v := ?_) rfl (by kernel_rfl) (by kernel_rfl) (by kernel_rfl) (fun _ _ _ h => h) (Or.inl ⟨by rfl, ?_⟩) (by assumption) ?_
          rotate_left
          · (intro w hSw; (try dsimp only at hSw); go_simp)
            first | done | (with_reducible rfl)
          try simp only [Act.put, List.setIfInBounds_toArray, List.set_cons_zero, List.set_cons_succ]
          refine wpAnyH_take (i := 18) (oi := ⟨some 79, _, _, _, _, _⟩) (v := ?_) rfl (by kernel_rfl) (by kernel_rfl) (by kernel_rfl) (fun _ _ _ h => h) (Or.inl ⟨by rfl, ?_⟩) (by assumption) ?_
          rotate_left
          · (intro w hSw; (try dsimp only at hSw); go_simp)
            first | done | (with_reducible rfl)
          try simp only [Act.put, List.setIfInBounds_toArray, List.set_cons_zero, List.set_cons_succ]
          refine wpAnyH_take (i := 19) (oi := ⟨some 2, _, _, _, _, _⟩) (v := ?_) rfl (by kernel_rfl) (by kernel_rfl) (by kernel_rfl) (fun _ _ _ h => h) (Or.inl ⟨by rfl, ?_⟩) (by assumption) ?_
          rotate_left
          · (intro w hSw; (try dsimp only at hSw); go_simp)
            first | done | (with_reducible rfl)
          try simp only [Act.put, List.setIfInBounds_toArray, List.set_cons_zero, List.set_cons_succ]
          refine wpAnyH_done (by kernel_rfl) ?_ _
          go_wp2
          go_ret
          exact ⟨rfl, W10.out⟩
end Go.Proofs.Ytgbnpfaplaolcaa
