/- The contract of inet6's carried: head by head. Conditions: those of each theorem. -/
import Derived.Test.YtebpemknmcgamaaSixTold
namespace Go.Proofs.Ytebpemknmcgamaa.six
open Go.RowKit

/-- A body: none, or a row of its own. -/
def Bod (w : World) (A : Option Addr) (ls : List Int) : Prop := (A = none ∧ ls = []) ∨ ∃ g, A = some ⟨g, 0, none⟩ ∧ Blk w g 5 (cel ls)
section
variable {w w' : World} {A : Option Addr} {ls : List Int}
theorem Bod.none_ : Bod w none [] := .inl ⟨rfl, rfl⟩
theorem Bod.byts (h : Bod w A ls) : Byts w A ls.length ls := by
  rcases h with ⟨rfl, rfl⟩ | ⟨g, rfl, hb⟩
  · exact Byts.none_
  · exact Byts.of_all hb rfl
theorem Bod.below (h : Bod w A ls) (hb : Below w.heap.size w w') : Bod w' A ls := by
  rcases h with ⟨rfl, rfl⟩ | ⟨g, rfl, hk⟩
  · exact .inl ⟨rfl, rfl⟩
  · exact .inr ⟨g, rfl, hk.far (Far.of_below hb nobody) (fun e => e)⟩
theorem Bod.only {G : Nat} {t : TypeId} {cs : List Value} (h : Bod w A ls) (hG : Blk w G t cs) (ht : (5 : TypeId) ≠ t) (hf : Far (only G) w w') : Bod w' A ls := by
  rcases h with ⟨rfl, rfl⟩ | ⟨g, rfl, hk⟩
  · exact .inl ⟨rfl, rfl⟩
  · exact .inr ⟨g, rfl, hk.far hf (fun e => hk.apart hG ht e)⟩
end
/-- Where the heads stand. -/
def CarAt (w : World) (g : Nat) (R : Ans) (w' : World) (q : Int) (B : Option Addr) (m d : Nat) (ks : List Int) (f : Bool) (h : Nat) : Prop :=
  Blk w' g 72 (net 0 zz zz (.slice none 0 0) false) ∧ Below w.heap.size w w' ∧ Byts w' B m ks ∧ Octs ks ∧ goes (8 - h) f q ks = R ∧ h ≤ 8 ∧ m ≤ 1000000 ∧ m ≤ d ∧ 0 ≤ q ∧ q ≤ 255
/-- What it leaves. -/
def CarOut (w : World) (R : Ans) (e : Ending) (w' : World) : Prop :=
  ∃ A c, e = .returned (.tuple #[.agg (net R.2.1 zz zz (.slice A R.2.2.1.length c) R.2.2.2).toArray, .int .i64 ((R.1 : Nat) : Int)]) ∧ Below w.heap.size w w' ∧ Bod w' A R.2.2.1 ∧ R.2.2.1.length ≤ c

set_option maxRecDepth 100000 in
set_option maxHeartbeats 4000000 in
theorem carried_any (p : Int) (A : Option Addr) (n c : Nat) (ls : List Int) (R : Ans) (w : World) (h : Byts w A n ls) (ho : Octs ls) (hn : n ≤ 1000000) (hc : n ≤ c) (h0 : 0 ≤ p) (h1 : p ≤ 255) (hR : goes 8 true p ls = R) :
    Calls Try.prog 46 #[.int .u8 p, .slice A n c] w (CarOut w R) := by
  have W0 : Hid (Below w.heap.size w (w.alloc (.cells #[.int .u8 0, .int .u8 0, .int .u8 0, .int .u8 0, .int .u8 0, .int .u8 0, .int .u8 0, .int .u8 0, .int .u8 0, .int .u8 0, .int .u8 0, .int .u8 0, .int .u8 0, .int .u8 0, .int .u8 0, .int .u8 0, .int .u8 0, .int .u8 0, .int .u8 0, .int .u8 0, .int .u8 0, .int .u8 0, .int .u8 0, .int .u8 0, .int .u8 0, .int .u8 0, .int .u8 0, .int .u8 0, .int .u8 0, .int .u8 0, .int .u8 0, .int .u8 0, .int .u8 0, .slice none 0 0, .bool false] 72))) := (Below.refl _ w).alloc (Nat.le_refl _) _
  have C0 : Hid (CarAt w w.heap.size R (w.alloc (.cells #[.int .u8 0, .int .u8 0, .int .u8 0, .int .u8 0, .int .u8 0, .int .u8 0, .int .u8 0, .int .u8 0, .int .u8 0, .int .u8 0, .int .u8 0, .int .u8 0, .int .u8 0, .int .u8 0, .int .u8 0, .int .u8 0, .int .u8 0, .int .u8 0, .int .u8 0, .int .u8 0, .int .u8 0, .int .u8 0, .int .u8 0, .int .u8 0, .int .u8 0, .int .u8 0, .int .u8 0, .int .u8 0, .int .u8 0, .int .u8 0, .int .u8 0, .int .u8 0, .int .u8 0, .slice none 0 0, .bool false] 72)) p A n c ls true 0) := ⟨Blk.new w 72 (net 0 zz zz (.slice none 0 0) false), W0.out, h.below W0.out, ho, hR, by omega, hn, hc, h0, h1⟩
  clear h ho hR
  go_enter Try.func46, Try.ntmps46
  go_upto_region 1 with (fail)
  generalize w.alloc (.cells #[.int .u8 0, .int .u8 0, .int .u8 0, .int .u8 0, .int .u8 0, .int .u8 0, .int .u8 0, .int .u8 0, .int .u8 0, .int .u8 0, .int .u8 0, .int .u8 0, .int .u8 0, .int .u8 0, .int .u8 0, .int .u8 0, .int .u8 0, .int .u8 0, .int .u8 0, .int .u8 0, .int .u8 0, .int .u8 0, .int .u8 0, .int .u8 0, .int .u8 0, .int .u8 0, .int .u8 0, .int .u8 0, .int .u8 0, .int .u8 0, .int .u8 0, .int .u8 0, .int .u8 0, .slice none 0 0, .bool false] 72) = w0 at *
  go_wp2_with fail
  go_loopw [0, 1, 6, 7, 8] (fun x y z u _ w' => ∃ (q : Int) (B : Option Addr) (m d : Nat) (ks : List Int) (f : Bool) (k : Nat), x = .int .u8 q ∧ y = .slice B m d ∧ z = .bool f ∧ u = .int .i64 (k : Nat) ∧ CarAt w w.heap.size R w' q B m d ks f k) (fun _ _ _ u _ _ => 8 - (intOf u).toNat)
  case atStart => exact ⟨p, A, n, c, ls, true, 0, rfl, rfl, rfl, rfl, C0.out⟩
  case round =>
    clear C0 W0
    obtain ⟨q, B, m, d, ks, f, k, rfl, rfl, rfl, rfl, hbk, hbl, hby, hoc, hgo, hk8, hm, hmd, hq0, hq1⟩ := hrel
    have BK := Lib.hid hbk
    have BL := Lib.hid hbl
    have BY := Lib.hid hby
    have HO := Lib.hid hoc
    have GO := Lib.hid hgo
    have hkl := hby.1
    clear hbk hbl hby hoc hgo
    have HTL : Hid (Calls Try.prog 53 #[.int .u8 q] wr fun e w' => e = .returned (.bool (tells q)) ∧ wr = w') := tells_any q wr hq0 hq1
    cases f with
    | false =>
      rw [goes_false] at GO
      go_wp2_with (first | (go_at_call 56; (with_reducible refine (copied_b B m d ks _ (by omega) BY.out).mono ?_); rintro e z3 ⟨g, rfl, hb, hg, hbg⟩; have BL3 : Hid (Below w.heap.size w z3) := BL.out.trans (hb.mono BL.out.size); have BK3 := Lib.hid (BK.out.far (Far.of_below hb nobody) (fun e => e)); have BB3 := Lib.hid hbg; clear hb hg hbg) | (refine wpList_put rfl 72 size26 (.tmp 4) (.tmp 44) rfl w.heap.size (net q zz zz (.slice (some ⟨g, 0, none⟩) m m) false) rfl rfl 72 (net 0 zz zz (.slice none 0 0) false) BK3.out (net_length zz_sixteen zz_sixteen) (net_length zz_sixteen zz_sixteen) (net_one rfl) ?_; intro wf BF FF))
      refine bodyPost_ret (v := .tuple #[.agg (net q zz zz (.slice (some ⟨g, 0, none⟩) m m) false).toArray, .int .i64 0]) (by simp [results, Try.results46, asAddr, load26 BF.out (net_length zz_sixteen zz_sixteen)]) rfl ?_
      rw [← GO.out, ← hkl]
      exact ⟨some ⟨g, 0, none⟩, ks.length, rfl, below_only BL3.out FF.out (Nat.le_refl _) BL3.out.size, .inr ⟨g, rfl, BB3.out.far FF.out (fun e => BB3.out.apart BK3.out (by decide) e)⟩, Nat.le_refl _⟩
    | true =>
      by_cases ht : tells q = true
      · rw [ht] at HTL
        by_cases hk : k = 8
        · subst hk
          rw [show 8 - 8 = 0 from rfl, goes_many ht] at GO
          go_wp2_with (first | (go_at_call 53; (with_reducible refine HTL.out.mono ?_); rintro e z1 ⟨rfl, rfl⟩) | (refine wpList_put rfl 72 size26 (.tmp 4) (.tmp 18) rfl w.heap.size (net 0 zz zz (.slice none 0 0) false) rfl rfl 72 (net 0 zz zz (.slice none 0 0) false) BK.out (net_length zz_sixteen zz_sixteen) (net_length zz_sixteen zz_sixteen) (net_one rfl) ?_; intro wf BF FF))
          refine bodyPost_ret (v := .tuple #[.agg (net 0 zz zz (.slice none 0 0) false).toArray, .int .i64 6]) (by simp [results, Try.results46, asAddr, load26 BF.out (net_length zz_sixteen zz_sixteen)]) rfl ?_
          rw [← GO.out]
          exact ⟨none, 0, rfl, below_only BL.out FF.out (Nat.le_refl _) BL.out.size, Bod.none_, Nat.le_refl _⟩
        · obtain ⟨j, hj⟩ : ∃ j, 8 - k = j + 1 := ⟨7 - k, by omega⟩
          rw [hj] at GO
          have hj7 : j = 8 - (k + 1) := by omega
          have hk8' : ((k : Int) == 8) = false := by simp; omega
          have HMO : Hid (Calls Try.prog 54 #[.int .u8 q, .slice B m d] wr fun e w' => e = .returned (.int .i64 ((size_ q ks : Nat) : Int)) ∧ wr = w') := more_any q B m d ks wr BY.out HO.out (by omega) hq0 hq1
          have hs8 := size_8 q ks
          have hsb := size_bd HO.out q
          clear hj
          by_cases hl : ks.length < size_ q ks
          · rw [goes_short ht hl] at GO
            rw [hkl] at hl
            generalize size_ q ks = s at *
            go_wp2_with (first | (go_at_call 53; (with_reducible refine HTL.out.mono ?_); rintro e z1 ⟨rfl, rfl⟩) | (go_at_call 54; (with_reducible refine HMO.out.mono ?_); rintro e z2 ⟨rfl, rfl⟩) | (refine wpList_put rfl 72 size26 (.tmp 4) (.tmp 26) rfl w.heap.size (net 0 zz zz (.slice none 0 0) false) rfl rfl 72 (net 0 zz zz (.slice none 0 0) false) BK.out (net_length zz_sixteen zz_sixteen) (net_length zz_sixteen zz_sixteen) (net_one rfl) ?_; intro wf BF FF))
            refine bodyPost_ret (v := .tuple #[.agg (net 0 zz zz (.slice none 0 0) false).toArray, .int .i64 1]) (by simp [results, Try.results46, asAddr, load26 BF.out (net_length zz_sixteen zz_sixteen)]) rfl ?_
            rw [← GO.out]
            exact ⟨none, 0, rfl, below_only BL.out FF.out (Nat.le_refl _) BL.out.size, Bod.none_, Nat.le_refl _⟩
          · rw [goes_on ht (by omega), hj7] at GO
            rw [hkl] at hl
            obtain ⟨ad, rfl, hcell⟩ := BY.out.2 (by omega)
            have hc0 : wr.cell? ad = some (.int .u8 (ks.getD 0 0)) := by simpa [Addr.add] using hcell 0 (by omega)
            have hm0 : 0 < m := by omega
            have b0 := HO.out.at_ 0
            obtain ⟨Z, hcut, hz⟩ := from_z (A := some ad) (n := m) (c := d) (p := size_ q ks) (bs := ks) (by omega) hmd
            have HZ := Lib.hid hz
            clear hcell hz
            by_cases h44 : q = 44
            · have HPL := Lib.hid (place_b (some ad) m d ks wr BY.out HO.out (by omega) (by omega) hmd)
              have hfe : (((wd ks 2 / 8 : Nat) : Int) == 0) = early q ks := by unfold early; rw [h44, Bool.eq_iff_iff]; simp; omega
              have h44' : (q != 44) = false := by simp [h44]
              obtain ⟨f2, hf2⟩ : ∃ f2, early q ks = f2 := ⟨_, rfl⟩
              rw [hf2] at GO hfe
              generalize wd ks 2 / 8 = t at *
              generalize size_ q ks = s at *
              clear hf2 ht h44
              go_upto_region 11 with (first | (go_at_call 53; (with_reducible refine HTL.out.mono ?_); rintro e z1 ⟨rfl, rfl⟩) | (go_at_call 54; (with_reducible refine HMO.out.mono ?_); rintro e z2 ⟨rfl, rfl⟩) | (go_at_call 55; (with_reducible refine HPL.out.mono ?_); rintro e z4 ⟨rfl, hb⟩; have BL4 : Hid (Below w.heap.size w z4) := BL.out.trans (hb.mono BL.out.size); have BK4 := Lib.hid (BK.out.far (Far.of_below hb nobody) (fun e => e)); have BY4 := Lib.hid (BY.out.below hb); have hc4 := keep9 hb hc0; clear hb))
              clear hc0
              generalize hu : ks.getD 0 0 = u at *
              have HU := Lib.hid hu
              clear hu hfe
              go_region
              go_wp2_with fail
              go_roundw
              case rel => exact ⟨u, Z, m - s, d - s, ks.drop s, f2, k + 1, rfl, rfl, rfl, by go_num, BK4.out, BL4.out.drew, HZ.out _ (BY4.out.below (Below.refl _ _).drew), HO.out.drop s, GO.out, by omega, by omega, by omega, b0.1, b0.2⟩
              case measure => simp [intOf]; omega
            · have hfe : early q ks = true := by unfold early; simp [h44]
              rw [hfe] at GO
              have h44' : (q != 44) = true := by simp [h44]
              generalize size_ q ks = s at *
              generalize hu : ks.getD 0 0 = u at *
              have HU := Lib.hid hu
              clear hu hfe ht
              go_upto_region 11 with (first | (go_at_call 53; (with_reducible refine HTL.out.mono ?_); rintro e z1 ⟨rfl, rfl⟩) | (go_at_call 54; (with_reducible refine HMO.out.mono ?_); rintro e z2 ⟨rfl, rfl⟩))
              go_region
              go_wp2_with fail
              go_roundw
              case rel => exact ⟨u, Z, m - s, d - s, ks.drop s, true, k + 1, rfl, rfl, rfl, by go_num, BK.out, BL.out.drew, HZ.out _ (BY.out.below (Below.refl _ _).drew), HO.out.drop s, GO.out, by omega, by omega, by omega, b0.1, b0.2⟩
              case measure => simp [intOf]; omega
      · have ht' : tells q = false := by simpa using ht
        rw [ht'] at HTL
        rw [goes_plain ht'] at GO
        clear ht
        go_wp2_with (first | (go_at_call 53; (with_reducible refine HTL.out.mono ?_); rintro e z1 ⟨rfl, rfl⟩) | (go_at_call 56; (with_reducible refine (copied_b B m d ks _ (by omega) BY.out).mono ?_); rintro e z3 ⟨g, rfl, hb, hg, hbg⟩; have BL3 : Hid (Below w.heap.size w z3) := BL.out.trans (hb.mono BL.out.size); have BK3 := Lib.hid (BK.out.far (Far.of_below hb nobody) (fun e => e)); have BB3 := Lib.hid hbg; clear hb hg hbg) | (refine wpList_put rfl 72 size26 (.tmp 4) (.tmp 44) rfl w.heap.size (net q zz zz (.slice (some ⟨g, 0, none⟩) m m) true) rfl rfl 72 (net 0 zz zz (.slice none 0 0) false) BK3.out (net_length zz_sixteen zz_sixteen) (net_length zz_sixteen zz_sixteen) (net_one rfl) ?_; intro wf BF FF))
        refine bodyPost_ret (v := .tuple #[.agg (net q zz zz (.slice (some ⟨g, 0, none⟩) m m) true).toArray, .int .i64 0]) (by simp [results, Try.results46, asAddr, load26 BF.out (net_length zz_sixteen zz_sixteen)]) rfl ?_
        rw [← GO.out, ← hkl]
        exact ⟨some ⟨g, 0, none⟩, ks.length, rfl, below_only BL3.out FF.out (Nat.le_refl _) BL3.out.size, .inr ⟨g, rfl, BB3.out.far FF.out (fun e => BB3.out.apart BK3.out (by decide) e)⟩, Nat.le_refl _⟩
end Go.Proofs.Ytebpemknmcgamaa.six
