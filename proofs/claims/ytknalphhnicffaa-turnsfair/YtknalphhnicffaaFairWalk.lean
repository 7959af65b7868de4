/- The walk of the law TurnsFair over the program's contracts. -/
import Derived.Test.YtknalphhnicffaaFairMem
namespace Go.Proofs.Ytknalphhnicffaa
open Go.RowKit

/-- Where the loop over the classes that wake stands. -/
def FirstRel (At : (Nat → Prop) → World → Nat → Nat → Nat → List Cls → Prop) (w : World) (g Q c : Nat) (w' : World) : Prop := At (from_ w.heap.size) w' g 8 Q (firsts c) ∧ Below w.heap.size w w'
/-- Where the loop over the turns stands. -/
def FairRel (At : (Nat → Prop) → World → Nat → Nat → Nat → List Cls → Prop) (w : World) (base g nb gb Q k : Nat) (w' : World) : Prop :=
  ∃ (L : List Cls) (s s0 gv nx : Nat → Nat) (v : Value) (m : Nat) (zs : List Int), FM At w base g nb gb Q L gv nx v m zs w' ∧ FS Q L s s0 gv nx k
section
variable {At : (Nat → Prop) → World → Nat → Nat → Nat → List Cls → Prop}
theorem fair_begin (P : Prog At) {w w2 : World} {g Q : Nat} (h : At (from_ w.heap.size) w2 g 8 Q (firsts 8)) (hb : Below w.heap.size w w2) :
    FairRel At w (w2.heap.size + 1 + 1) g w2.heap.size (w2.heap.size + 1) Q 0 ((w2.alloc (.cells (arr fun _ => 0).toArray 51)).alloc (.cells (arr fun _ => 0).toArray 52)) ∧ FAt w.heap.size w2.heap.size (w2.heap.size + 1) (w2.heap.size + 1 + 1) := by
  have hs := hb.size
  refine ⟨⟨firsts 8, _, _, _, _, .slice none 0 0, 0, [], ⟨Ro.new P ?_ (fun k hk => ?_) ?_, (Blk.new w2 51 (arr fun _ => 0)).alloc _, ?_, ?_⟩, FS.first Q⟩, ⟨hs, by omega, by omega⟩⟩
  · have h1 := P.weak (b' := fm w.heap.size w2.heap.size (w2.heap.size + 1)) h (fun k hk hf => ⟨hf, by omega, by omega⟩)
    exact P.below (P.below h1 (below_one _ _)) (below_one _ _)
  · simp at hk
    exact ⟨by omega, by omega, by omega⟩
  · simp
  · have := Blk.new (w2.alloc (.cells (arr fun _ => 0).toArray 51)) 52 (arr fun _ => 0)
    simpa using this
  · exact (hb.alloc hs _).alloc (by simp; omega) _

set_option maxRecDepth 100000 in
set_option maxHeartbeats 8000000 in
theorem fair_near (P : Prog At) (x : Int) (A : Option Addr) (n cc : Nat) (y z : Int) (X : Nat → Nat → Int) (w : World) (hn : n ≤ 200) (hx0 : 0 ≤ x) (hx1 : x ≤ 65535) (hy0 : 0 ≤ y) (hy1 : y ≤ 255) (hz0 : 0 ≤ z) (hz1 : z ≤ 255) (ha : RowsIn w A n X) :
    Calls Try.prog 4 #[.int .u16 x, .slice A n cc, .int .u8 y, .int .u8 z] w fun e w' => e = .returned (.bool true) ∧ Below w.heap.size w w' := by
  have HP := Lib.hid P
  have HA := Lib.hid ha
  clear P ha
  obtain ⟨Q, hQ⟩ : ∃ Q : Nat, 9216 + x = Q := ⟨(9216 + x).toNat, by omega⟩
  obtain ⟨fr, rfl⟩ : ∃ m : Nat, y = m := ⟨y.toNat, by omega⟩
  obtain ⟨tl, rfl⟩ : ∃ m : Nat, z = m := ⟨z.toNat, by omega⟩
  have hQ1 : 9216 ≤ Q := by omega
  have hQ2 : Q ≤ 74751 := by omega
  have hd : decide ((200 : Int) < (n : Int)) = false := by simp; omega
  have hd' : decide (200 < n) = false := by simp; omega
  go_enter Try.func4, Try.ntmps4
  go_wp2_with (first | (go_at_call 8; (with_reducible refine (awake_any HP.out _).mono ?_); rintro e w1 ⟨rfl, hb1⟩; have W1 := Lib.hid hb1; clear hb1) | (go_at_call 10; (with_reducible refine (HP.out.new 8 Q _ _ _ (by omega) (by omega) (by omega) (by omega) (by omega) (by omega)).mono ?_); rintro e w2 ⟨g, rfl, hr, hb⟩; have W2 : Hid (Below w.heap.size w w2) := W1.out.trans (hb.mono W1.out.size); have R2 : Hid (FirstRel At w g Q 0 w2) := ⟨HP.out.weak hr (fun k hk h => Nat.le_trans W1.out.size h), W2.out⟩; clear hr hb))
  clear W1 W2
  go_loopw [12, 38] (fun _ i w' => ∃ c : Nat, c ≤ 8 ∧ i = .int .i64 c ∧ FirstRel At w g Q c w') (fun _ i _ => 8 - (intOf i).toNat)
  case atStart => exact ⟨0, by omega, rfl, R2.out⟩
  case round =>
    clear R2
    obtain ⟨c, hc, rfl, hr⟩ := hrel
    have R3 := Lib.hid hr.1
    have W3 := Lib.hid hr.2
    clear hr
    by_cases hlt : c < 8
    · have hd5 : decide ((c : Int) < 8) = true := by simp; omega
      have HWK := Lib.hid (firsts_wake hlt)
      go_wp2_with (go_at_call 11; (with_reducible refine (HP.out.wake _ g 8 Q _ _ _ R3.out (from_le W3.out)).mono ?_); rintro e w4 ⟨rfl, hr, hf⟩; rw [HWK.out] at hr; have R4 : Hid (FirstRel At w g Q (c + 1) w4) := ⟨hr, below_far W3.out hf from_id W3.out.size⟩; clear hr hf)
      go_roundw
      case rel => exact ⟨c + 1, by omega, by go_num, R4.out⟩
      case measure => simp [intOf]; omega
    · have hd5 : decide ((c : Int) < 8) = false := by simp; omega
      have hc8 : c = 8 := by omega
      have HB : Hid _ := fair_begin HP.out (by rw [hc8] at R3; exact R3.out) W3.out
      clear R3 W3 hc8
      go_upto_region 12 with fail
      have hz8 : (arr fun _ => 0).toArray = #[Value.int IntKind.i64 0, Value.int IntKind.i64 0, Value.int IntKind.i64 0, Value.int IntKind.i64 0, Value.int IntKind.i64 0, Value.int IntKind.i64 0, Value.int IntKind.i64 0, Value.int IntKind.i64 0] := rfl
      rw [hz8] at HB
      obtain ⟨hb1, hb2⟩ := HB.out
      have R4 := Lib.hid hb1
      have PA := Lib.hid hb2
      clear HB hb1 hb2 hz8 hd5 hlt hc
      generalize ((wr.alloc (Obj.cells #[Value.int IntKind.i64 0, Value.int IntKind.i64 0, Value.int IntKind.i64 0, Value.int IntKind.i64 0, Value.int IntKind.i64 0, Value.int IntKind.i64 0, Value.int IntKind.i64 0, Value.int IntKind.i64 0] 51)).alloc (Obj.cells #[Value.int IntKind.i64 0, Value.int IntKind.i64 0, Value.int IntKind.i64 0, Value.int IntKind.i64 0, Value.int IntKind.i64 0, Value.int IntKind.i64 0, Value.int IntKind.i64 0, Value.int IntKind.i64 0] 52)) = w5 at *
      generalize wr.heap.size + 1 + 1 = base at *
      generalize wr.heap.size + 1 = gb at *
      generalize wr.heap.size = nb at *
      go_wp2_with fail
      go_loopw [15, 16, 17, 18, 19, 20, 21, 47] (fun _ _ _ _ _ _ _ i w' => ∃ k : Nat, k ≤ n ∧ i = .int .i64 k ∧ FairRel At w base g nb gb Q k w') (fun _ _ _ _ _ _ _ i _ => n - (intOf i).toNat)
      case atStart => exact ⟨0, by omega, rfl, R4.out⟩
      case round =>
        clear R4
        obtain ⟨k, hk, rfl, L, s, s0, gv, nx, v, m, zs, hm, hs⟩ := hrel
        have M0 := Lib.hid (hm.norow HP.out)
        have S0 := Lib.hid hs
        have W0 := Lib.hid hm.be
        clear hm hs
        by_cases hkn : k < n
        · have hd6 : decide ((k : Int) < (n : Int)) = true := by simp; omega
          have hd7 : decide (k < n) = true := by simpa using hkn
          go_wp2_with fail
          go_loopw [16, 17, 50] (fun hsl _ i w' => ∃ (c : Nat) (Z : Option Addr) (cap : Nat), c ≤ 8 ∧ i = .int .i64 c ∧ hsl = .slice Z c cap ∧ FM At w base g nb gb Q L gv nx (.slice Z c cap) c ((hsOf X n nx).take c) w') (fun _ _ i _ => 8 - (intOf i).toNat)
          case atStart => exact ⟨0, none, 0, by omega, rfl, rfl, M0.out⟩
          case round =>
            clear M0
            obtain ⟨c, Z, cap, hc, rfl, rfl, hm⟩ := hrel
            have M1 := Lib.hid hm
            clear hm
            by_cases hlt : c < 8
            · have hd8 : decide ((c : Int) < 8) = true := by simp; omega
              have hcn : wr.cell? ⟨nb, c, none⟩ = some (.int .i64 (nx c : Nat)) := (M1.out.nxt.cell c).trans (arr_at hlt)
              have hnl := S0.out.nl c hlt
              obtain ⟨i, hi⟩ : ∃ i, nx c % n = i := ⟨_, rfl⟩
              have hin : i < n := by rw [← hi]; exact Nat.mod_lt _ (by omega)
              obtain ⟨a, rfl, hca, hx2, hx3⟩ := HA.out i hin c hlt
              have hca' : wr.cell? ((a.add (i * 8)).add c) = some (.int .u16 (X i c)) := (M1.out.be.cell (World.block_lt_of_cell? w _ hca)).trans hca
              have HT : Hid ((hsOf X n nx).take c ++ [1 + X i c % 9216] = (hsOf X n nx).take (c + 1)) := by
                have := hs_take (X := X) (n := n) (nx := nx) hlt
                rw [hi] at this
                exact this
              have hmi : ((nx c : Nat) : Int) % (n : Int) = (i : Int) := by rw [← hi]; simp
              clear hca hi
              generalize X i c = X0 at *
              generalize nx c = nc at *
              have M2 := Lib.hid (M1.out.below HP.out (below_one wr (.cells #[.int .i64 (1 + X0 % 9216)] 3)))
              have V2 : Hid (Vals (wr.alloc (.cells #[.int .i64 (1 + X0 % 9216)] 3)) (some ⟨wr.heap.size, 0, none⟩) 1 (ints [1 + X0 % 9216])) := Vals.of_blk (Blk.new wr 3 (ints [1 + X0 % 9216])) rfl
              go_wp2_with (at_builtin; refine wpList_appI rfl (.tmp 53) (.tmp 68) rfl base (.slice Z c cap) c ((hsOf X n nx).take c) rfl (by exact M2.out.ro.row) (some ⟨wr.heap.size, 0, none⟩) 1 1 [1 + X0 % 9216] rfl (by exact V2.out) (c + 1) rfl ((hsOf X n nx).take (c + 1)) (by exact HT.out) (by omega) (by exact M2.out.ro.le) ?_; intro Z6 cap6 w6 O6 G6 E6; have M6 := Lib.hid (M2.out.grown HP.out PA.out O6.out G6.out E6.out); clear O6 G6 E6)
              go_roundw
              case rel => exact ⟨c + 1, Z6, cap6, by omega, by go_num, rfl, M6.out⟩
              case measure => simp [intOf]; omega
            · have hd8 : decide ((c : Int) < 8) = false := by simp; omega
              have HC8 : Hid (c = 8) := (by omega : c = 8)
              have M3 : Hid (FM At w base g nb gb Q L gv nx (.slice Z c cap) c (hsOf X n nx) wr) := by
                have h1 := M1.out
                rw [List.take_of_length_le (by rw [hs_length]; omega)] at h1
                exact h1
              have HH : Hid (∀ j, j < 8 → 1 ≤ hdOf (hsOf X n nx) j ∧ hdOf (hsOf X n nx) j ≤ 9216) := by
                intro j hj
                rw [hs_at hj]
                obtain ⟨_, _, _, h1, h2⟩ := HA.out (nx j % n) (Nat.mod_lt _ (by omega)) j hj
                omega
              clear M1 hlt hc
              generalize hsOf X n nx = hs at *
              go_upto_if 74 with fail
              go_cut [74] from 75 to 75 (fun _ wx => ∃ s0' gv' : Nat → Nat, FM At w base g nb gb Q L gv' nx (.slice Z c cap) c hs wx ∧ FS Q L s s0' gv' nx k)
              case first =>
                by_cases hf : k = fr
                · have hdf : ((k : Int) == (fr : Int)) = true := by simp [hf]
                  have hdf' : (k == fr) = true := by simp [hf]
                  clear hf
                  go_wp2_with (refine wpList_put8 rfl 52 size52 (.tmp 14) (.tmp 75) rfl gb (arr fun _ => 0) rfl rfl 52 (arr gv) (by exact M3.out.gvn) (arr_length _) (arr_length _) (arr_one _) ?_; intro w7 HB7 HF7; have M7 := Lib.hid (M3.out.putG HP.out PA.out HF7.out HB7.out))
                  go_meet
                  case rel => exact ⟨_, _, M7.out, S0.out.reset⟩
                · have hdf : ((k : Int) == (fr : Int)) = false := by simp; omega
                  have hdf' : (k == fr) = false := by simpa using hf
                  clear hf
                  go_wp2_with fail
                  go_meet
                  case rel => exact ⟨_, _, M3.out, S0.out⟩
              case rest =>
                obtain ⟨s1, gv1, hm, hfs⟩ := hcut
                obtain ⟨L', o, hp⟩ := picks_any (show 1 ≤ Q by omega) (hdOf hs) L
                obtain ⟨c1, hc1, rfl, hfs2⟩ := hfs.pick hQ1 HH.out hp
                have M4 := Lib.hid hm
                have S4 := Lib.hid hfs2
                have HPK := Lib.hid hp
                have hgl := hfs.gl c1 hc1
                have hnl := hfs.nl c1 hc1
                clear hm hfs hfs2 hp M3 S0
                obtain ⟨h0, h9⟩ := HH.out c1 hc1
                obtain ⟨t1, ht1⟩ : ∃ t : Nat, hdOf hs c1 = t := ⟨(hdOf hs c1).toNat, by omega⟩
                have e1 : decide ((c1 : Int) < 0) = false := by simp
                have e2 : decide (7 < (c1 : Int)) = false := by simp; omega
                have e3 : decide (7 < c1) = false := by simp; omega
                have hcc : c1 < c := by have := HC8.out; omega
                rw [ht1] at S4 h0 h9
                go_upto_region 26 with (go_at_call 16; (with_reducible refine (HP.out.pick _ g 8 Q Z c cap hs L L' (some c1) _ M4.out.ro.at_ M4.out.ro.room M4.out.ro.len M4.out.ro.vals M4.out.ro.notrow HPK.out).mono ?_); rintro e w8 ⟨rfl, hr, hf⟩; rw [told_some]; have M8 := Lib.hid (M4.out.turn hr hf); clear hr hf)
                have g1 : w8.cell? ⟨gb, c1, none⟩ = some (.int .i64 (gv1 c1 : Nat)) := (M8.out.gvn.cell c1).trans (arr_at hc1)
                have f1 := M8.out.gvn.frozen c1
                obtain ⟨ad, rfl, g2⟩ := M8.out.ro.vals.at_ (ints_at (zs := hs) (k := c1) (by rw [M8.out.ro.len]; exact hcc))
                have hgd : hs.getD c1 0 = (t1 : Int) := ht1
                rw [hgd] at g2
                clear hgd ht1
                have hk200 : k ≤ 200 := by omega
                go_region
                have M9 : Hid (FM At w base g nb gb Q L' (upd gv1 c1 (gv1 c1 + t1)) nx (.slice (some ad) c cap) c hs (w8.setCell ⟨gb, c1, none⟩ (.int .i64 ((gv1 c1 : Int) + (t1 : Int)))).drew) := by
                  refine FM.below (M8.out.putG HP.out PA.out (W' := w8.setCell ⟨gb, c1, none⟩ (.int .i64 ((gv1 c1 : Int) + (t1 : Int)))) (Far.set_ (S := lone gb) (p := ⟨gb, c1, none⟩) (Far.refl _ _) (fun _ => rfl) _) ?_) HP.out ((Below.refl _ _).drew)
                  have := M8.out.gvn.set_ c1 (.int .i64 ((gv1 c1 + t1 : Nat) : Int))
                  rw [arr_set hc1] at this
                  simpa using this
                have S9 : Hid (FS Q L' (upd s c1 (s c1 + t1)) s1 (upd gv1 c1 (gv1 c1 + t1)) (upd nx c1 (nx c1 + 1)) (k + 1)) := by
                  have := S4.out
                  rw [Int.toNat_natCast] at this
                  exact this
                clear M8 M4 S4 g1 f1 g2
                generalize (w8.setCell ⟨gb, c1, none⟩ (.int .i64 ((gv1 c1 : Int) + (t1 : Int)))).drew = w9 at *
                have g3 : w9.cell? ⟨nb, c1, none⟩ = some (.int .i64 (nx c1 : Nat)) := (M9.out.nxt.cell c1).trans (arr_at hc1)
                have f3 := M9.out.nxt.frozen c1
                go_upto_region 28 with fail
                have M10 : Hid (FM At w base g nb gb Q L' (upd gv1 c1 (gv1 c1 + t1)) (upd nx c1 (nx c1 + 1)) (.slice (some ad) c cap) c hs (w9.setCell ⟨nb, c1, none⟩ (.int .i64 ((nx c1 : Int) + 1)))) := by
                  refine M9.out.putN HP.out PA.out (Far.set_ (S := lone nb) (p := ⟨nb, c1, none⟩) (Far.refl _ _) (fun _ => rfl) _) ?_
                  have := M9.out.nxt.set_ c1 (.int .i64 ((nx c1 + 1 : Nat) : Int))
                  rw [arr_set hc1] at this
                  simpa using this
                clear M9 g3 f3
                generalize w9.setCell ⟨nb, c1, none⟩ (.int .i64 ((nx c1 : Int) + 1)) = w10 at *
                have hgb := S9.out.gl
                generalize upd gv1 c1 (gv1 c1 + t1) = gv2 at *
                generalize upd nx c1 (nx c1 + 1) = nx2 at *
                generalize upd s c1 (s c1 + t1) = s2 at *
                have HG : Hid (∀ j, j < 8 → gv2 j ≤ 9216 * (k + 1)) := hgb
                clear hgb
                by_cases hk1 : k < fr
                · have d1 : decide ((k : Int) < (fr : Int)) = true := by simp; omega
                  have d1' : decide (k < fr) = true := by simpa using hk1
                  go_wp2_with fail
                  go_roundw
                  case rel => exact ⟨k + 1, by omega, by go_num, _, _, _, _, _, _, _, _, M10.out, S9.out⟩
                  case measure => simp [intOf]; omega
                · have d1 : decide ((k : Int) < (fr : Int)) = false := by simp; omega
                  have d1' : decide (k < fr) = false := by simpa using hk1
                  by_cases hk2 : tl < k
                  · have d2 : decide ((tl : Int) < (k : Int)) = true := by simp; omega
                    have d2' : decide (tl < k) = true := by simpa using hk2
                    go_wp2_with fail
                    go_roundw
                    case rel => exact ⟨k + 1, by omega, by go_num, _, _, _, _, _, _, _, _, M10.out, S9.out⟩
                    case measure => simp [intOf]; omega
                  · have d2 : decide ((tl : Int) < (k : Int)) = false := by simp; omega
                    have d2' : decide (tl < k) = false := by simpa using hk2
                    go_wp2_with fail
                    go_loopw [20, 21, 119] (fun _ _ i w' => ∃ a : Nat, a ≤ 8 ∧ i = .int .i64 a ∧ FM At w base g nb gb Q L' gv2 nx2 (.slice (some ad) c cap) c hs w') (fun _ _ i _ => 8 - (intOf i).toNat)
                    case atStart => exact ⟨0, by omega, rfl, M10.out⟩
                    case round =>
                      clear M10
                      obtain ⟨a, ha8, rfl, hm⟩ := hrel
                      have M11 := Lib.hid hm
                      clear hm
                      by_cases hal : a < 8
                      · have d3 : decide ((a : Int) < 8) = true := by simp; omega
                        go_wp2_with fail
                        go_loopw [21, 122] (fun _ i w' => ∃ b : Nat, b ≤ 8 ∧ i = .int .i64 b ∧ FM At w base g nb gb Q L' gv2 nx2 (.slice (some ad) c cap) c hs w') (fun _ i _ => 8 - (intOf i).toNat)
                        case atStart => exact ⟨0, by omega, rfl, M11.out⟩
                        case round =>
                          clear M11
                          obtain ⟨b, hb8, rfl, hm⟩ := hrel
                          have M12 := Lib.hid hm
                          clear hm
                          by_cases hbl : b < 8
                          · have d4 : decide ((b : Int) < 8) = true := by simp; omega
                            have g4 : wr.cell? ⟨gb, a, none⟩ = some (.int .i64 (gv2 a : Nat)) := (M12.out.gvn.cell a).trans (arr_at hal)
                            have g5 : wr.cell? ⟨gb, b, none⟩ = some (.int .i64 (gv2 b : Nat)) := (M12.out.gvn.cell b).trans (arr_at hbl)
                            have hb1 := HG.out a hal
                            have hb2 := HG.out b hbl
                            have hbd := S9.out.bound hal hbl
                            generalize gv2 a = ga at *
                            generalize gv2 b = gbb at *
                            have d5 : decide ((Q : Int) + 18432 < (ga : Int) - (gbb : Int)) = false := by simp; omega
                            clear hbd
                            go_wp2_with fail
                            go_quiet (fail)
                            go_wp2_with fail
                            go_roundw
                            case rel => exact ⟨b + 1, by omega, by go_num, M12.out.below HP.out (below_drewN (Below.refl _ _) _)⟩
                            case measure => simp [intOf]; omega
                          · have d4 : decide ((b : Int) < 8) = false := by simp; omega
                            go_wp2_with fail
                            go_roundw
                            case rel => exact ⟨a + 1, by omega, by go_num, M12.out⟩
                            case measure => simp [intOf]; omega
                      · have d3 : decide ((a : Int) < 8) = false := by simp; omega
                        go_wp2_with fail
                        go_roundw
                        case rel => exact ⟨k + 1, by omega, by go_num, _, _, _, _, _, _, _, _, M11.out, S9.out⟩
                        case measure => simp [intOf]; omega
        · obtain rfl : k = n := by omega
          have hd6 : decide ((k : Int) < (k : Int)) = false := by simp
          go_wp2_with fail
          go_ret
          exact ⟨rfl, W0.out⟩
set_option maxRecDepth 100000 in
set_option maxHeartbeats 2000000 in
theorem fair_far (P : Prog At) (x : Int) (A : Option Addr) (n cc : Nat) (y z : Int) (w : World) (hn : 200 < n) :
    Calls Try.prog 4 #[.int .u16 x, .slice A n cc, .int .u8 y, .int .u8 z] w fun e w' => e = .returned (.bool true) ∧ Below w.heap.size w w' := by
  have HP := Lib.hid P
  clear P
  have hd : decide ((200 : Int) < (n : Int)) = true := by simp; omega
  have hd' : decide (200 < n) = true := by simp; omega
  go_enter Try.func4, Try.ntmps4
  go_wp2_with fail
  refine (awake_any HP.out _).mono ?_
  rintro e w1 ⟨rfl, hb1⟩
  have W1 := Lib.hid hb1
  clear hb1
  go_wp2_with fail
  refine (awake_any HP.out _).mono ?_
  rintro e w2 ⟨rfl, hb2⟩
  have W2 : Hid (Below w.heap.size w w2) := W1.out.trans (hb2.mono W1.out.size)
  clear hb2
  go_wp2_with fail
  go_ret
  exact ⟨rfl, W2.out⟩
end
end Go.Proofs.Ytknalphhnicffaa
