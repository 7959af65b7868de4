/- The contracts of a state's mix, take and end. Conditions: those of each theorem. -/
import Derived.Test.YtfhlgmmfknfamaaKdSummRound
namespace Go.Proofs.Ytfhlgmmfknfamaa.kd.summ
open Go.RowKit

theorem only_trans {g : Nat} {w w1 w2 : World} (h : Far (only g) w w1) (k : Far (only g) w1 w2) : Far (only g) w w2 := h.trans k (fun _ _ e => e)
theorem StAt.far_set {w w1 : World} {g i : Nat} (h : Far (only g) w w1) (u : Value) : Far (only g) w (w1.setCell ⟨g, i, none⟩ u) := h.set_ (p := ⟨g, i, none⟩) (fun _ => show g = g from rfl) u

set_option maxRecDepth 100000 in
set_option maxHeartbeats 1000000 in
theorem mix_is (g : Nat) (v : V4) (m n x : Nat) (w : World) (h : StAt w g v m n) (hv : v.Ok) (hx : U x) : Calls Try.prog 50 #[.pointer (some ⟨g, 0, none⟩), .int .u64 (x : Nat)] w fun e w' => e = .returned (.tuple #[]) ∧ StAt w' g (mixV v x) m n ∧ Far (only g) w w' := by
  obtain ⟨a, b, c, d⟩ := v
  have B0 : Hid (Blk w g 81 (stCells a b c d m n)) := h
  have c3 : w.cell? ⟨g, 3, none⟩ = some (.int .u64 (d : Nat)) := B0.out.cell 3
  have f3 : w.frozen? ⟨g, 3, none⟩ = false := B0.out.frozen 3
  have ex := xor_out hv.d hx
  have V1 : Hid ((⟨a, b, c, d ^^^ x⟩ : V4).Ok) := ⟨hv.a, hv.b, hv.c, xor_u hv.d hx⟩
  have HM : Hid (∀ r, rnd (rnd ⟨a, b, c, d ^^^ x⟩) = r → (⟨r.a ^^^ x, r.b, r.c, r.d⟩ : V4) = mixV ⟨a, b, c, d⟩ x) := fun r e => by subst e; rfl
  generalize d ^^^ x = d1 at *
  clear h hv
  go_enter Try.func50, Try.ntmps50
  go_wp2_with fail
  have B1 : Hid (StAt (w.setCell ⟨g, 3, none⟩ (.int .u64 (d1 : Nat))) g ⟨a, b, c, d1⟩ m n) := B0.out.set_ 3 _
  have F1 : Hid (Far (only g) w (w.setCell ⟨g, 3, none⟩ (.int .u64 (d1 : Nat)))) := StAt.far_set (Far.refl _ _) _
  clear c3 f3 ex
  generalize w.setCell ⟨g, 3, none⟩ (.int .u64 (d1 : Nat)) = w1 at *
  refine (round_is g _ m n _ B1.out V1.out).mono ?_
  rintro e w2 ⟨rfl, hb2, hf2⟩
  have B2 := Lib.hid hb2
  have F2 := Lib.hid (only_trans F1.out hf2)
  have V2 := Lib.hid (rnd_ok V1.out)
  clear hb2 hf2
  go_wp2_with fail
  refine (round_is g _ m n _ B2.out V2.out).mono ?_
  rintro e w3 ⟨rfl, hb3, hf3⟩
  have V3 := Lib.hid (rnd_ok V2.out)
  obtain ⟨r, hr⟩ : ∃ r, rnd (rnd ⟨a, b, c, d1⟩) = r := ⟨_, rfl⟩
  have HE := Lib.hid (HM.out r hr)
  rw [hr] at hb3 V3
  obtain ⟨a3, b3, c3, d3⟩ := r
  have B3 : Hid (Blk w3 g 81 (stCells a3 b3 c3 d3 m n)) := hb3
  have F3 := Lib.hid (only_trans F2.out hf3)
  clear hb3 hf3 hr HM
  have c0 : w3.cell? ⟨g, 0, none⟩ = some (.int .u64 (a3 : Nat)) := B3.out.cell 0
  have f0 : w3.frozen? ⟨g, 0, none⟩ = false := B3.out.frozen 0
  have ex := xor_out V3.out.a hx
  go_wp2_with fail
  go_end0
  refine ⟨rfl, ?_, StAt.far_set F3.out _⟩
  rw [← HE.out]
  exact B3.out.set_ 0 _

theorem u8_of {x : Nat} (h : x < 256) : IntKind.u8.wrap (x : Int) = x := by rw [IntKind.wrap_u8']; omega

theorem word_out {m b n z : Nat} (hb : b < 256) (hn : n < 256) (hm : U m) (hs : U (b * 2 ^ (8 * (n % 8)))) (hz : m ||| b * 2 ^ (8 * (n % 8)) = z) :
    bits .or .u64 (m : Int) (IntKind.u64.wrap (IntKind.u64.wrap (b : Int) * 2 ^ min (IntKind.u8.wrap (8 * (n : Int).tmod 8)).toNat 64)) = (z : Int) := by
  have e1 : IntKind.u64.wrap (b : Int) = b := by rw [IntKind.wrap_u64]; omega
  have e2 : (n : Int).tmod 8 = ((n % 8 : Nat) : Int) := by rw [Int.tmod_eq_emod_of_nonneg (by omega)]; omega
  have e3 : min (IntKind.u8.wrap (8 * (n : Int).tmod 8)).toNat 64 = 8 * (n % 8) := by rw [e2, IntKind.wrap_u8']; omega
  have e4 : (b : Int) * 2 ^ (8 * (n % 8)) = ((b * 2 ^ (8 * (n % 8)) : Nat) : Int) := by simp
  rw [e1, e3, e4, IntKind.wrap_u64]
  have e5 : ((b * 2 ^ (8 * (n % 8)) : Nat) : Int) % 18446744073709551616 = ((b * 2 ^ (8 * (n % 8)) : Nat) : Int) := by have := hs.lt; omega
  rw [e5, or_out hm hs, hz]
theorem count_out {n n1 : Nat} (h : (n + 1) % 256 = n1) : IntKind.u8.wrap ((n : Int) + 1) = (n1 : Int) := by rw [IntKind.wrap_u8']; omega

/-- Behind a byte. -/
structure Taken (g : Nat) (v : V4) (l : List Nat) (w w' : World) : Prop where
  at_ : StAt w' g (stV v l) (stW l) (stC l)
  far : Far (only g) w w'

set_option maxRecDepth 100000 in
set_option maxHeartbeats 2000000 in
theorem take_is (g : Nat) (v : V4) (l : List Nat) (b : Nat) (w : World) (h : StAt w g (stV v l) (stW l) (stC l)) (hv : v.Ok) (hl : Octs l) (hb : b < 256) :
    Calls Try.prog 45 #[.pointer (some ⟨g, 0, none⟩), .int .u8 (b : Nat)] w fun e w' => e = .returned (.tuple #[]) ∧ Taken g v (l ++ [b]) w w' := by
  have V0 := Lib.hid (stV_ok hv hl)
  have hn := stC_lt l
  have HW := Lib.hid (word_or (b := b) hl)
  have uW := stW_u hl
  have uS := shifted_u (l := l) hb
  have uZ := wordOf_u hl hb
  have HC := Lib.hid (stC_snoc l b)
  have HM := Lib.hid (fun h => st_more v (l := l) b h)
  have HD := Lib.hid (fun h => st_word v (l := l) b h)
  generalize stV v l = v0 at *
  generalize stW l = m at *
  generalize wordOf l b = z at *
  generalize stC l = n at *
  obtain ⟨a0, b0, c0, d0⟩ := v0
  have B0 : Hid (Blk w g 81 (stCells a0 b0 c0 d0 m n)) := h
  clear h
  have ew := word_out hb hn uW uS HW.out
  obtain ⟨n1, hn1⟩ : ∃ n1, (n + 1) % 256 = n1 := ⟨_, rfl⟩
  have ec := count_out hn1
  rw [hn1] at HC HM HD
  have hn2 : n1 < 256 := by omega
  clear hn1 HW uS
  have c4 : w.drew.cell? ⟨g, 4, none⟩ = some (.int .u64 (m : Nat)) := B0.out.cell 4
  have c5 : w.drew.cell? ⟨g, 5, none⟩ = some (.int .u8 (n : Nat)) := B0.out.cell 5
  have f4 : w.drew.frozen? ⟨g, 4, none⟩ = false := B0.out.frozen 4
  have X0 : Hid (Blk w.drew g 81 (stCells a0 b0 c0 d0 m n)) := B0.out
  have Y0 : Hid (Far (only g) w w.drew) := (Far.refl _ _).drew
  have f5 : w.drew.frozen? ⟨g, 5, none⟩ = false := B0.out.frozen 5
  by_cases hd : n1 % 8 = 0
  · have hd1 : (((n1 : Nat) : Int) % 8 == 0) = true := by simp; omega
    obtain ⟨hD1, hD2⟩ := HD.out hd
    have HD1 := Lib.hid hD1
    have HD2 := Lib.hid hD2
    clear hD1 hD2 HD HM hd
    go_enter Try.func45, Try.ntmps45
    go_wp2_with fail
    refine wp_region_still_tail 16 (by kernel_rfl) (by kernel_rfl) ?_
    change wpStill _ _ w.drew (fun a' => wpList _ _ _ _ a' w.drew) _ _
    generalize w.drew = x0 at *
    simp only [List.take_succ_cons, List.take_zero, List.drop_succ_cons, List.drop_zero]
    repeat still_step
    refine wpStill_nil ?_
    have X1 : Hid (StAt ((x0.setCell ⟨g, 4, none⟩ (.int .u64 (z : Nat))).setCell ⟨g, 5, none⟩ (.int .u8 (n1 : Nat))) g ⟨a0, b0, c0, d0⟩ z n1) := (X0.out.set_ 4 _).set_ 5 _
    have Y1 : Hid (Far (only g) w ((x0.setCell ⟨g, 4, none⟩ (.int .u64 (z : Nat))).setCell ⟨g, 5, none⟩ (.int .u8 (n1 : Nat)))) := StAt.far_set (StAt.far_set Y0.out _) _
    go_wp2_with (go_at_call 50; (with_reducible refine (mix_is g _ z n1 z _ X1.out V0.out uZ).mono ?_); rintro e w2 ⟨rfl, hb2, hf2⟩; have B2 := Lib.hid hb2; have F2 := Lib.hid (only_trans Y1.out hf2); have c6 : w2.cell? ⟨g, 4, none⟩ = some (.int .u64 (z : Nat)) := B2.out.cell 4; have f6 : w2.frozen? ⟨g, 4, none⟩ = false := B2.out.frozen 4; clear hb2 hf2)
    go_end0
    refine ⟨rfl, ?_, StAt.far_set F2.out _⟩
    rw [HD1.out, HD2.out, HC.out]
    exact B2.out.set_ 4 _
  · have hd1 : (((n1 : Nat) : Int) % 8 == 0) = false := by simp; omega
    obtain ⟨hD1, hD2⟩ := HM.out hd
    have HD1 := Lib.hid hD1
    have HD2 := Lib.hid hD2
    clear hD1 hD2 HD HM hd
    go_enter Try.func45, Try.ntmps45
    go_wp2_with fail
    refine wp_region_still_tail 16 (by kernel_rfl) (by kernel_rfl) ?_
    change wpStill _ _ w.drew (fun a' => wpList _ _ _ _ a' w.drew) _ _
    generalize w.drew = x0 at *
    simp only [List.take_succ_cons, List.take_zero, List.drop_succ_cons, List.drop_zero]
    repeat still_step
    refine wpStill_nil ?_
    go_wp2_with fail
    go_end0
    refine ⟨rfl, ?_, StAt.far_set (StAt.far_set Y0.out _) _⟩
    rw [HD1.out, HD2.out, HC.out]
    exact (X0.out.set_ 4 _).set_ 5 _
end Go.Proofs.Ytfhlgmmfknfamaa.kd.summ
