/- The contract of a state's end; eight bytes as a number, the program's and the document's. Conditions: those of each theorem. -/
import Derived.Test.YtfhlgmmfknfamaaKdSummTakes
namespace Go.Proofs.Ytfhlgmmfknfamaa.kd.summ
open Go.RowKit

theorem last_out {m n z : Nat} (hn : n < 256) (hm : U m) (hz : m ||| n * 72057594037927936 = z) : bits .or .u64 (m : Int) (IntKind.u64.wrap (IntKind.u64.wrap (n : Int) * 72057594037927936)) = (z : Int) := by
  have e1 : IntKind.u64.wrap (n : Int) = n := by rw [IntKind.wrap_u64]; omega
  have e4 : (n : Int) * 72057594037927936 = ((n * 72057594037927936 : Nat) : Int) := by omega
  rw [e1, e4, IntKind.wrap_u64]
  have hs : U (n * 72057594037927936) := by unfold U; omega
  have e5 : ((n * 72057594037927936 : Nat) : Int) % 18446744073709551616 = ((n * 72057594037927936 : Nat) : Int) := by have := hs.lt; omega
  rw [e5, or_out hm hs, hz]

set_option maxRecDepth 100000 in
set_option maxHeartbeats 2000000 in
theorem end_is (g : Nat) (v : V4) (l : List Nat) (w : World) (h : StAt w g (stV v l) (stW l) (stC l)) (hv : v.Ok) (hl : Octs l) :
    Calls Try.prog 46 #[.pointer (some ⟨g, 0, none⟩)] w fun e w' => e = .returned (.int .u64 (sumOf v l : Nat)) ∧ Far (only g) w w' := by
  have V0 := Lib.hid (stV_ok hv hl)
  have hn := stC_lt l
  have uW := stW_u hl
  have uZ := lastW_u hl
  have ew := last_out hn uW (last_or hl)
  have HS : Hid (finV (mixV (stV v l) (lastW l)) = sumOf v l) := rfl
  generalize sumOf v l = s at *
  generalize stV v l = v0 at *
  generalize stW l = m at *
  generalize lastW l = z at *
  generalize stC l = n at *
  have V1 := Lib.hid (mixV_ok V0.out uZ)
  have B0 : Hid (StAt w.drew g v0 m n) := h
  have F0 : Hid (Far (only g) w w.drew) := (Far.refl _ _).drew
  have c4 : w.drew.cell? ⟨g, 4, none⟩ = some (.int .u64 (m : Nat)) := B0.out.cell 4
  have c5 : w.drew.cell? ⟨g, 5, none⟩ = some (.int .u8 (n : Nat)) := B0.out.cell 5
  clear h
  go_enter Try.func46, Try.ntmps46
  go_wp2_with fail
  refine wp_region_still_tail 12 (by kernel_rfl) (by kernel_rfl) ?_
  change wpStill _ _ w.drew (fun a' => wpList _ _ _ _ a' w.drew) _ _
  generalize w.drew = x0 at *
  simp only [List.take_succ_cons, List.take_zero, List.drop_succ_cons, List.drop_zero]
  repeat still_step
  refine wpStill_nil ?_
  go_wp2_with fail
  refine (mix_is g _ m n z _ B0.out V0.out uZ).mono ?_
  rintro e w1 ⟨rfl, hb1, hf1⟩
  have F1 := Lib.hid (only_trans F0.out hf1)
  generalize mixV v0 z = v1 at *
  obtain ⟨a, b, c, d⟩ := v1
  have B1 : Hid (Blk w1 g 81 (stCells a b c d m n)) := hb1
  have c2 : w1.cell? ⟨g, 2, none⟩ = some (.int .u64 (c : Nat)) := B1.out.cell 2
  have f2 : w1.frozen? ⟨g, 2, none⟩ = false := B1.out.frozen 2
  have ex : bits .xor .u64 (c : Int) 255 = ((c ^^^ 255 : Nat) : Int) := xor_out (y := 255) V1.out.c (by unfold U; omega)
  have V2 := Lib.hid (fin_ok V1.out)
  have HT : Hid (outV (rnds 4 ⟨a, b, c ^^^ 255, d⟩) = s) := HS.out
  clear HS
  simp only [] at V2
  generalize c ^^^ 255 = c1 at *
  clear hb1 hf1 B0 F0 c4 c5
  go_wp2_with fail
  have B2 : Hid (StAt (w1.setCell ⟨g, 2, none⟩ (.int .u64 (c1 : Nat))) g ⟨a, b, c1, d⟩ m n) := B1.out.set_ 2 _
  have F2 : Hid (Far (only g) w (w1.setCell ⟨g, 2, none⟩ (.int .u64 (c1 : Nat)))) := StAt.far_set F1.out _
  clear c2 f2 ex
  generalize w1.setCell ⟨g, 2, none⟩ (.int .u64 (c1 : Nat)) = w2 at *
  go_loopw [23] (fun y w' => ∃ k : Nat, y = .int .i64 k ∧ k ≤ 4 ∧ StAt w' g (rnds k ⟨a, b, c1, d⟩) m n ∧ Far (only g) w w') (fun y _ => 4 - (intOf y).toNat)
  case atStart => exact ⟨0, rfl, by omega, B2.out, F2.out⟩
  case round =>
    obtain ⟨k, rfl, hk, hb, hf⟩ := hrel
    have HB := Lib.hid hb
    have HF := Lib.hid hf
    clear hb hf
    by_cases hlt : k < 4
    · have hd : decide ((k : Int) < 4) = true := by simp; omega
      have VK := Lib.hid (rnds_ok V2.out k)
      go_wp2_with (go_at_call 51; (with_reducible refine (round_is g _ m n _ HB.out VK.out).mono ?_); rintro e w3 ⟨rfl, hb3, hf3⟩; have B3 := Lib.hid hb3; have F3 := Lib.hid (only_trans HF.out hf3); clear hb3 hf3)
      go_roundw
      case rel => exact ⟨k + 1, by go_num, by omega, B3.out, F3.out⟩
      case measure => simp [intOf]; omega
    · have hd : decide ((k : Int) < 4) = false := by simp; omega
      have V4 := Lib.hid (rnds_ok V2.out 4)
      have hk4 : k = 4 := by omega
      have HB4 : Hid (StAt wr g (rnds 4 ⟨a, b, c1, d⟩) m n) := by have := HB.out; rw [hk4] at this; exact this
      clear hk4 HB
      generalize rnds 4 ⟨a, b, c1, d⟩ = r at *
      obtain ⟨ra, rb, rc, rd⟩ := r
      have B5 : Hid (Blk wr g 81 (stCells ra rb rc rd m n)) := HB4.out
      have k0 : wr.cell? ⟨g, 0, none⟩ = some (.int .u64 (ra : Nat)) := B5.out.cell 0
      have k1 : wr.cell? ⟨g, 1, none⟩ = some (.int .u64 (rb : Nat)) := B5.out.cell 1
      have k2 : wr.cell? ⟨g, 2, none⟩ = some (.int .u64 (rc : Nat)) := B5.out.cell 2
      have k3 : wr.cell? ⟨g, 3, none⟩ = some (.int .u64 (rd : Nat)) := B5.out.cell 3
      have x1 := xor_out V4.out.a V4.out.b
      have u1 := xor_u V4.out.a V4.out.b
      have x2 := xor_out u1 V4.out.c
      have u2 := xor_u u1 V4.out.c
      have x3 := xor_out u2 V4.out.d
      simp only [] at x1 x2 x3
      go_wp2_with fail
      go_quiet (fail)
      go_wp2
      go_ret
      have E : ra ^^^ rb ^^^ rc ^^^ rd = s := HT.out
      refine ⟨?_, HF.out.drewN _⟩
      rw [← E]
      rfl

/-- Bytes as cells. -/
def cel (bs : List Nat) : List Value := bs.map fun b => .int .u8 (b : Nat)
theorem cel_length (bs : List Nat) : (cel bs).length = bs.length := by simp [cel]
theorem cel_app (a b : List Nat) : cel (a ++ b) = cel a ++ cel b := by simp [cel]
theorem cel_one (bs : List Nat) : ∀ u ∈ cel bs, u.oneCell' = true := by
  intro u hu
  obtain ⟨z, _, rfl⟩ := List.mem_map.1 hu
  rfl
theorem cel_at {bs : List Nat} {k : Nat} (h : k < bs.length) : (cel bs)[k]? = some (.int .u8 ((bs.getD k 0 : Nat) : Int)) := by
  simp [cel, List.getD_eq_getElem?_getD, List.getElem?_eq_getElem h]
theorem take_snoc {bs : List Nat} {k : Nat} (h : k < bs.length) : bs.take k ++ [bs.getD k 0] = bs.take (k + 1) := by
  rw [List.take_succ_eq_append_getElem h, List.getD_eq_getElem?_getD, List.getElem?_eq_getElem h]
  rfl
theorem drop_cons {bs : List Nat} {k : Nat} (h : k < bs.length) : bs.drop k = bs.getD k 0 :: bs.drop (k + 1) := by
  rw [List.drop_eq_getElem_cons h, List.getD_eq_getElem?_getD, List.getElem?_eq_getElem h]
  rfl

theorem num_out {l : List Nat} {b k : Nat} (hl : Octs l) (hk : l.length = k) (h7 : k < 8) (hb : b < 256) : bits .or .u64 ((le l : Nat) : Int) (IntKind.u64.wrap ((b : Int) * 2 ^ (8 * k))) = ((le (l ++ [b]) : Nat) : Int) := by
  have h1 : 2 ^ (8 * k) ≤ 256 ^ 7 := by rw [pow_two]; exact pow_mono (by omega)
  have h2 : b * 2 ^ (8 * k) ≤ 255 * 256 ^ 7 := Nat.mul_le_mul (by omega) h1
  have hs : U (b * 2 ^ (8 * k)) := by unfold U; omega
  have e4 : (b : Int) * 2 ^ (8 * k) = ((b * 2 ^ (8 * k) : Nat) : Int) := by simp
  have e5 : ((b * 2 ^ (8 * k) : Nat) : Int) % 18446744073709551616 = ((b * 2 ^ (8 * k) : Nat) : Int) := by have := hs.lt; omega
  rw [e4, IntKind.wrap_u64, e5, or_out (le_u hl (by omega)) hs, le_or hl hk]
theorem word_out2 {l : List Nat} {b : Nat} (hl : Octs l) (h7 : l.length < 8) (hb : b < 256) : IntKind.u64.wrap (IntKind.u64.wrap (((le l : Nat) : Int) * 256) + (b : Int)) = ((le (b :: l) : Nat) : Int) := by
  have h1 := le_lt hl
  have h2 := pow_mono (show l.length ≤ 7 by omega)
  have h3 : (256 : Nat) ^ 7 = 72057594037927936 := by decide
  rw [IntKind.wrap_u64, IntKind.wrap_u64]
  simp only [le]
  omega

set_option maxHeartbeats 1000000 in
theorem number_is (A : Option Addr) (c : Nat) (l : List Nat) (w : World) (h : Vals w A 8 (cel l)) (hl : Octs l) : Calls Try.prog 49 #[.slice A 8 c] w fun e w' => e = .returned (.int .u64 (le l : Nat)) ∧ w = w' := by
  have h8 : l.length = 8 := by have := h.1; rw [cel_length] at this; exact this
  have HV := Lib.hid h
  have HL := Lib.hid h8
  clear h h8
  go_enter Try.func49, Try.ntmps49
  go_wp2
  go_loop [3, 4, 5, 8] (fun x _ _ y => ∃ k : Nat, y = .int .i64 k ∧ k ≤ 8 ∧ x = .int .u64 (le (l.take k) : Nat)) (fun _ _ _ y => 8 - (intOf y).toNat)
  case atStart => exact ⟨0, rfl, by omega, rfl⟩
  case round =>
    obtain ⟨k, rfl, hk, rfl⟩ := hrel
    by_cases hlt : k < 8
    · have hd : decide ((k : Int) < 8) = true := by simp; omega
      have hd2 : decide (k < 8) = true := by simp; omega
      obtain ⟨ad, rfl, hc⟩ := HV.out.at_ (cel_at (bs := l) (k := k) (by rw [HL.out]; exact hlt))
      have HS := Lib.hid (take_snoc (bs := l) (k := k) (by rw [HL.out]; exact hlt))
      have hb := hl.at_ k
      generalize l.getD k 0 = b at *
      go_wp2
      refine ⟨⟨k + 1, by go_num, by omega, ?_⟩, by simp [intOf]; omega⟩
      rw [num_out (hl.take k) (by rw [List.length_take, HL.out]; omega) hlt hb, HS.out]
    · have hd : decide ((k : Int) < 8) = false := by simp; omega
      have hd2 : decide (k < 8) = false := by simp; omega
      have HE : Hid (le (l.take k) = le l) := by show _ = _; rw [List.take_of_length_le (by rw [HL.out]; omega)]
      generalize le (l.take k) = x at *
      go_wp2
      go_ret
      refine ⟨?_, rfl⟩
      rw [← HE.out]
      rfl
set_option maxHeartbeats 1000000 in
theorem word_is (A : Option Addr) (c : Nat) (l : List Nat) (w : World) (h : Vals w A 8 (cel l)) (hl : Octs l) : Calls Try.prog 47 #[.slice A 8 c] w fun e w' => e = .returned (.int .u64 (le l : Nat)) ∧ w = w' := by
  have h8 : l.length = 8 := by have := h.1; rw [cel_length] at this; exact this
  have HV := Lib.hid h
  have HL := Lib.hid h8
  clear h h8
  go_enter Try.func47, Try.ntmps47
  go_wp2
  go_loop [3, 4] (fun x y => ∃ k : Nat, y = .int .i64 ((k : Int) - 1) ∧ k ≤ 8 ∧ x = .int .u64 (le (l.drop k) : Nat)) (fun _ y => (intOf y + 1).toNat)
  case atStart => exact ⟨8, rfl, by omega, by rw [List.drop_of_length_le (by rw [HL.out]; omega)]; rfl⟩
  case round =>
    obtain ⟨k, rfl, hk, rfl⟩ := hrel
    by_cases hlt : 0 < k
    · obtain ⟨k, rfl⟩ : ∃ j, k = j + 1 := ⟨k - 1, by omega⟩
      have e0 : ((k + 1 : Nat) : Int) - 1 = (k : Int) := by omega
      have hd : decide (0 ≤ ((k : Nat) : Int)) = true := by simp
      obtain ⟨ad, rfl, hc⟩ := HV.out.at_ (cel_at (bs := l) (k := k) (by rw [HL.out]; omega))
      have HS := Lib.hid (drop_cons (bs := l) (k := k) (by rw [HL.out]; omega))
      have hb := hl.at_ k
      generalize l.getD k 0 = b at *
      go_wp2
      refine ⟨⟨k, rfl, by omega, ?_⟩, by simp [intOf]⟩
      rw [word_out2 (hl.drop (k + 1)) (by rw [List.length_drop, HL.out]; omega) hb, HS.out]
    · obtain rfl : k = 0 := by omega
      go_wp2
      go_ret
      exact ⟨rfl, rfl⟩
end Go.Proofs.Ytfhlgmmfknfamaa.kd.summ
