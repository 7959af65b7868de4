/- The contracts of inet's leaves (headBytes, number, sum, copied) and of the document's two and Sum; append of bytes onto an own row. Conditions: those of each theorem. -/
import Derived.Test.YtebpemknmcgamaaRows
import Derived.Test.YtebpemknmcgamaaInetPlain
import Derived.WalkKit
import Derived.WalkSpells
import Derived.WalkLawsBesides
import Derived.ProofKit
import Derived.OpenShut
import Derived.BigQuiet
import Derived.Deep.OwnRows
import Derived.Laws.BitsAllLaws
namespace Go.Proofs.Ytebpemknmcgamaa.inet
open Go.RowKit

theorem ret_int {k : IntKind} {a b : Int} (h : a = b) : Ending.returned (.int k a) = .returned (.int k b) := by rw [h]
theorem info5 : (Try.prog.info? 5).map (fun i => (i.zero, i.size, i.bytes)) = some (some (.int .u8 0), 1, 1) := by kernel_rfl
theorem size5 : (Try.prog.info? 5).map (·.size) = some 1 := by kernel_rfl
theorem below_drewN {B : Nat} {w w' : World} (h : Below B w w') (k : Nat) : Below B w (w'.drewN k) := ⟨h.os, h.tape, h.output, h.size, h.block⟩

set_option maxHeartbeats 400000 in
theorem copied_any (A : Option Addr) (n c : Nat) (bs : List Int) (w : World) (hn : n ≤ 1000000) (h : Byts w A n bs) :
    Calls Try.prog 49 #[.slice A n c] w fun e w' => e = .returned (.slice (some ⟨w.heap.size, 0, none⟩) n n) ∧ w.alloc (.cells (cel bs).toArray 5) = w' := by
  have hmk := fun W => run_make_row' (P := Try.prog) 22 5 (.int .u8 0) 1 Try.underlying22 info5 rfl .i64 .i64 n (by omega) (by omega) W
  have hcp := fun ty => run_copied (P := Try.prog) w 22 5 ty A n c bs Try.underlying22 size5 h
  have H := Lib.hid h
  clear h
  go_enter Try.func49, Try.ntmps49
  go_wp2
  go_ret
  exact ⟨rfl, rfl⟩

theorem and15 (u : Int) (h0 : 0 ≤ u) (h1 : u ≤ 255) : bits .and .u8 u 15 = ((u.toNat % 16 : Nat) : Int) := by
  rw [u8_and u 15 h0 (by omega) (by omega) (by omega)]
  exact congrArg _ (nat_mask4 _)
theorem i64_and_nat (a b : Nat) (ha : a < 4294967296) (hb : b < 4294967296) : bits .and .i64 (a : Int) (b : Int) = ((a &&& b : Nat) : Int) := by
  have hx : a &&& b < 2 ^ 32 := Nat.and_lt_two_pow _ (by omega)
  show IntKind.i64.wrap ((BitVec.ofInt 64 (a : Int) &&& BitVec.ofInt 64 (b : Int)).toNat : Int) = _
  rw [BitVec.toNat_and, ofInt_u64 a (by omega), ofInt_u64 b (by omega), IntKind.wrap_i64]
  omega
theorem i64_or_nat (a b : Nat) (ha : a < 4294967296) (hb : b < 4294967296) : bits .or .i64 (a : Int) (b : Int) = ((a ||| b : Nat) : Int) := by
  have hx : a ||| b < 2 ^ 32 := Nat.or_lt_two_pow (by omega) (by omega)
  show IntKind.i64.wrap ((BitVec.ofInt 64 (a : Int) ||| BitVec.ofInt 64 (b : Int)).toNat : Int) = _
  rw [BitVec.toNat_or, ofInt_u64 a (by omega), ofInt_u64 b (by omega), IntKind.wrap_i64]
  omega
theorem and_low (x : Nat) (h : x < 4294967296) : bits .and .i64 (x : Int) 65535 = ((x % 65536 : Nat) : Int) := by
  have := i64_and_nat x 65535 h (by omega)
  rw [Nat.and_two_pow_sub_one_eq_mod x 16] at this
  exact this
theorem and_place (x : Nat) (h : x < 4294967296) : bits .and .i64 (x : Int) 8191 = ((x % 8192 : Nat) : Int) := by
  have := i64_and_nat x 8191 h (by omega)
  rw [Nat.and_two_pow_sub_one_eq_mod x 13] at this
  exact this

set_option maxHeartbeats 400000 in
theorem headBytes_any (A : Option Addr) (n c : Nat) (bs : List Int) (w : World) (h : Byts w A n bs) (ho : Octs bs) (hn : 1 ≤ n) (hm : n ≤ 9223372036854775807) :
    Calls Try.prog 50 #[.slice A n c] w fun e w' => e = .returned (.int .i64 ((hd bs : Nat) : Int)) ∧ w = w' := by
  obtain ⟨ad, rfl, hc⟩ := h.2 (by omega)
  have hc0 : w.cell? ad = some (.int .u8 (bs.getD 0 0)) := by simpa [Addr.add] using hc 0 (by omega)
  have hp0 : 0 < n := by omega
  have b0 := ho.at_ 0
  have hb := and15 _ b0.1 b0.2
  have HT : Hid (((bs.getD 0 0).toNat % 16 * 4 : Nat) = hd bs) := (rfl : _ = _)
  have hk : (bs.getD 0 0).toNat % 16 ≤ 15 := by omega
  clear h ho hc b0
  generalize (bs.getD 0 0).toNat % 16 = k at *
  generalize bs.getD 0 0 = u at *
  go_enter Try.func50, Try.ntmps50
  go_wp2
  go_ret
  refine ⟨ret_int ?_, rfl⟩
  rw [← HT.out]
  omega

theorem or_word (u v : Int) (h0 : 0 ≤ u) (h1 : u ≤ 255) (hb0 : 0 ≤ v) (hb1 : v ≤ 255) : bits .or .i64 (u * 256) v = u * 256 + v := by
  obtain ⟨a, rfl⟩ := Int.eq_ofNat_of_zero_le h0
  obtain ⟨b, rfl⟩ := Int.eq_ofNat_of_zero_le hb0
  have := i64_or_nat (a * 256) b (by omega) (by omega)
  rw [nat_join 8 _ _ (by omega) (by omega)] at this
  rw [show ((a : Int) * 256) = ((a * 256 : Nat) : Int) by omega, this]
  omega

set_option maxHeartbeats 400000 in
theorem number_any (A : Option Addr) (n c : Nat) (bs : List Int) (w : World) (h : Byts w A n bs) (ho : Octs bs) (hn : 2 ≤ n) (hm : n ≤ 9223372036854775807) :
    Calls Try.prog 51 #[.slice A n c] w fun e w' => e = .returned (.int .i64 ((wd bs 0 : Nat) : Int)) ∧ w.drew = w' := by
  obtain ⟨ad, rfl, hc⟩ := h.2 (by omega)
  have hc0 : w.cell? ad = some (.int .u8 (bs.getD 0 0)) := by simpa [Addr.add] using hc 0 (by omega)
  have hc1 : w.cell? ⟨ad.block, ad.off + 1, none⟩ = some (.int .u8 (bs.getD 1 0)) := by simpa [Addr.add] using hc 1 (by omega)
  have hp0 : 0 < n := by omega
  have hp1 : 1 < n := by omega
  have b0 := ho.at_ 0
  have b1 := ho.at_ 1
  have HT : Hid (bs.getD 0 0 * 256 + bs.getD 1 0 = ((wd bs 0 : Nat) : Int)) := wd_int ho 0
  have HB := Lib.hid (or_word _ _ b0.1 b0.2 b1.1 b1.2)
  clear h ho hc
  generalize bs.getD 0 0 = u at *
  generalize bs.getD 1 0 = v at *
  go_enter Try.func51, Try.ntmps51
  go_wp2
  go_region
  go_wp2
  go_ret
  exact ⟨ret_int (HB.out.trans HT.out), rfl⟩

set_option maxHeartbeats 400000 in
theorem two_any (A : Option Addr) (n c : Nat) (bs : List Int) (x : Int) (p : Nat) (w : World) (hx : x = p) (h : Byts w A n bs) (ho : Octs bs) (hp : p + 2 ≤ n) (hn : n ≤ 9223372036854775807) :
    Calls Try.prog 36 #[.slice A n c, .int .i64 x] w fun e w' => e = .returned (.int .i64 ((wd bs p : Nat) : Int)) ∧ w.drew = w' := by
  subst hx
  obtain ⟨ad, rfl, hc⟩ := h.2 (by omega)
  have hc0 := hc p (by omega)
  have hc1 : w.cell? ⟨ad.block, ad.off + (p + 1), none⟩ = some (.int .u8 (bs.getD (p + 1) 0)) := by simpa [Addr.add] using hc (p + 1) (by omega)
  have hp0 : p < n := by omega
  have hp1 : p + 1 < n := by omega
  have b0 := ho.at_ p
  have b1 := ho.at_ (p + 1)
  have HT : Hid (bs.getD p 0 * 256 + bs.getD (p + 1) 0 = ((wd bs p : Nat) : Int)) := wd_int ho p
  clear h ho hc
  generalize bs.getD p 0 = u at *
  generalize bs.getD (p + 1) 0 = v at *
  go_enter Try.func36, Try.ntmps36
  go_wp2
  go_region
  go_wp2
  go_ret
  exact ⟨ret_int HT.out, rfl⟩

theorem run_upto {A : Option Addr} {n c k : Nat} (W : World) (hk : k ≤ c) :
    (Instr.slice 22 (.slice A n c) none (some (.int .i64 k)) none).run Try.prog W = .ok (.slice A k c) W := by
  have h := run_slice_h (P := Try.prog) (w := W) 22 A n c (by kernel_rfl) .i64 (k : Int) (by omega) (by omega)
  rw [h]
  simp [sliced, go_sem]
theorem run_from {A : Option Addr} {n c k : Nat} (W : World) (hk : k ≤ n) :
    (Instr.slice 22 (.slice A n c) (some (.int .i64 k)) none none).run Try.prog W = .ok (.slice (if c = k then A else A.map (·.add k)) (n - k) (c - k)) W := by
  have h := run_slice_l (P := Try.prog) (w := W) 22 A n c (by kernel_rfl) .i64 (k : Int) (by omega) (by omega)
  rw [h]
  simp [sliced, go_sem]

/-- The document's sum. -/
theorem carry_le {x : Nat} (h : x ≤ 65535) : carry x = x := if_pos h
theorem carry_gt {x : Nat} (h : 65535 < x) : carry x = x - 65535 := if_neg (by omega)

set_option maxHeartbeats 1000000 in
theorem refSum_any (A : Option Addr) (n c k : Nat) (bs : List Int) (w : World) (h : Byts w A n bs) (ho : Octs bs) (hn : n = 2 * k) (hm : n ≤ 1000000) :
    Calls Try.prog 37 #[.slice A n c] w fun e w' => e = .returned (.int .i64 ((sm bs k : Nat) : Int)) ∧ ∃ m, w' = w.drewN m := by
  have H := Lib.hid h
  have HO := Lib.hid ho
  have HN := Lib.hid hn
  clear h ho hn
  go_enter Try.func37, Try.ntmps37
  go_wp2_with fail
  go_loopw [3, 4] (fun x y w' => ∃ i p s : Nat, x = .int .i64 (s : Nat) ∧ y = .int .i64 (p : Nat) ∧ p = 2 * i ∧ i ≤ k ∧ s = sm bs i ∧ ∃ m, w' = w.drewN m) (fun _ y _ => n - (intOf y).toNat)
  case atStart => exact ⟨0, 0, 0, rfl, rfl, rfl, Nat.zero_le _, rfl, 0, rfl⟩
  case round =>
    obtain ⟨i, p, s, rfl, rfl, hp, hi, hs, m, rfl⟩ := hrel
    have HP := Lib.hid hp
    have HS := Lib.hid hs
    have hsb : s ≤ 65535 := by rw [hs]; exact sm_bd HO.out i
    have hpn : p ≤ n := by have := HN.out; omega
    clear hp hs
    by_cases hlt : i < k
    · have hlt2 : p + 2 ≤ n := by have := HN.out; have := HP.out; omega
      have hd : decide ((p : Int) + 1 < (n : Int)) = true := by simp; omega
      have HT := Lib.hid (two_any A n c bs p p (w.drewN m) rfl (H.out.below (below_drewN (Below.refl _ _) m)) HO.out hlt2 (by omega))
      have hwb := wd_bd HO.out p
      have HE : Hid (carry (s + wd bs p) = sm bs (i + 1)) := by rw [HS.out, HP.out]; exact (rfl : _ = _)
      generalize wd bs p = t at *
      by_cases hg : s + t ≤ 65535
      · have hd2 : decide (((s : Int) + (t : Int)) > 65535) = false := by simp; omega
        have HC := Lib.hid ((carry_le hg).symm.trans HE.out)
        go_wp2_with (go_at_call 36; (with_reducible refine HT.out.mono ?_); rintro e w1 ⟨rfl, rfl⟩)
        go_roundw
        case rel => exact ⟨i + 1, p + 2, s + t, by go_num, by go_num, by have := HP.out; omega, by omega, HC.out, m + 1, rfl⟩
        case measure => simp [intOf]; omega
      · have hd2 : decide (((s : Int) + (t : Int)) > 65535) = true := by simp; omega
        have HC := Lib.hid ((carry_gt (by omega)).symm.trans HE.out)
        go_wp2_with (go_at_call 36; (with_reducible refine HT.out.mono ?_); rintro e w1 ⟨rfl, rfl⟩)
        go_roundw
        case rel => exact ⟨i + 1, p + 2, s + t - 65535, by go_num, by go_num, by have := HP.out; omega, by omega, HC.out, m + 1, rfl⟩
        case measure => simp [intOf]; omega
    · have hd : decide ((p : Int) + 1 < (n : Int)) = false := by have := HN.out; have := HP.out; simp; omega
      obtain rfl : i = k := by omega
      go_wp2
      go_ret
      exact ⟨ret_int (by rw [HS.out]), m, rfl⟩
end Go.Proofs.Ytebpemknmcgamaa.inet
