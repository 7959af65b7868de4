/- The contracts of inet6's leaves (number, place, copied, tellsHead, moreBytes); cuts of a slice. Conditions: those of each theorem. -/
import Derived.Test.YtebpemknmcgamaaRows
import Derived.Test.YtebpemknmcgamaaSixPlain
import Derived.WalkKit
import Derived.WalkSpells
import Derived.WalkLawsBesides
import Derived.ProofKit
import Derived.OpenShut
import Derived.BigQuiet
import Derived.Deep.OwnRows
import Derived.Laws.BitsAllLaws
namespace Go.Proofs.Ytebpemknmcgamaa.six
open Go.RowKit

theorem ret_int {k : IntKind} {a b : Int} (h : a = b) : Ending.returned (.int k a) = .returned (.int k b) := by rw [h]
theorem info5 : (Try.prog.info? 5).map (fun i => (i.zero, i.size, i.bytes)) = some (some (.int .u8 0), 1, 1) := by kernel_rfl
theorem size5 : (Try.prog.info? 5).map (·.size) = some 1 := by kernel_rfl
theorem below_drewN {B : Nat} {w w' : World} (h : Below B w w') (k : Nat) : Below B w (w'.drewN k) := ⟨h.os, h.tape, h.output, h.size, h.block⟩

set_option maxHeartbeats 400000 in
theorem copied_any (A : Option Addr) (n c : Nat) (bs : List Int) (w : World) (hn : n ≤ 1000000) (h : Byts w A n bs) :
    Calls Try.prog 56 #[.slice A n c] w fun e w' => e = .returned (.slice (some ⟨w.heap.size, 0, none⟩) n n) ∧ w.alloc (.cells (cel bs).toArray 5) = w' := by
  have hmk := fun W => run_make_row' (P := Try.prog) 22 5 (.int .u8 0) 1 Try.underlying22 info5 rfl .i64 .i64 n (by omega) (by omega) W
  have hcp := fun ty => run_copied (P := Try.prog) w 22 5 ty A n c bs Try.underlying22 size5 h
  have H := Lib.hid h
  clear h
  go_enter Try.func56, Try.ntmps56
  go_wp2
  go_ret
  exact ⟨rfl, rfl⟩

theorem i64_or_nat (a b : Nat) (ha : a < 4294967296) (hb : b < 4294967296) : bits .or .i64 (a : Int) (b : Int) = ((a ||| b : Nat) : Int) := by
  have hx : a ||| b < 2 ^ 32 := Nat.or_lt_two_pow (by omega) (by omega)
  show IntKind.i64.wrap ((BitVec.ofInt 64 (a : Int) ||| BitVec.ofInt 64 (b : Int)).toNat : Int) = _
  rw [BitVec.toNat_or, ofInt_u64 a (by omega), ofInt_u64 b (by omega), IntKind.wrap_i64]
  omega
theorem or_word (u v : Int) (h0 : 0 ≤ u) (h1 : u ≤ 255) (hb0 : 0 ≤ v) (hb1 : v ≤ 255) : bits .or .i64 (u * 256) v = u * 256 + v := by
  obtain ⟨a, rfl⟩ := Int.eq_ofNat_of_zero_le h0
  obtain ⟨b, rfl⟩ := Int.eq_ofNat_of_zero_le hb0
  have := i64_or_nat (a * 256) b (by omega) (by omega)
  rw [nat_join 8 _ _ (by omega) (by omega)] at this
  rw [show ((a : Int) * 256) = ((a * 256 : Nat) : Int) by omega, this]
  omega

set_option maxHeartbeats 400000 in
theorem number_any (A : Option Addr) (n c : Nat) (bs : List Int) (w : World) (h : Byts w A n bs) (ho : Octs bs) (hn : 2 ≤ n) (hm : n ≤ 9223372036854775807) :
    Calls Try.prog 47 #[.slice A n c] w fun e w' => e = .returned (.int .i64 ((wd bs 0 : Nat) : Int)) ∧ w.drew = w' := by
  obtain ⟨ad, rfl, hc⟩ := h.2 (by omega)
  have hc0 : w.cell? ad = some (.int .u8 (bs.getD 0 0)) := by simpa [Addr.add] using hc 0 (by omega)
  have hc1 : w.cell? ⟨ad.block, ad.off + 1, none⟩ = some (.int .u8 (bs.getD 1 0)) := by simpa [Addr.add] using hc 1 (by omega)
  have hp0 : 0 < n := by omega
  have hp1 : 1 < n := by omega
  have b0 := ho.at_ 0
  have b1 := ho.at_ 1
  have HT : Hid (bs.getD 0 0 * 256 + bs.getD 1 0 = ((wd bs 0 : Nat) : Int)) := wd_int ho 0
  have HB := Lib.hid (or_word _ _ b0.1 b0.2 b1.1 b1.2)
  clear h ho hc
  generalize bs.getD 0 0 = u at *
  generalize bs.getD 1 0 = v at *
  go_enter Try.func47, Try.ntmps47
  go_wp2
  go_region
  go_wp2
  go_ret
  exact ⟨ret_int (HB.out.trans HT.out), rfl⟩

theorem run_upto {A : Option Addr} {n c k : Nat} (W : World) (hk : k ≤ c) :
    (Instr.slice 22 (.slice A n c) none (some (.int .i64 k)) none).run Try.prog W = .ok (.slice A k c) W := by
  have h := run_slice_h (P := Try.prog) (w := W) 22 A n c (by kernel_rfl) .i64 (k : Int) (by omega) (by omega)
  rw [h]
  simp [sliced, go_sem]
theorem run_from {A : Option Addr} {n c k : Nat} (W : World) (hk : k ≤ n) :
    (Instr.slice 22 (.slice A n c) (some (.int .i64 k)) none none).run Try.prog W = .ok (.slice (if c = k then A else A.map (·.add k)) (n - k) (c - k)) W := by
  have h := run_slice_l (P := Try.prog) (w := W) 22 A n c (by kernel_rfl) .i64 (k : Int) (by omega) (by omega)
  rw [h]
  simp [sliced, go_sem]

/-- What stands from p on, as a slice of its own. -/
theorem from_z {A : Option Addr} {n c p : Nat} {bs : List Int} (hp : p ≤ n) (hc : n ≤ c) : ∃ Z, (∀ W, (Instr.slice 22 (.slice A n c) (some (.int .i64 p)) none none).run Try.prog W = .ok (.slice Z (n - p) (c - p)) W) ∧
    ∀ w, Byts w A n bs → Byts w Z (n - p) (bs.drop p) :=
  ⟨_, fun W => run_from W hp, fun _ h => h.from_ hp hc⟩

/-- From p up to q, as a slice of its own. -/
theorem mid_z {A : Option Addr} {n c p q : Nat} {bs : List Int} (hp : p ≤ q) (hq : q ≤ n) (hc : n ≤ c) : ∃ Z, (∀ W, (Instr.slice 22 (.slice A n c) (some (.int .i64 (p : Nat))) (some (.int .i64 (q : Nat))) none).run Try.prog W = .ok (.slice Z (q - p) (c - p)) W) ∧
    ∀ w, Byts w A n bs → Byts w Z (q - p) ((bs.take q).drop p) := by
  refine ⟨if c = p then A else A.map (·.add p), fun W => ?_, fun w h => (h.upto hq).from_ hp (by omega)⟩
  have h := run_slice_lh (P := Try.prog) (w := W) 22 A n c (by kernel_rfl) .i64 .i64 (p : Int) (q : Int) (by omega) (by omega) (by omega)
  rw [h]
  simp [sliced, go_sem]

set_option maxHeartbeats 400000 in
theorem tells_any (p : Int) (w : World) (h0 : 0 ≤ p) (h1 : p ≤ 255) : Calls Try.prog 53 #[.int .u8 p] w fun e w' => e = .returned (.bool (tells p)) ∧ w = w' := by
  by_cases e0 : p = 0
  · subst e0
    go_enter Try.func53, Try.ntmps53
    go_wp2
    go_ret
    exact ⟨rfl, rfl⟩
  · by_cases e1 : p = 43
    · subst e1
      go_enter Try.func53, Try.ntmps53
      go_wp2
      go_ret
      exact ⟨rfl, rfl⟩
    · by_cases e2 : p = 44
      · subst e2
        go_enter Try.func53, Try.ntmps53
        go_wp2
        go_ret
        exact ⟨rfl, rfl⟩
      · by_cases e3 : p = 60
        · subst e3
          go_enter Try.func53, Try.ntmps53
          go_wp2
          go_ret
          exact ⟨rfl, rfl⟩
        · have d0 : (p == 0) = false := by simpa using e0
          have d1 : (p == 43) = false := by simpa using e1
          have d2 : (p == 44) = false := by simpa using e2
          have d3 : (p == 60) = false := by simpa using e3
          have HT : Hid (tells p = false) := by unfold tells; show _ = _; simp [d0, d1, d2, d3]
          go_enter Try.func53, Try.ntmps53
          go_wp2
          go_ret
          exact ⟨by rw [HT.out]; rfl, rfl⟩

set_option maxHeartbeats 400000 in
theorem more_any (p : Int) (A : Option Addr) (n c : Nat) (ls : List Int) (w : World) (h : Byts w A n ls) (ho : Octs ls) (hm : n ≤ 9223372036854775807) (h0 : 0 ≤ p) (h1 : p ≤ 255) :
    Calls Try.prog 54 #[.int .u8 p, .slice A n c] w fun e w' => e = .returned (.int .i64 ((size_ p ls : Nat) : Int)) ∧ w = w' := by
  have hl := h.1
  by_cases e2 : p = 44
  · have HS : Hid (size_ p ls = 8) := by unfold size_; rw [if_pos (.inl e2)]; exact (rfl : _ = _)
    subst e2
    clear h ho
    go_enter Try.func54, Try.ntmps54
    go_wp2
    go_ret
    exact ⟨by rw [HS.out]; rfl, rfl⟩
  · have d2 : (p == 44) = false := by simpa using e2
    by_cases h8 : n < 8
    · have HS : Hid (size_ p ls = 8) := by unfold size_; rw [if_pos (.inr (by omega))]; exact (rfl : _ = _)
      clear h ho
      go_enter Try.func54, Try.ntmps54
      go_wp2
      go_ret
      exact ⟨by rw [HS.out]; rfl, rfl⟩
    · have HS : Hid (size_ p ls = ((ls.getD 1 0).toNat + 1) * 8) := by unfold size_; rw [if_neg (by omega)]; exact (rfl : _ = _)
      obtain ⟨ad, rfl, hc⟩ := h.2 (by omega)
      have hc1 : w.cell? ⟨ad.block, ad.off + 1, none⟩ = some (.int .u8 (ls.getD 1 0)) := by simpa [Addr.add] using hc 1 (by omega)
      have hp1 : 1 < n := by omega
      have b1 := ho.at_ 1
      clear h ho hc
      generalize ls.getD 1 0 = u at *
      go_enter Try.func54, Try.ntmps54
      go_wp2
      go_ret
      exact ⟨ret_int (by rw [HS.out]; omega), rfl⟩

set_option maxHeartbeats 400000 in
theorem place_any (A : Option Addr) (n c : Nat) (ls : List Int) (w : World) (h : Byts w A n ls) (ho : Octs ls) (hn : 8 ≤ n) (hm : n ≤ 9223372036854775807) (hc : n ≤ c) :
    Calls Try.prog 55 #[.slice A n c] w fun e w' => e = .returned (.int .i64 ((wd ls 2 / 8 : Nat) : Int)) ∧ w.drew = w' := by
  obtain ⟨Z, hcut, hz⟩ := from_z (A := A) (bs := ls) (show 2 ≤ n by omega) hc
  have hcut2 : ∀ W, (Instr.slice 22 (.slice A n c) (some (.int .i64 2)) none none).run Try.prog W = .ok (.slice Z (n - 2) (c - 2)) W := hcut
  have HT := Lib.hid (number_any Z (n - 2) (c - 2) (ls.drop 2) w (hz _ h) (ho.drop 2) (by omega) (by omega))
  rw [wd_drop, Nat.add_zero] at HT
  have hwb := wd_bd ho 2
  clear hcut hz h ho
  generalize wd ls 2 = t at *
  go_enter Try.func55, Try.ntmps55
  go_wp2_with (go_at_call 47; (with_reducible refine HT.out.mono ?_); rintro e w1 ⟨rfl, rfl⟩)
  go_ret
  exact ⟨ret_int (by omega), rfl⟩
end Go.Proofs.Ytebpemknmcgamaa.six
