/- The walk of the law NumSums: for any slice of numbers and any place it returns true and turns nothing that was there. -/
import Derived.Test.YtlmdioiaclfijaaAppends
import Derived.Test.YtlmdioiaclfijaaRefs
import Derived.Deep.RegionHeld3
namespace Go.Proofs.Ytlmdioiaclfijaa
open Go.RowKit

set_option maxHeartbeats 400000 in
theorem sums_far (A : Option Addr) (n c : Nat) (a1 : Int) (w : World) (hn : 100 < n) (hm : n ≤ 9223372036854775807) :
    Calls Try.prog 4 #[.slice A n c, .int .u8 a1] w fun e w' => e = .returned (.bool true) ∧ Below w.heap.size w w' := by
  go_enter Try.func4, Try.ntmps4
  go_wp2_with fail
  refine (awake_below _).mono ?_
  rintro e w1 ⟨rfl, hb⟩
  have HB := Lib.hid hb
  clear hb
  go_wp2_with fail
  refine (awake_below _).mono ?_
  rintro e w2 ⟨rfl, hb⟩
  have HC := Lib.hid hb
  clear hb
  go_wp2
  go_ret
  exact ⟨rfl, HB.out.trans (HC.out.mono HB.out.size)⟩

/-- Add, told by its sum. -/
theorem add_is (s : Int) (A : Option Addr) (n c : Nat) (zs : List Int) (w : World) (hn : n ≤ 9223372036854775807) (h : Ints w A n zs) (hs : sumF 0 zs = s) :
    Calls Try.prog 11 #[.slice A n c] w fun e w' => e = .returned (.int .i64 s) ∧ w = w' := by
  subst hs
  exact add_any A n c zs w hn h

theorem run_cut {A : Option Addr} {n c q : Nat} (W : World) (hq : q ≤ n) :
    (Instr.slice 27 (.slice A n c) (some (.int .i64 q)) none none).run Try.prog W = .ok (.slice (if c = q then A else A.map (·.add q)) (n - q) (c - q)) W := by
  have h := run_slice_l (P := Try.prog) (w := W) 27 A n c (by kernel_rfl) .i64 (q : Int) (by omega) (by omega)
  rw [h]
  simp [sliced, go_sem]

set_option maxHeartbeats 1000000 in
theorem sums_near (A : Option Addr) (n c m : Nat) (zs : List Int) (w : World) (hn : n ≤ 100) (hc : n ≤ c) (hA : A = none → c = 0) (h : Ints w A n zs) (hm : m ≤ 255) :
    Calls Try.prog 4 #[.slice A n c, .int .u8 m] w fun e w' => e = .returned (.bool true) ∧ Below w.heap.size w w' := by
  have H := Lib.hid h
  clear h
  have HN := Lib.hid hA
  clear hA
  have hq : m % (n + 1) ≤ n := by have := Nat.mod_lt m (show n + 1 > 0 by omega); omega
  have HQ : Hid ((m : Int) % ((n : Int) + 1) = ((m % (n + 1) : Nat) : Int)) := by show _ = _; simp
  go_enter Try.func4, Try.ntmps4
  go_wp2_with (go_at_call 8; (with_reducible refine (awake_below _).mono ?_); rintro e w1 ⟨rfl, hb⟩; have HB := Lib.hid hb; clear hb)
  rw [HQ.out]
  generalize m % (n + 1) = q at *
  have hqc : q ≤ c := by omega
  have hw1 : w.heap.size ≤ w1.heap.size := HB.out.size
  have HB1 : Hid (Below w.heap.size w (w1.alloc (.cells #[] 2)).drew) := (HB.out.alloc hw1 _).drew
  have HS1 : Hid (w.heap.size ≤ (w1.alloc (.cells #[] 2)).drew.heap.size) := HB1.out.size
  have HO1 : Hid ((w1.alloc (.cells #[] 2)).drew.ownsRow w.heap.size 2 1 (.slice (some ⟨w1.heap.size, 0, none⟩) 0 0) 0 (([] : List Int).map (Value.int .i64))) := World.ownsRow_made w1 #[] 0 hw1 (by decide) rfl
  have hsl := fun W => run_cut (A := A) (q := q) (n := n) (c := c) W hq
  have HNb := Lib.hid (cut_none (q := q) HN.out)
  have HIb := Lib.hid (H.out.from_ hq hc)
  generalize (if c = q then A else A.map (·.add q)) = Z at *
  have HI1 : Hid (Ints (w1.alloc (.cells #[] 2)).drew Z (n - q) (zs.drop q)) := HIb.out.below HB1.out
  have HK : Hid (∀ w2, (w1.alloc (.cells #[] 2)).drew.grownBy w2 (some w1.heap.size) → Ints w2 A q (zs.take q) ∧ Below w.heap.size w w2) := by
    intro w2 hg
    have hb : Below w.heap.size w w2 := HB1.out.grown hg HS1.out (fun k e => by cases e; exact hw1)
    exact ⟨(H.out.upto hq).below hb, hb⟩
  go_region_law (first | (refine step_append_ints (by rfl) (.tmp 22) (.tmp 25) (by rfl) w.heap.size _ 0 [] (by rfl) (by exact HO1.out) _ (n - q) _ (zs.drop q) (by rfl) (by exact HI1.out) (by exact HNb.out) (by omega) (by exact HS1.out) ?_; intro v2 w2 hown2 hgrow2; have HO2 := Lib.hid hown2; have HG2 := Lib.hid hgrow2; clear hown2 hgrow2) | (refine step_append_ints (by rfl) (.tmp 26) (.tmp 29) (by rfl) w.heap.size _ (0 + (n - q)) ([] ++ zs.drop q) (by rfl) (by exact HO2.out) _ q _ (zs.take q) (by rfl) (by exact (HK.out _ HG2.out).1) (by exact HN.out) (by omega) (by exact (HK.out _ HG2.out).2.size) ?_; intro v3 w3 hown3 hgrow3; have HO3 := Lib.hid hown3; have HG3 := Lib.hid hgrow3; clear hown3 hgrow3))
  all_goals
    have hb3 : Below w.heap.size w w3 := (HK.out _ HG2.out).2.grown HG3.out (HK.out _ HG2.out).2.size (fun k e => (HO2.out.lt k e).1)
    have HB3 := Lib.hid hb3
    have h3 : w3.ownsRow w.heap.size 2 1 v3 n ((zs.drop q ++ zs.take q).map (Value.int .i64)) := by
      have := HO3.out
      rwa [show 0 + (n - q) + q = n by omega, List.nil_append] at this
    obtain ⟨A3, c3, rfl, hi3⟩ := ints_of_own h3
    have HI3 := Lib.hid hi3
    have HL3 := Lib.hid (H.out.below hb3)
    have HT3 := Lib.hid ((H.out.upto hq).below hb3)
    have HD3 := Lib.hid (HIb.out.below hb3)
    obtain ⟨S, hS⟩ : ∃ S, sumF 0 zs = S := ⟨_, rfl⟩
    obtain ⟨x, hx⟩ : ∃ x, sumF 0 (zs.take q) = x := ⟨_, rfl⟩
    obtain ⟨y, hy⟩ : ∃ y, sumF 0 (zs.drop q) = y := ⟨_, rfl⟩
    have HS0 := Lib.hid hS
    have HSx := Lib.hid hx
    have HSy := Lib.hid hy
    have HSr := Lib.hid ((sumF_rot zs q).trans hS)
    have HSp : Hid (sumF 0 [x, y] = S) := by rw [← hx, ← hy, ← hS]; exact sumF_parts zs q
    clear hb3 hi3 h3 hS hx hy HK HI1 HO1 HS1 HB1 HO3 HO2
    go_wp2_with (go_at_call 18; (with_reducible refine (rsum_any _ _ _ _ _ (by omega) HL3.out).mono ?_); rintro e w' ⟨rfl, rfl⟩; rw [HS0.out])
  all_goals
    go_region_held3 (fun _ => True) (trivial) (first | (go_at_call_of 11 (Value.slice A n c); (refine (add_is S _ _ _ zs _ (by omega) (by exact HL3.out) HS0.out).mono ?_); rintro e w' ⟨rfl, rfl⟩) | (go_at_call_of 11 (Value.slice A3 n c3); (refine (add_is S _ _ _ _ _ (by omega) (by exact HI3.out) HSr.out).mono ?_); rintro e w' ⟨rfl, rfl⟩) | (go_at_call_of 11 (Value.slice A q c); (refine (add_is x _ _ _ _ _ (by omega) (by exact HT3.out) HSx.out).mono ?_); rintro e w' ⟨rfl, rfl⟩) | (go_at_call_of 11 (Value.slice Z (n - q) (c - q)); (refine (add_is y _ _ _ _ _ (by omega) (by exact HD3.out) HSy.out).mono ?_); rintro e w' ⟨rfl, rfl⟩) | (go_at_call 11; (refine (add_is S _ _ _ [x, y] _ (by omega) (by exact ints_two w3 x y 2) HSp.out).mono ?_); rintro e w' ⟨rfl, rfl⟩))
  all_goals
    go_wp2
    go_ret
    exact ⟨rfl, by repeat (first | exact HB3.out | exact HB3.out.size | apply Below.drew | apply Below.alloc)⟩
end Go.Proofs.Ytlmdioiaclfijaa
