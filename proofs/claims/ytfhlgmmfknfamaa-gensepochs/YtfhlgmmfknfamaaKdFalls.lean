/- Whither a flow falls, said of plain numbers; the contract of the program's fall. Conditions: those of each theorem. -/
import Derived.Test.YtfhlgmmfknfamaaKdProgKey
import Derived.Test.YtfhlgmmfknfamaaKdSummRefSum
namespace Go.Proofs.Ytfhlgmmfknfamaa.kd
open Go.RowKit

/-- Bytes as plain numbers. -/
def nats (bs : List Int) : List Nat := bs.map Int.toNat
theorem nats_length (bs : List Int) : (nats bs).length = bs.length := by simp [nats]
theorem nats_cel {bs : List Int} (ho : Octs bs) : summ.cel (nats bs) = cel bs := by
  unfold summ.cel nats cel
  rw [List.map_map]
  refine List.map_congr_left fun z hz => ?_
  have := ho z hz
  simp
  omega
theorem nats_octs {bs : List Int} (ho : Octs bs) : summ.Octs (nats bs) := fun b hb => by
  obtain ⟨z, hz, rfl⟩ := List.mem_map.1 hb
  have := ho z hz
  omega
/-- Bytes that lie there, in sip's words. -/
theorem Byts.vals {w : World} {A : Option Addr} {n : Nat} {bs : List Int} (h : Byts w A n bs) (ho : Octs bs) : summ.Vals w A n (summ.cel (nats bs)) := by
  rw [nats_cel ho]
  refine ⟨by rw [cel_length]; exact h.1, fun h0 => ?_⟩
  obtain ⟨ad, e, hc⟩ := h.2 h0
  refine ⟨ad, e, fun k v hk => ?_⟩
  exact h.news e k v hk

/-- Whither the bytes fall, on the level l. -/
def fl (k : List Nat) (bs : List Int) (l : Nat) (n : Int) : Int := if n < 1 then 0 else ((summ.sip k (nats bs ++ [l]) % n.toNat : Nat) : Int)
theorem fl_none {k : List Nat} {bs : List Int} {l : Nat} {n : Int} (h : n < 1) : fl k bs l n = 0 := if_pos h
theorem fl_bd {k : List Nat} {bs : List Int} {l : Nat} {n : Int} (h : 1 ≤ n) : 0 ≤ fl k bs l n ∧ fl k bs l n < n := by
  unfold fl
  rw [if_neg (by omega)]
  have := Nat.mod_lt (summ.sip k (nats bs ++ [l])) (show n.toNat > 0 by omega)
  omega
theorem fl_some {k : List Nat} {bs : List Int} {l : Nat} {n : Int} (h : 1 ≤ n) : (summ.sip k (nats bs ++ [l]) : Int).tmod n = fl k bs l n := by
  unfold fl
  rw [if_neg (by omega), Int.tmod_eq_emod_of_nonneg (Int.natCast_nonneg _), Int.natCast_emod, Int.toNat_of_nonneg (by omega)]

/-- Two parts, in a new list: bytes, and one byte more. -/
theorem parts_two {w : World} {A : Option Addr} {m c x : Nat} {l : List Nat} (h : summ.Vals w A m (summ.cel l)) : summ.PartsAt ((w.alloc (.cells #[.int .u8 ((x : Nat) : Int)] 5)).alloc (.cells #[.slice A m c, .slice (some ⟨w.heap.size, 0, none⟩) 1 1] 63)) (some ⟨w.heap.size + 1, 0, none⟩) 2 [l, [x]] := by
  have hn : l.length = m := by have := h.1; rw [summ.cel_length] at this; exact this
  subst hn
  have hz : (w.alloc (.cells #[.int .u8 ((x : Nat) : Int)] 5)).heap.size = w.heap.size + 1 := by simp
  have hB := summ.Blk.new (w.alloc (.cells #[.int .u8 ((x : Nat) : Int)] 5)) 63 [.slice A l.length c, .slice (some ⟨w.heap.size, 0, none⟩) 1 1]
  rw [hz] at hB
  refine ⟨rfl, fun i hi => ?_⟩
  rcases (by omega : i = 0 ∨ i = 1) with rfl | rfl
  · refine ⟨_, A, c, rfl, ?_, ?_⟩
    · rw [summ.Addr.add_at]
      exact hB.cell 0
    · exact h.below (((Below.refl _ _).alloc (Nat.le_refl _) _).alloc (by simp) _)
  · refine ⟨_, some ⟨w.heap.size, 0, none⟩, 1, rfl, ?_, ?_⟩
    · rw [summ.Addr.add_at]
      exact hB.cell 1
    · exact summ.Vals.of_blk ((summ.Blk.new w 5 (summ.cel [x])).alloc _) rfl
theorem small_two {l : List Nat} {x : Nat} (h : summ.Octs l) (hn : l.length ≤ 1000) (hx : x < 256) : summ.Small [l, [x]] := fun p hp => by
  rcases List.mem_cons.1 hp with rfl | hp
  · exact ⟨h, hn⟩
  · obtain rfl : p = [x] := by simpa using hp
    exact ⟨summ.Octs.one hx, by simp⟩
theorem u64_of {n : Int} (h : 0 ≤ n) (hm : n ≤ 9223372036854775807) : IntKind.u64.wrap n = n := by
  unfold IntKind.wrap
  simp [IntKind.signed, IntKind.bits]
  omega
theorem i64_of {n : Int} (h : 0 ≤ n) (hm : n ≤ 9223372036854775807) : IntKind.i64.wrap n = n := by
  unfold IntKind.wrap
  simp [IntKind.signed, IntKind.bits]
  omega

set_option maxRecDepth 100000 in
set_option maxHeartbeats 2000000 in
theorem fall_none (k : List Nat) (A : Option Addr) (m c x : Nat) (n : Int) (w : World) (hn : n < 1) :
    Calls Try.prog 34 #[.agg (summ.cel k).toArray, .slice A m c, .int .u8 ((x : Nat) : Int), .int .i64 n] w fun e w' => e = .returned (.int .i64 0) ∧ Below w.heap.size w w' := by
  have hd : decide (n < 1) = true := by simpa using hn
  have W1 : Hid (Below w.heap.size w (w.alloc (.cells (summ.cel k).toArray 22))) := (Below.refl _ w).alloc (Nat.le_refl _) _
  clear hn
  go_enter Try.func34, Try.ntmps34
  go_wp2
  go_ret
  exact ⟨rfl, W1.out⟩

set_option maxRecDepth 100000 in
set_option maxHeartbeats 2000000 in
theorem fall_some (k : List Nat) (A : Option Addr) (m c x : Nat) (bs : List Int) (n : Int) (w : World) (hk : summ.Octs k) (h16 : k.length = 16) (h : Byts w A m bs) (ho : Octs bs) (hm : m ≤ 1000) (hx : x < 256) (hn : 1 ≤ n) (hn2 : n ≤ 9223372036854775807) :
    Calls Try.prog 34 #[.agg (summ.cel k).toArray, .slice A m c, .int .u8 ((x : Nat) : Int), .int .i64 n] w fun e w' => e = .returned (.int .i64 (fl k bs x n)) ∧ Below w.heap.size w w' := by
  have hd : decide (n < 1) = false := by simp; omega
  have hn0 : n ≠ 0 := by omega
  have W1 : Hid (Below w.heap.size w (w.alloc (.cells (summ.cel k).toArray 22))) := (Below.refl _ w).alloc (Nat.le_refl _) _
  have B1 : Hid (summ.Blk (w.alloc (.cells (summ.cel k).toArray 22)) w.heap.size 22 (summ.cel k)) := summ.Blk.new w 22 _
  have F := Lib.hid (fl_bd (k := k) (bs := bs) (l := x) hn)
  have e1 : IntKind.u64.wrap n = n := u64_of (by omega) hn2
  have e2 : (summ.sip k (nats bs ++ [x]) : Int).tmod n = fl k bs x n := fl_some hn
  have e3 : IntKind.i64.wrap (fl k bs x n) = fl k bs x n := i64_of F.out.1 (by have := F.out.2; omega)
  have V1 : Hid (summ.Vals (w.alloc (.cells (summ.cel k).toArray 22)) A m (summ.cel (nats bs))) := (h.vals ho).below ((Below.refl _ w).alloc (Nat.le_refl _) _)
  have S1 : Hid (summ.Small [nats bs, [x]]) := small_two (nats_octs ho) (by rw [nats_length, h.1]; exact hm) hx
  have HK := Lib.hid hk
  have H16 := Lib.hid h16
  have EF : [nats bs, [x]].flatten = nats bs ++ [x] := by simp
  clear hk h16 h ho hm hn hn2 hx
  go_enter Try.func34, Try.ntmps34
  go_upto_region 3 with (fail)
  generalize (w.alloc (.cells (summ.cel k).toArray 22)) = w1 at *
  have P1 := Lib.hid (parts_two (c := c) (x := x) V1.out)
  go_wp2_with (first | (refine summ.wpList_key rfl (.tmp 4) rfl w.heap.size rfl k B1.out H16.out ?_) | (go_at_call 40; (with_reducible refine (summ.sum_is k _ 2 2 [nats bs, [x]] _ HK.out H16.out P1.out (by decide) S1.out).mono ?_); rintro e w2 ⟨rfl, hb⟩; rw [EF]; have V2 := Lib.hid hb; clear hb))
  go_ret
  exact ⟨rfl, W1.out.trans ((((Below.refl _ w1).alloc W1.out.size _).alloc (by have := W1.out.size; simp; omega) _).trans (V2.out.mono (by have := W1.out.size; simp; omega)))⟩

/-- Whatever number there are. -/
theorem fall_any (k : List Nat) (A : Option Addr) (m c x : Nat) (bs : List Int) (n : Int) (w : World) (hk : summ.Octs k) (h16 : k.length = 16) (h : Byts w A m bs) (ho : Octs bs) (hm : m ≤ 1000) (hx : x < 256) (hn : n ≤ 9223372036854775807) :
    Calls Try.prog 34 #[.agg (summ.cel k).toArray, .slice A m c, .int .u8 ((x : Nat) : Int), .int .i64 n] w fun e w' => e = .returned (.int .i64 (fl k bs x n)) ∧ Below w.heap.size w w' := by
  by_cases h1 : n < 1
  · rw [fl_none h1]
    exact fall_none k A m c x n w h1
  · exact fall_some k A m c x bs n w hk h16 h ho hm hx (by omega) hn
end Go.Proofs.Ytfhlgmmfknfamaa.kd
