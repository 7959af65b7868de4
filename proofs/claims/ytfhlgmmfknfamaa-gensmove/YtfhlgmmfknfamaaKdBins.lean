/- The bins of a flow as a list of numbers; the contract of the program's Bins. Conditions: those of each theorem. -/
import Derived.Test.YtfhlgmmfknfamaaKdBuckets
import Derived.Lib.MinMax
namespace Go.Proofs.Ytfhlgmmfknfamaa.kd
open Go.RowKit

/-- Numbers, as values. -/
def ints (zs : List Int) : List Value := zs.map (Value.int .i64)
theorem ints_length (zs : List Int) : (ints zs).length = zs.length := by simp [ints]
theorem ints_app (a b : List Int) : ints (a ++ b) = ints a ++ ints b := by simp [ints]
theorem ints_at {zs : List Int} {k : Nat} (h : k < zs.length) : (ints zs)[k]? = some (.int .i64 (zs.getD k 0)) := by
  simp [ints, List.getD, List.getElem?_eq_getElem h]
theorem ints_one (zs : List Int) : ∀ u ∈ ints zs, u.oneCell' = true := by
  intro u hu
  obtain ⟨z, _, rfl⟩ := List.mem_map.1 hu
  rfl
theorem info3 : (Try.prog.info? 3).map (fun i => (i.zero, i.size, i.bytes)) = some (some (.int .i64 0), 1, 8) := by kernel_rfl

/-- The bins of the first L levels. -/
def bns (k : List Nat) (bs : List Int) (n : Int) (L : Nat) : List Int := (List.range L).map fun l => fl k bs (l + 1) n
theorem bns_length (k : List Nat) (bs : List Int) (n : Int) (L : Nat) : (bns k bs n L).length = L := by simp [bns]
theorem bns_snoc (k : List Nat) (bs : List Int) (n : Int) (L : Nat) : bns k bs n L ++ [fl k bs (L + 1) n] = bns k bs n (L + 1) := by simp [bns, List.range_succ]
theorem bns_at {k : List Nat} {bs : List Int} {n : Int} {L j : Nat} (h : j < L) : (bns k bs n L).getD j 0 = fl k bs (j + 1) n := by
  simp [bns, List.getD_eq_getElem?_getD, h]
/-- How many levels there are. -/
def lvl (z : Int) : Nat := (min (max z 0) 4).toNat
theorem lvl_int (z : Int) : min (max z 0) 4 = ((lvl z : Nat) : Int) := by unfold lvl; omega
theorem lvl_le (z : Int) : lvl z ≤ 4 := by unfold lvl; omega
theorem lvl_lt {z : Int} {i : Nat} (h : i < 4) : (i < lvl z) ↔ ((i : Int) < z) := by unfold lvl; omega
/-- The first i of L are done. -/
def upTo (k : List Nat) (bs : List Int) (n : Int) (L i : Nat) : List Int := bns k bs n i ++ List.replicate (L - i) 0
theorem upTo_all (k : List Nat) (bs : List Int) (n : Int) (L : Nat) : upTo k bs n L L = bns k bs n L := by simp [upTo]
theorem upTo_length {k : List Nat} {bs : List Int} {n : Int} {L i : Nat} (h : i ≤ L) : (upTo k bs n L i).length = L := by simp [upTo, bns_length]; omega
theorem upTo_set {k : List Nat} {bs : List Int} {n : Int} {L i : Nat} (h : i < L) : (ints (upTo k bs n L i)).set i (.int .i64 (fl k bs (i + 1) n)) = ints (upTo k bs n L (i + 1)) := by
  unfold upTo
  rw [ints_app, ints_app, List.set_append_right _ _ (by rw [ints_length, bns_length]; omega), ints_length, bns_length, Nat.sub_self, show L - i = (L - (i + 1)) + 1 by omega, List.replicate_succ, ← bns_snoc, ints_app]
  simp [ints]
theorem upTo_cell {k : List Nat} {bs : List Int} {n : Int} {L i : Nat} (h : i < L) : (ints (upTo k bs n L i))[i]? = some (.int .i64 0) := by
  unfold upTo
  rw [ints_app, List.getElem?_append_right (by rw [ints_length, bns_length]; omega), ints_length, bns_length, Nat.sub_self, show L - i = (L - (i + 1)) + 1 by omega, List.replicate_succ]
  rfl
theorem made_ints (k : List Nat) (bs : List Int) (n : Int) (L : Nat) : madeCells #[Value.int .i64 0] L = (ints (upTo k bs n L 0)).toArray := by
  apply Array.ext'
  rw [toList_madeCells_one]
  simp [upTo, bns, ints]
/-- What a Bins leaves. -/
def BinsOut (w : World) (zs : List Int) (e : Ending) (w' : World) : Prop := ∃ A c, e = .returned (.slice A zs.length c) ∧ Below w.heap.size w w' ∧ summ.Vals w' A zs.length (ints zs)
/-- Where the loop stands. -/
structure BinsAt (w : World) (k : List Nat) (f : Flo) (n : Int) (L g : Nat) (A : Option Addr) (i : Nat) (W : World) : Prop where
  row : Blk W g 3 (ints (upTo k f.key n L i))
  two : Two w.heap.size (w.heap.size + 1) k f W
  key : Byts W A f.key.length f.key
  be : Below w.heap.size w W
theorem BinsAt.below {w : World} {k : List Nat} {f : Flo} {n : Int} {L g i : Nat} {A : Option Addr} {W W' : World} (h : BinsAt w k f n L g A i W) (hb : Below W.heap.size W W') : BinsAt w k f n L g A i W' :=
  ⟨kept h.row hb, h.two.below hb, h.key.below hb, h.be.trans (hb.mono h.be.size)⟩
theorem BinsAt.put {w : World} {k : List Nat} {f : Flo} {n : Int} {L g i : Nat} {A : Option Addr} {W : World} (h : BinsAt w k f n L g A i W) (hg : w.heap.size + 2 ≤ g) (hA : ∀ ad, A = some ad → ad.block ≠ g) (hi : i < L) : BinsAt w k f n L g A (i + 1) (W.setCell ⟨g, i, none⟩ (.int .i64 (fl k f.key (i + 1) n))) := by
  have hf : Far (only g) W (W.setCell ⟨g, i, none⟩ (.int .i64 (fl k f.key (i + 1) n))) := Far.set_ (S := only g) (p := ⟨g, i, none⟩) (Far.refl _ _) (fun _ => rfl) _
  refine ⟨?_, ⟨h.two.1.far hf (fun e => by unfold only at e; omega), h.two.2.far hf (fun e => by unfold only at e; omega)⟩, h.key.far hf (fun ad e => hA ad e), below_only h.be hf (by omega) h.be.size⟩
  have := h.row.set_ i (.int .i64 (fl k f.key (i + 1) n))
  rwa [upTo_set hi] at this

/-- The same, the byte's number told. -/
theorem fall_at (k : List Nat) (A : Option Addr) (m c x : Nat) (y : Int) (bs : List Int) (n : Int) (w : World) (hy : y = ((x : Nat) : Int)) (hk : summ.Octs k) (h16 : k.length = 16) (h : Byts w A m bs) (ho : Octs bs) (hm : m ≤ 1000) (hx : x < 256) (hn : n ≤ 9223372036854775807) :
    Calls Try.prog 34 #[.agg (summ.cel k).toArray, .slice A m c, .int .u8 y, .int .i64 n] w (NumOut w (fl k bs x n)) := by
  subst hy
  exact fall_any k A m c x bs n w hk h16 h ho hm hx hn

set_option maxRecDepth 100000 in
set_option maxHeartbeats 4000000 in
theorem progBins_any (k : List Nat) (f : Flo) (z n : Int) (w : World) (hk : summ.Octs k) (h16 : k.length = 16) (hf : f.Ok) (hn : n ≤ 9223372036854775807) :
    Calls Try.prog 29 #[.agg (summ.cel k).toArray, .agg f.cells.toArray, .int .i64 z, .int .i64 n] w (BinsOut w (bns k f.key n (lvl z))) := by
  have T1 : Hid (Two w.heap.size (w.heap.size + 1) k f ((w.alloc (.cells (summ.cel k).toArray 22)).alloc (.cells f.cells.toArray 45))) := Two.new w k f
  have V0 : Hid (Below w.heap.size w ((w.alloc (.cells (summ.cel k).toArray 22)).alloc (.cells f.cells.toArray 45))) := below_two w _ _
  have hsz : ((w.alloc (.cells (summ.cel k).toArray 22)).alloc (.cells f.cells.toArray 45)).heap.size = w.heap.size + 2 := by simp
  have hlv := lvl_int z
  have hl4 := lvl_le z
  generalize lvl z = L at *
  have hmk := fun W => run_make_row' (P := Try.prog) 47 3 (.int .i64 0) 8 Try.underlying47 info3 rfl .i64 .i64 L (by omega) (by omega) W
  rw [made_ints k f.key n L] at hmk
  have CK := Lib.hid (f.prog_key hf)
  have LF := Lib.hid hf.cells_length
  have LK := Lib.hid hf.key_length
  have OK := Lib.hid hf.key_octs
  have HK := Lib.hid hk
  have H16 := Lib.hid h16
  clear hf hk h16
  go_enter Try.func29, Try.ntmps29
  go_upto_region 1 with (fail)
  generalize ((w.alloc (.cells (summ.cel k).toArray 22)).alloc (.cells f.cells.toArray 45)) = w1 at *
  go_upto_region 2 with (fail)
  have T2 : Hid (Two w.heap.size (w.heap.size + 1) k f (w1.alloc (.cells (ints (upTo k f.key n L 0)).toArray 3))) := T1.out.below ((Below.refl _ _).alloc (Nat.le_refl _) _)
  have V2 : Hid (Below w.heap.size w (w1.alloc (.cells (ints (upTo k f.key n L 0)).toArray 3))) := V0.out.alloc V0.out.size _
  have R2 : Hid (Blk (w1.alloc (.cells (ints (upTo k f.key n L 0)).toArray 3)) w1.heap.size 3 (ints (upTo k f.key n L 0))) := Blk.new w1 3 _
  have hsz2 : (w1.alloc (.cells (ints (upTo k f.key n L 0)).toArray 3)).heap.size = w1.heap.size + 1 := by simp
  generalize (w1.alloc (.cells (ints (upTo k f.key n L 0)).toArray 3)) = w2 at *
  clear hmk hlv T1 V0
  have hg : w.heap.size + 2 ≤ w1.heap.size := by omega
  generalize w1.heap.size = g at *
  go_upto_region 3 with (first | (refine wpList_flo rfl (.tmp 5) rfl (w.heap.size + 1) rfl f T2.out.2 LF.out ?_) | (go_at_call 33; (with_reducible refine (CK.out _).mono ?_); rintro e w3 ⟨A, c, rfl, hb, hy⟩; have hA : Hid (∀ ad, A = some ad → ad.block ≠ g) := (fun ad e => by (have h1 := (hy.lt ad.block (by obtain ⟨A', c', e', _, _, _, e2⟩ := Byts.of_row hy; cases e'; rw [e2, e]; rfl)).1); omega); have B3 : Hid (BinsAt w k f n L g A 0 w3) := ⟨kept R2.out hb, T2.out.below hb, Byts.of_own hy, V2.out.trans (hb.mono V2.out.size)⟩; clear hb hy))
  clear T2 V2 R2 hsz2 CK
  rw [← hsz]
  clear hsz
  go_wp2_with fail
  go_loopw [11, 20] (fun _ y w' => ∃ i : Nat, y = .int .i64 (i : Nat) ∧ i ≤ L ∧ BinsAt w k f n L g A i w') (fun _ y _ => L - (intOf y).toNat)
  case atStart => exact ⟨0, rfl, by omega, B3.out⟩
  case round =>
    obtain ⟨i, rfl, hi, hr⟩ := hrel
    clear B3
    have HR := Lib.hid hr
    clear hr
    by_cases hlt : i < L
    · have hd : decide ((i : Int) < (L : Int)) = true := by simp; omega
      have hd2 : decide (i < L) = true := by simpa using hlt
      have e1 : IntKind.u8.wrap (1 + (i : Int)) = ((i + 1 : Nat) : Int) := by
        unfold IntKind.wrap
        simp [IntKind.signed, IntKind.bits]
        omega
      go_wp2_with (first | (refine wpList_key rfl (.tmp 4) rfl w.heap.size rfl k HR.out.two.1 H16.out ?_) | (go_at_call 34; (with_reducible refine (fall_at k A f.key.length c (i + 1) ((i : Int) + 1) f.key n _ (by omega) HK.out H16.out HR.out.key OK.out (by have := LK.out; omega) (by omega) hn).mono ?_); rintro e w4 ⟨rfl, hb⟩; have H4 := Lib.hid (HR.out.below hb); have c4 : w4.cell? ⟨g, i, none⟩ = some (.int .i64 0) := (H4.out.row.cell i).trans (upTo_cell hlt); have f4 := H4.out.row.frozen i; clear hb))
      go_roundw
      case rel => exact ⟨i + 1, by go_num, by omega, H4.out.put hg hA.out hlt⟩
      case measure => simp [intOf]; omega
    · have hd : decide ((i : Int) < (L : Int)) = false := by simp; omega
      have hd2 : decide (i < L) = false := by simpa using hlt
      have HL : Hid (i = L) := (by omega : i = L)
      go_wp2
      go_ret
      have h1 := HR.out.row
      rw [HL.out, upTo_all] at h1
      have hl := bns_length k f.key n L
      refine ⟨some ⟨g, 0, none⟩, L, by rw [hl]; rfl, HR.out.be, ?_⟩
      rw [hl]
      exact summ.Vals.of_blk h1 (by rw [ints_length, hl])
end Go.Proofs.Ytfhlgmmfknfamaa.kd
