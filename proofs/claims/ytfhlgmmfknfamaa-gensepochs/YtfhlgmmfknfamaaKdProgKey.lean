/- The contract of the program's Key. Conditions: those of each theorem. -/
import Derived.Test.YtfhlgmmfknfamaaKdRefKey
import Derived.Test.YtfhlgmmfknfamaaKdOuts
namespace Go.Proofs.Ytfhlgmmfknfamaa.kd
open Go.RowKit

theorem Byts.of_range {w : World} {g o n : Nat} {s : List Int} (h : w.rangeAt g o (cel s)) (hl : s.length = n) : Byts w (some ⟨g, o, none⟩) n s := by
  refine ⟨hl, fun _ => ⟨_, rfl, fun k hk => ?_⟩⟩
  rw [Addr.add_at]
  exact h k _ (cel_at s k (by omega))
theorem OutAt.from_ {w : World} {base g k : Nat} {r : Option Nat} {bs : List Int} (h : OutAt w base g r bs) (hr : r = some k) : base ≤ k := by
  obtain ⟨A, c, _, ho, he⟩ := h
  rcases ho.2 with ⟨e, _⟩ | ⟨g, cap, cur, e, hb, _⟩
  · rw [← he, e] at hr
    cases hr
  · rw [← he, e] at hr
    simp [Value.ownBlock] at hr
    omega
/-- The Out of a Key under way: the flow stands, and all that is older. -/
def KeyAt (w W : World) (F : List Value) (bs : List Int) : Prop :=
  ∃ r, OutAt W (w.heap.size + 1) (w.heap.size + 1) r bs ∧ Blk W w.heap.size 45 F ∧ Below w.heap.size w W
theorem KeyAt.put {w W W' : World} {F : List Value} {bs cs : List Int} {r : Option Nat} (h1 : OutAt W (w.heap.size + 1) (w.heap.size + 1) r bs) (h2 : Blk W w.heap.size 45 F) (h3 : Below w.heap.size w W) (h : OutPost W (w.heap.size + 1) (w.heap.size + 1) r cs W') : KeyAt w W' F cs := by
  obtain ⟨r', ho, hf, _⟩ := h
  have hn : ∀ k, k ≤ w.heap.size → ¬ outS (w.heap.size + 1) r k := fun k hk e => by
    rcases e with e | e
    · omega
    · have := h1.from_ e
      omega
  exact ⟨r', ho, h2.far hf (hn _ (Nat.le_refl _)), h3.trans (hf.below h3.size (fun k hk => hn k (by omega)))⟩
section
variable (w W : World) (F : List Value) (bs : List Int)
theorem key8 (x : Int) (h : KeyAt w W F bs) (hn : bs.length ≤ 1000) : Calls Try.prog 36 #[.pointer (some ⟨w.heap.size + 1, 0, none⟩), .int .u8 x] W fun e W' => e = .returned (.tuple #[]) ∧ KeyAt w W' F (bs ++ [x]) := by
  obtain ⟨r, h1, h2, h3⟩ := h
  refine (outU8_any _ _ r bs x W h1 (by omega) (by have := h2.lt; omega)).mono ?_
  rintro e W' ⟨rfl, h⟩
  exact ⟨rfl, KeyAt.put h1 h2 h3 h⟩
theorem key16 (a : Nat) (h : KeyAt w W F bs) (hn : bs.length ≤ 1000) (ha : a ≤ 65535) : Calls Try.prog 38 #[.pointer (some ⟨w.heap.size + 1, 0, none⟩), .int .u16 ((a : Nat) : Int)] W fun e W' => e = .returned (.tuple #[]) ∧ KeyAt w W' F (bs ++ [((a / 256 : Nat) : Int), ((a % 256 : Nat) : Int)]) := by
  obtain ⟨r, h1, h2, h3⟩ := h
  refine (outU16_any _ _ r bs a W h1 (by omega) (by have := h2.lt; omega) (by omega) (by omega)).mono ?_
  rintro e W' ⟨rfl, h⟩
  have e : numB (a : Int).toNat 2 = [((a / 256 : Nat) : Int), ((a % 256 : Nat) : Int)] := by simp [numB]; omega
  rw [e] at h
  exact ⟨rfl, KeyAt.put h1 h2 h3 h⟩
theorem keyRaw (o n c : Nat) (s : List Int) (h : KeyAt w W F bs) (hn : bs.length ≤ 1000) (hc : n ≤ 1000) (hs : ∀ V, Blk V w.heap.size 45 F → Byts V (some ⟨w.heap.size, o, none⟩) n s) : Calls Try.prog 37 #[.pointer (some ⟨w.heap.size + 1, 0, none⟩), .slice (some ⟨w.heap.size, o, none⟩) n c] W fun e W' => e = .returned (.tuple #[]) ∧ KeyAt w W' F (bs ++ s) := by
  obtain ⟨r, h1, h2, h3⟩ := h
  refine (outRaw_any _ _ r bs s _ n c W h1 (by omega) (by omega) (by have := h2.lt; omega) (hs W h2)).mono ?_
  rintro e W' ⟨rfl, h⟩
  exact ⟨rfl, KeyAt.put h1 h2 h3 h⟩
theorem keyAll (h : KeyAt w W F bs) (hn : bs.length ≤ 1000) : Calls Try.prog 39 #[.pointer (some ⟨w.heap.size + 1, 0, none⟩)] W (KeyOut w bs) := by
  obtain ⟨r, h1, h2, h3⟩ := h
  refine (outBytes_any _ _ r bs W h1 (by omega)).mono ?_
  rintro e W' ⟨rfl, rfl⟩
  exact ⟨_, _, rfl, h3.alloc h3.size _, own_blk (Blk.new W 5 (cel bs)) rfl (by omega) h3.size⟩
end

set_option maxRecDepth 100000 in
set_option maxHeartbeats 2000000 in
theorem progKey_false (p : Int) (s d : List Int) (a b : Nat) (w : World) (hs : Sixteen s) (hd : Sixteen d) (ha : a ≤ 65535) (hb : b ≤ 65535) :
    Calls Try.prog 33 #[.agg (flo false p s d a b).toArray] w (KeyOut w (key false p s d a b)) := by
  have L1 : Hid (Blk ((w.alloc (.cells (flo false p s d a b).toArray 45)).alloc (.cells #[.slice none 0 0] 68)) w.heap.size 45 (flo false p s d a b)) := (Blk.new w 45 _).alloc _
  have K0 : Hid (KeyAt w ((w.alloc (.cells (flo false p s d a b).toArray 45)).alloc (.cells #[.slice none 0 0] 68)) (flo false p s d a b) []) := by
    refine ⟨none, ⟨none, 0, ?_, ⟨rfl, .inl ⟨rfl, rfl⟩⟩, rfl⟩, L1.out, ((Below.refl _ w).alloc (Nat.le_refl _) _).alloc (by simp) _⟩
    have := Blk.new (w.alloc (.cells (flo false p s d a b).toArray 45)) 68 [.slice none 0 0]
    rwa [show (w.alloc (.cells (flo false p s d a b).toArray 45)).heap.size = w.heap.size + 1 by simp] at this
  have hk0 : (w.alloc (.cells (flo false p s d a b).toArray 45)).cell? ⟨w.heap.size, 0, none⟩ = some (.bool false) := ((Blk.new w 45 (flo false p s d a b)).cell 0).trans flo_0
  have HS := Lib.hid hs
  have HD := Lib.hid hd
  have B1 : Hid (∀ V, Blk V w.heap.size 45 (flo false p s d a b) → Byts V (some ⟨w.heap.size, 2, none⟩) 4 (s.take 4)) := fun V hV => (Byts.of_range (flo_src hV) HS.out).upto (by omega)
  have B2 : Hid (∀ V, Blk V w.heap.size 45 (flo false p s d a b) → Byts V (some ⟨w.heap.size, 18, none⟩) 4 (d.take 4)) := fun V hV => (Byts.of_range (flo_dst HS.out hV) HD.out).upto (by omega)
  have t1 : (s.take 4).length = 4 := by have := HS.out; unfold Sixteen at this; simp; omega
  have t2 : (d.take 4).length = 4 := by have := HD.out; unfold Sixteen at this; simp; omega
  have T1 := Lib.hid t1
  have T2 := Lib.hid t2
  clear hs hd t1 t2 L1
  go_enter Try.func33, Try.ntmps33
  go_upto_region 5 with (fail)
  generalize ((w.alloc (.cells (flo false p s d a b).toArray 45)).alloc (.cells #[.slice none 0 0] 68)) = w1 at *
  clear hk0
  go_upto_region 6 with (go_at_call 36; (with_reducible refine (key8 w w1 _ [] _ K0.out (by decide)).mono ?_); rintro e w2 ⟨rfl, h⟩; have K1 := Lib.hid h; clear h)
  have c1 : w2.cell? ⟨w.heap.size, 1, none⟩ = some (.int .u8 p) := by obtain ⟨r, _, h, _⟩ := K1.out; exact (h.cell 1).trans flo_1
  go_upto_region 7 with (go_at_call 36; (with_reducible refine (key8 w w2 _ _ _ K1.out (by decide)).mono ?_); rintro e w3 ⟨rfl, h⟩; have K2 := Lib.hid h; clear h)
  clear c1
  go_upto_region 8 with (go_at_call 37; (with_reducible refine (keyRaw w w3 _ _ 2 4 _ _ K2.out (by simp) (by decide) B1.out).mono ?_); rintro e w4 ⟨rfl, h⟩; have K3 := Lib.hid h; clear h)
  go_upto_region 9 with (go_at_call 37; (with_reducible refine (keyRaw w w4 _ _ 18 4 _ _ K3.out (by simp [T1.out]) (by decide) B2.out).mono ?_); rintro e w5 ⟨rfl, h⟩; have K4 := Lib.hid h; clear h)
  have c2 : w5.cell? ⟨w.heap.size, 34, none⟩ = some (.int .u16 ((a : Nat) : Int)) := by obtain ⟨r, _, h, _⟩ := K4.out; exact (h.cell 34).trans (flo_34 HS.out HD.out)
  go_upto_region 10 with (go_at_call 38; (with_reducible refine (key16 w w5 _ _ a K4.out (by simp [T1.out, T2.out]) ha).mono ?_); rintro e w6 ⟨rfl, h⟩; have K5 := Lib.hid h; clear h)
  clear c2
  have c3 : w6.cell? ⟨w.heap.size, 35, none⟩ = some (.int .u16 ((b : Nat) : Int)) := by obtain ⟨r, _, h, _⟩ := K5.out; exact (h.cell 35).trans (flo_35 HS.out HD.out)
  go_upto_region 11 with (go_at_call 38; (with_reducible refine (key16 w w6 _ _ b K5.out (by simp [T1.out, T2.out]) hb).mono ?_); rintro e w7 ⟨rfl, h⟩; have K6 := Lib.hid h; clear h)
  clear c3
  have K7 : Hid (KeyAt w w7 (flo false p s d a b) (key false p s d a b)) := by
    have := K6.out
    simp only [List.nil_append, List.append_assoc, List.cons_append] at this
    exact this
  have KL : Hid ((key false p s d a b).length ≤ 1000) := by
    have := key_length (v := false) (p := p) (a := a) (b := b) HS.out HD.out
    simp at this
    exact (by omega : (key false p s d a b).length ≤ 1000)
  go_wp2_with (go_at_call 39; (with_reducible refine (keyAll w w7 _ _ K7.out KL.out).mono ?_); rintro e w8 ⟨A, c, rfl, hb, hr⟩; have H1 := Lib.hid hb; have H2 := Lib.hid hr; clear hb hr)
  go_ret
  exact ⟨A, c, rfl, H1.out, H2.out⟩

set_option maxRecDepth 100000 in
set_option maxHeartbeats 2000000 in
theorem progKey_true (p : Int) (s d : List Int) (a b : Nat) (w : World) (hs : Sixteen s) (hd : Sixteen d) (ha : a ≤ 65535) (hb : b ≤ 65535) :
    Calls Try.prog 33 #[.agg (flo true p s d a b).toArray] w (KeyOut w (key true p s d a b)) := by
  have L1 : Hid (Blk ((w.alloc (.cells (flo true p s d a b).toArray 45)).alloc (.cells #[.slice none 0 0] 68)) w.heap.size 45 (flo true p s d a b)) := (Blk.new w 45 _).alloc _
  have K0 : Hid (KeyAt w ((w.alloc (.cells (flo true p s d a b).toArray 45)).alloc (.cells #[.slice none 0 0] 68)) (flo true p s d a b) []) := by
    refine ⟨none, ⟨none, 0, ?_, ⟨rfl, .inl ⟨rfl, rfl⟩⟩, rfl⟩, L1.out, ((Below.refl _ w).alloc (Nat.le_refl _) _).alloc (by simp) _⟩
    have := Blk.new (w.alloc (.cells (flo true p s d a b).toArray 45)) 68 [.slice none 0 0]
    rwa [show (w.alloc (.cells (flo true p s d a b).toArray 45)).heap.size = w.heap.size + 1 by simp] at this
  have hk0 : (w.alloc (.cells (flo true p s d a b).toArray 45)).cell? ⟨w.heap.size, 0, none⟩ = some (.bool true) := ((Blk.new w 45 (flo true p s d a b)).cell 0).trans flo_0
  have HS := Lib.hid hs
  have HD := Lib.hid hd
  have B1 : Hid (∀ V, Blk V w.heap.size 45 (flo true p s d a b) → Byts V (some ⟨w.heap.size, 2, none⟩) 16 (s.take 16)) := fun V hV => (Byts.of_range (flo_src hV) HS.out).upto (by omega)
  have B2 : Hid (∀ V, Blk V w.heap.size 45 (flo true p s d a b) → Byts V (some ⟨w.heap.size, 18, none⟩) 16 (d.take 16)) := fun V hV => (Byts.of_range (flo_dst HS.out hV) HD.out).upto (by omega)
  have t1 : (s.take 16).length = 16 := by have := HS.out; unfold Sixteen at this; simp; omega
  have t2 : (d.take 16).length = 16 := by have := HD.out; unfold Sixteen at this; simp; omega
  have T1 := Lib.hid t1
  have T2 := Lib.hid t2
  clear hs hd t1 t2 L1
  go_enter Try.func33, Try.ntmps33
  go_upto_region 5 with (fail)
  generalize ((w.alloc (.cells (flo true p s d a b).toArray 45)).alloc (.cells #[.slice none 0 0] 68)) = w1 at *
  clear hk0
  go_upto_region 6 with (go_at_call 36; (with_reducible refine (key8 w w1 _ [] _ K0.out (by decide)).mono ?_); rintro e w2 ⟨rfl, h⟩; have K1 := Lib.hid h; clear h)
  have c1 : w2.cell? ⟨w.heap.size, 1, none⟩ = some (.int .u8 p) := by obtain ⟨r, _, h, _⟩ := K1.out; exact (h.cell 1).trans flo_1
  go_upto_region 7 with (go_at_call 36; (with_reducible refine (key8 w w2 _ _ _ K1.out (by decide)).mono ?_); rintro e w3 ⟨rfl, h⟩; have K2 := Lib.hid h; clear h)
  clear c1
  go_upto_region 8 with (go_at_call 37; (with_reducible refine (keyRaw w w3 _ _ 2 16 _ _ K2.out (by simp) (by decide) B1.out).mono ?_); rintro e w4 ⟨rfl, h⟩; have K3 := Lib.hid h; clear h)
  go_upto_region 9 with (go_at_call 37; (with_reducible refine (keyRaw w w4 _ _ 18 16 _ _ K3.out (by simp [T1.out]) (by decide) B2.out).mono ?_); rintro e w5 ⟨rfl, h⟩; have K4 := Lib.hid h; clear h)
  have c2 : w5.cell? ⟨w.heap.size, 34, none⟩ = some (.int .u16 ((a : Nat) : Int)) := by obtain ⟨r, _, h, _⟩ := K4.out; exact (h.cell 34).trans (flo_34 HS.out HD.out)
  go_upto_region 10 with (go_at_call 38; (with_reducible refine (key16 w w5 _ _ a K4.out (by simp [T1.out, T2.out]) ha).mono ?_); rintro e w6 ⟨rfl, h⟩; have K5 := Lib.hid h; clear h)
  clear c2
  have c3 : w6.cell? ⟨w.heap.size, 35, none⟩ = some (.int .u16 ((b : Nat) : Int)) := by obtain ⟨r, _, h, _⟩ := K5.out; exact (h.cell 35).trans (flo_35 HS.out HD.out)
  go_upto_region 11 with (go_at_call 38; (with_reducible refine (key16 w w6 _ _ b K5.out (by simp [T1.out, T2.out]) hb).mono ?_); rintro e w7 ⟨rfl, h⟩; have K6 := Lib.hid h; clear h)
  clear c3
  have K7 : Hid (KeyAt w w7 (flo true p s d a b) (key true p s d a b)) := by
    have := K6.out
    simp only [List.nil_append, List.append_assoc, List.cons_append] at this
    exact this
  have KL : Hid ((key true p s d a b).length ≤ 1000) := by
    have := key_length (v := true) (p := p) (a := a) (b := b) HS.out HD.out
    simp at this
    exact (by omega : (key true p s d a b).length ≤ 1000)
  go_wp2_with (go_at_call 39; (with_reducible refine (keyAll w w7 _ _ K7.out KL.out).mono ?_); rintro e w8 ⟨A, c, rfl, hb, hr⟩; have H1 := Lib.hid hb; have H2 := Lib.hid hr; clear hb hr)
  go_ret
  exact ⟨A, c, rfl, H1.out, H2.out⟩

theorem progKey_any (v : Bool) (p : Int) (s d : List Int) (a b : Nat) (w : World) (hs : Sixteen s) (hd : Sixteen d) (ha : a ≤ 65535) (hb : b ≤ 65535) :
    Calls Try.prog 33 #[.agg (flo v p s d a b).toArray] w (KeyOut w (key v p s d a b)) := by
  cases v
  · exact progKey_false p s d a b w hs hd ha hb
  · exact progKey_true p s d a b w hs hd ha hb
end Go.Proofs.Ytfhlgmmfknfamaa.kd
