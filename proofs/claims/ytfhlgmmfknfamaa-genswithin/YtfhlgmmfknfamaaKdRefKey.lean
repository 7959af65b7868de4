/- The contract of the document's Key. Conditions: those of each theorem. -/
import Derived.Test.YtfhlgmmfknfamaaKdWords
namespace Go.Proofs.Ytfhlgmmfknfamaa.kd
open Go.RowKit

theorem own_less {w : World} {b b' : Nat} {e : TypeId} {size n : Nat} {v : Value} {xs : List Value} (h : w.ownsRow b e size v n xs) (hb : b' ≤ b) : w.ownsRow b' e size v n xs :=
  ⟨h.1, h.2.imp id (fun ⟨g, cap, cur, e1, h1, rest⟩ => ⟨g, cap, cur, e1, by omega, rest⟩)⟩
theorem key_length {v : Bool} {p : Int} {s d : List Int} {a b : Nat} (hs : Sixteen s) (hd : Sixteen d) : (key v p s d a b).length = if v then 38 else 14 := by
  unfold Sixteen at *
  unfold key
  cases v <;> simp [hs, hd]
/-- What a Key leaves: a row of its own. -/
def KeyOut (w : World) (ks : List Int) (e : Ending) (w' : World) : Prop :=
  ∃ A c, e = .returned (.slice A ks.length c) ∧ Below w.heap.size w w' ∧ w'.ownsRow w.heap.size 5 1 (.slice A ks.length c) ks.length (cel ks)
theorem take_snoc {s : List Int} {k : Nat} (h : k < s.length) (f : List Int) : (f ++ s.take k) ++ [s.getD k 0] = f ++ s.take (k + 1) := by
  rw [List.take_add_one, List.getElem?_eq_getElem h, List.getD_eq_getElem?_getD, List.getElem?_eq_getElem h, List.append_assoc]
  rfl

set_option maxRecDepth 100000 in
set_option maxHeartbeats 4000000 in
theorem refKey_false (p : Int) (s d : List Int) (a b : Nat) (w : World) (hs : Sixteen s) (hd : Sixteen d) (ha : a ≤ 65535) (hb : b ≤ 65535) :
    Calls Try.prog 42 #[.agg (flo false p s d a b).toArray] w (KeyOut w (key false p s d a b)) := by
  have L1 : Hid (Blk (w.alloc (.cells (flo false p s d a b).toArray 45)) w.heap.size 45 (flo false p s d a b)) := Blk.new w 45 _
  have W1 : Hid (Below w.heap.size w (w.alloc (.cells (flo false p s d a b).toArray 45))) := (Below.refl _ w).alloc (Nat.le_refl _) _
  have hsz : (w.alloc (.cells (flo false p s d a b).toArray 45)).heap.size = w.heap.size + 1 := by simp
  have HS := Lib.hid hs
  have HD := Lib.hid hd
  clear hs hd
  go_enter Try.func42, Try.ntmps42
  go_upto_region 1 with (fail)
  generalize (w.alloc (.cells (flo false p s d a b).toArray 45)) = w1 at *
  have c0 : w1.cell? ⟨w.heap.size, 0, none⟩ = some (.bool false) := (L1.out.cell 0).trans flo_0
  have c1 : w1.cell? ⟨w.heap.size, 1, none⟩ = some (.int .u8 p) := (L1.out.cell 1).trans flo_1
  have L2 := Lib.hid (L1.out.alloc (.cells #[.int .u8 4, .int .u8 p] 5))
  have W2 : Hid (Below w.heap.size w (w1.alloc (.cells #[.int .u8 4, .int .u8 p] 5))) := W1.out.alloc W1.out.size _
  have O2 : Hid (World.ownsRow (w1.alloc (.cells #[.int .u8 4, .int .u8 p] 5)) (w.heap.size + 1) 5 1 (.slice (some ⟨w.heap.size + 1, 0, none⟩) 2 2) 2 (cel [4, p])) := by
    have := own_blk (base := w.heap.size + 1) (Blk.new w1 5 (cel [4, p])) rfl (by simp) (by omega)
    rw [hsz] at this
    exact this
  go_upto_region 5 with (fail)
  generalize (w1.alloc (.cells #[.int .u8 4, .int .u8 p] 5)) = w2 at *
  obtain ⟨Z0, hZ0⟩ : ∃ Z, (some ⟨w.heap.size + 1, 0, none⟩ : Option Addr) = Z := ⟨_, rfl⟩
  rw [hZ0] at O2 ⊢
  clear hZ0 c0 c1 L1 W1 hsz
  go_wp2_with fail
  go_loopw [5, 6, 15] (fun o _ y w' => ∃ (k c1 : Nat) (Z : Option Addr), y = .int .i64 (k : Nat) ∧ o = .slice Z (2 + k) c1 ∧ k ≤ 4 ∧ w'.ownsRow (w.heap.size + 1) 5 1 (.slice Z (2 + k) c1) (2 + k) (cel ([4, p] ++ s.take k)) ∧ Blk w' w.heap.size 45 (flo false p s d a b) ∧ Below w.heap.size w w') (fun _ _ y _ => 4 - (intOf y).toNat)
  case atStart => exact ⟨0, 2, Z0, rfl, rfl, by omega, by simpa using O2.out, L2.out, W2.out⟩
  case round =>
    obtain ⟨k, c1, Z, rfl, rfl, hk, hO, hL, hW⟩ := hrel
    clear O2 L2 W2
    have HO := Lib.hid hO
    have HL := Lib.hid hL
    have HW := Lib.hid hW
    clear hO hL hW
    by_cases hlt : k < 4
    · have hdn : decide ((k : Int) < 4) = true := by simp; omega
      have hk16 : k < 16 := by omega
      have cs : wr.cell? ⟨w.heap.size, 2 + k, none⟩ = some (.int .u8 (s.getD k 0)) := flo_src HL.out k _ (cel_at s k (by have := HS.out; unfold Sixteen at this; omega))
      have HX : Hid (([4, p] ++ s.take k) ++ [s.getD k 0] = [4, p] ++ s.take (k + 1)) := take_snoc (by have := HS.out; unfold Sixteen at this; omega) _
      generalize s.getD k 0 = x at *
      have HO1 := Lib.hid (HO.out.alloc (.cells #[.int .u8 x] 5))
      have HB1 : Hid (Byts (wr.alloc (.cells #[.int .u8 x] 5)) (some ⟨wr.heap.size, 0, none⟩) 1 [x]) := Byts.of_all (Blk.new wr 5 (cel [x])) rfl
      have HL1 := Lib.hid (HL.out.alloc (.cells #[.int .u8 x] 5))
      have HW1 : Hid (Below w.heap.size w (wr.alloc (.cells #[.int .u8 x] 5))) := HW.out.alloc HW.out.size _
      have hsz1 : w.heap.size + 1 ≤ (wr.alloc (.cells #[.int .u8 x] 5)).heap.size := by have := HL1.out.lt; omega
      go_wp2_with (refine wpList_app_to rfl (.tmp 18) (.tmp 23) rfl (w.heap.size + 1) (.slice Z (2 + k) c1) (2 + k) ([4, p] ++ s.take k) rfl HO1.out (some ⟨wr.heap.size, 0, none⟩) 1 1 [x] rfl HB1.out (2 + (k + 1)) (by omega) ([4, p] ++ s.take (k + 1)) HX.out (by omega) hsz1 ?_; intro A2 c2 w2 HO2 HG2 _; have HL2 : Hid (Blk w2 w.heap.size 45 (flo false p s d a b)) := HL1.out.grown HG2.out (fun e => by have := (HO1.out.lt _ e).1; omega); have HW2 : Hid (Below w.heap.size w w2) := HW1.out.grown HG2.out HW1.out.size (fun j e => Nat.le_of_succ_le (HO1.out.lt j e).1))
      go_roundw
      case rel => exact ⟨k + 1, c2, A2, by go_num, rfl, by omega, HO2.out, HL2.out, HW2.out⟩
      case measure => simp [intOf]; omega
    · have hdn : decide ((k : Int) < 4) = false := by simp; omega
      have START2 : Hid (World.ownsRow wr (w.heap.size + 1) 5 1 (.slice Z (6 + 0) c1) (6 + 0) (cel (([4, p] ++ s.take 4) ++ d.take 0))) := by
        have := HO.out
        rw [show k = 4 by omega] at this
        rw [List.take_zero, List.append_nil]
        exact this
      go_wp2_with fail
      go_loopw [5, 7, 27] (fun o _ y w' => ∃ (k c1 : Nat) (Z : Option Addr), y = .int .i64 (k : Nat) ∧ o = .slice Z (6 + k) c1 ∧ k ≤ 4 ∧ w'.ownsRow (w.heap.size + 1) 5 1 (.slice Z (6 + k) c1) (6 + k) (cel (([4, p] ++ s.take 4) ++ d.take k)) ∧ Blk w' w.heap.size 45 (flo false p s d a b) ∧ Below w.heap.size w w') (fun _ _ y _ => 4 - (intOf y).toNat)
      case atStart => exact ⟨0, c1, Z, rfl, by rw [show 2 + k = 6 + 0 by omega], by omega, START2.out, HL.out, HW.out⟩
      case round =>
        obtain ⟨k2, c3, Z2, rfl, rfl, hk2, hO, hL, hW⟩ := hrel
        clear START2 HO HL HW hlt hk hdn; 
        have HO := Lib.hid hO
        have HL := Lib.hid hL
        have HW := Lib.hid hW
        clear hO hL hW
        by_cases hlt : k2 < 4
        · have hdn : decide ((k2 : Int) < 4) = true := by simp; omega
          have hk16 : k2 < 16 := by omega
          have cs : wr.cell? ⟨w.heap.size, 18 + k2, none⟩ = some (.int .u8 (d.getD k2 0)) := flo_dst HS.out HL.out k2 _ (cel_at d k2 (by have := HD.out; unfold Sixteen at this; omega))
          have HX : Hid ((([4, p] ++ s.take 4) ++ d.take k2) ++ [d.getD k2 0] = ([4, p] ++ s.take 4) ++ d.take (k2 + 1)) := take_snoc (by have := HD.out; unfold Sixteen at this; omega) _
          generalize d.getD k2 0 = x at *
          have HO1 := Lib.hid (HO.out.alloc (.cells #[.int .u8 x] 5))
          have HB1 : Hid (Byts (wr.alloc (.cells #[.int .u8 x] 5)) (some ⟨wr.heap.size, 0, none⟩) 1 [x]) := Byts.of_all (Blk.new wr 5 (cel [x])) rfl
          have HL1 := Lib.hid (HL.out.alloc (.cells #[.int .u8 x] 5))
          have HW1 : Hid (Below w.heap.size w (wr.alloc (.cells #[.int .u8 x] 5))) := HW.out.alloc HW.out.size _
          have hsz1 : w.heap.size + 1 ≤ (wr.alloc (.cells #[.int .u8 x] 5)).heap.size := by have := HL1.out.lt; omega
          go_wp2_with (refine wpList_app_to rfl (.tmp 30) (.tmp 35) rfl (w.heap.size + 1) (.slice Z2 (6 + k2) c3) (6 + k2) (([4, p] ++ s.take 4) ++ d.take k2) rfl HO1.out (some ⟨wr.heap.size, 0, none⟩) 1 1 [x] rfl HB1.out (6 + (k2 + 1)) (by omega) (([4, p] ++ s.take 4) ++ d.take (k2 + 1)) HX.out (by omega) hsz1 ?_; intro A2 c4 w2 HO2 HG2 _; have HL2 : Hid (Blk w2 w.heap.size 45 (flo false p s d a b)) := HL1.out.grown HG2.out (fun e => by have := (HO1.out.lt _ e).1; omega); have HW2 : Hid (Below w.heap.size w w2) := HW1.out.grown HG2.out HW1.out.size (fun j e => Nat.le_of_succ_le (HO1.out.lt j e).1))
          go_roundw
          case rel => exact ⟨k2 + 1, c4, A2, by go_num, rfl, by omega, HO2.out, HL2.out, HW2.out⟩
          case measure => simp [intOf]; omega
        · have hdn : decide ((k2 : Int) < 4) = false := by simp; omega
          have k4 : wr.cell? ⟨w.heap.size, 34, none⟩ = some (.int .u16 ((a : Nat) : Int)) := (HL.out.cell 34).trans (flo_34 HS.out HD.out)
          have k5 : wr.cell? ⟨w.heap.size, 35, none⟩ = some (.int .u16 ((b : Nat) : Int)) := (HL.out.cell 35).trans (flo_35 HS.out HD.out)
          have HO1 := Lib.hid (HO.out.alloc (.cells #[.int .u8 ((a : Int) / 256), .int .u8 ((a : Int) % 256), .int .u8 ((b : Int) / 256), .int .u8 ((b : Int) % 256)] 5))
          have HB1 : Hid (Byts (wr.alloc (.cells #[.int .u8 ((a : Int) / 256), .int .u8 ((a : Int) % 256), .int .u8 ((b : Int) / 256), .int .u8 ((b : Int) % 256)] 5)) (some ⟨wr.heap.size, 0, none⟩) 4 [(a : Int) / 256, (a : Int) % 256, (b : Int) / 256, (b : Int) % 256]) := Byts.of_all (Blk.new wr 5 (cel [(a : Int) / 256, (a : Int) % 256, (b : Int) / 256, (b : Int) % 256])) rfl
          have HW1 : Hid (Below w.heap.size w (wr.alloc (.cells #[.int .u8 ((a : Int) / 256), .int .u8 ((a : Int) % 256), .int .u8 ((b : Int) / 256), .int .u8 ((b : Int) % 256)] 5))) := HW.out.alloc HW.out.size _
          have hsz1 : w.heap.size + 1 ≤ (wr.alloc (.cells #[.int .u8 ((a : Int) / 256), .int .u8 ((a : Int) % 256), .int .u8 ((b : Int) / 256), .int .u8 ((b : Int) % 256)] 5)).heap.size := by have := HL.out.lt; simp; omega
          have HX : Hid ((([4, p] ++ s.take 4) ++ d.take k2) ++ [(a : Int) / 256, (a : Int) % 256, (b : Int) / 256, (b : Int) % 256] = key false p s d a b) := by
            refine Lib.hid ?_
            rw [show k2 = 4 by omega]
            unfold key
            simp
          have HKL : Hid ((key false p s d a b).length = 14) := key_length HS.out HD.out
          go_wp2_with (refine wpList_app_to rfl (.tmp 38) (.tmp 55) rfl (w.heap.size + 1) (.slice Z2 (6 + k2) c3) (6 + k2) (([4, p] ++ s.take 4) ++ d.take k2) rfl HO1.out (some ⟨wr.heap.size, 0, none⟩) 4 4 [(a : Int) / 256, (a : Int) % 256, (b : Int) / 256, (b : Int) % 256] rfl HB1.out 14 (by omega) (key false p s d a b) HX.out (by omega) hsz1 ?_; intro A2 c2 w2 HO2 HG2 _; have HW2 : Hid (Below w.heap.size w w2) := HW1.out.grown HG2.out HW1.out.size (fun j e => Nat.le_of_succ_le (HO1.out.lt j e).1))
          go_ret
          refine ⟨A2, c2, by rw [HKL.out]; rfl, HW2.out, ?_⟩
          rw [HKL.out]
          exact own_less HO2.out (by omega)
set_option maxRecDepth 100000 in
set_option maxHeartbeats 4000000 in
theorem refKey_true (p : Int) (s d : List Int) (a b : Nat) (w : World) (hs : Sixteen s) (hd : Sixteen d) (ha : a ≤ 65535) (hb : b ≤ 65535) :
    Calls Try.prog 42 #[.agg (flo true p s d a b).toArray] w (KeyOut w (key true p s d a b)) := by
  have L1 : Hid (Blk (w.alloc (.cells (flo true p s d a b).toArray 45)) w.heap.size 45 (flo true p s d a b)) := Blk.new w 45 _
  have W1 : Hid (Below w.heap.size w (w.alloc (.cells (flo true p s d a b).toArray 45))) := (Below.refl _ w).alloc (Nat.le_refl _) _
  have hsz : (w.alloc (.cells (flo true p s d a b).toArray 45)).heap.size = w.heap.size + 1 := by simp
  have HS := Lib.hid hs
  have HD := Lib.hid hd
  clear hs hd
  go_enter Try.func42, Try.ntmps42
  go_upto_region 1 with (fail)
  generalize (w.alloc (.cells (flo true p s d a b).toArray 45)) = w1 at *
  have c0 : w1.cell? ⟨w.heap.size, 0, none⟩ = some (.bool true) := (L1.out.cell 0).trans flo_0
  have c1 : w1.cell? ⟨w.heap.size, 1, none⟩ = some (.int .u8 p) := (L1.out.cell 1).trans flo_1
  have L2 := Lib.hid (L1.out.alloc (.cells #[.int .u8 6, .int .u8 p] 5))
  have W2 : Hid (Below w.heap.size w (w1.alloc (.cells #[.int .u8 6, .int .u8 p] 5))) := W1.out.alloc W1.out.size _
  have O2 : Hid (World.ownsRow (w1.alloc (.cells #[.int .u8 6, .int .u8 p] 5)) (w.heap.size + 1) 5 1 (.slice (some ⟨w.heap.size + 1, 0, none⟩) 2 2) 2 (cel [6, p])) := by
    have := own_blk (base := w.heap.size + 1) (Blk.new w1 5 (cel [6, p])) rfl (by simp) (by omega)
    rw [hsz] at this
    exact this
  go_upto_region 5 with (fail)
  generalize (w1.alloc (.cells #[.int .u8 6, .int .u8 p] 5)) = w2 at *
  obtain ⟨Z0, hZ0⟩ : ∃ Z, (some ⟨w.heap.size + 1, 0, none⟩ : Option Addr) = Z := ⟨_, rfl⟩
  rw [hZ0] at O2 ⊢
  clear hZ0 c0 c1 L1 W1 hsz
  go_wp2_with fail
  go_loopw [5, 6, 15] (fun o _ y w' => ∃ (k c1 : Nat) (Z : Option Addr), y = .int .i64 (k : Nat) ∧ o = .slice Z (2 + k) c1 ∧ k ≤ 16 ∧ w'.ownsRow (w.heap.size + 1) 5 1 (.slice Z (2 + k) c1) (2 + k) (cel ([6, p] ++ s.take k)) ∧ Blk w' w.heap.size 45 (flo true p s d a b) ∧ Below w.heap.size w w') (fun _ _ y _ => 16 - (intOf y).toNat)
  case atStart => exact ⟨0, 2, Z0, rfl, rfl, by omega, by simpa using O2.out, L2.out, W2.out⟩
  case round =>
    obtain ⟨k, c1, Z, rfl, rfl, hk, hO, hL, hW⟩ := hrel
    clear O2 L2 W2
    have HO := Lib.hid hO
    have HL := Lib.hid hL
    have HW := Lib.hid hW
    clear hO hL hW
    by_cases hlt : k < 16
    · have hdn : decide ((k : Int) < 16) = true := by simp; omega
      have hk16 : k < 16 := by omega
      have cs : wr.cell? ⟨w.heap.size, 2 + k, none⟩ = some (.int .u8 (s.getD k 0)) := flo_src HL.out k _ (cel_at s k (by have := HS.out; unfold Sixteen at this; omega))
      have HX : Hid (([6, p] ++ s.take k) ++ [s.getD k 0] = [6, p] ++ s.take (k + 1)) := take_snoc (by have := HS.out; unfold Sixteen at this; omega) _
      generalize s.getD k 0 = x at *
      have HO1 := Lib.hid (HO.out.alloc (.cells #[.int .u8 x] 5))
      have HB1 : Hid (Byts (wr.alloc (.cells #[.int .u8 x] 5)) (some ⟨wr.heap.size, 0, none⟩) 1 [x]) := Byts.of_all (Blk.new wr 5 (cel [x])) rfl
      have HL1 := Lib.hid (HL.out.alloc (.cells #[.int .u8 x] 5))
      have HW1 : Hid (Below w.heap.size w (wr.alloc (.cells #[.int .u8 x] 5))) := HW.out.alloc HW.out.size _
      have hsz1 : w.heap.size + 1 ≤ (wr.alloc (.cells #[.int .u8 x] 5)).heap.size := by have := HL1.out.lt; omega
      go_wp2_with (refine wpList_app_to rfl (.tmp 18) (.tmp 23) rfl (w.heap.size + 1) (.slice Z (2 + k) c1) (2 + k) ([6, p] ++ s.take k) rfl HO1.out (some ⟨wr.heap.size, 0, none⟩) 1 1 [x] rfl HB1.out (2 + (k + 1)) (by omega) ([6, p] ++ s.take (k + 1)) HX.out (by omega) hsz1 ?_; intro A2 c2 w2 HO2 HG2 _; have HL2 : Hid (Blk w2 w.heap.size 45 (flo true p s d a b)) := HL1.out.grown HG2.out (fun e => by have := (HO1.out.lt _ e).1; omega); have HW2 : Hid (Below w.heap.size w w2) := HW1.out.grown HG2.out HW1.out.size (fun j e => Nat.le_of_succ_le (HO1.out.lt j e).1))
      go_roundw
      case rel => exact ⟨k + 1, c2, A2, by go_num, rfl, by omega, HO2.out, HL2.out, HW2.out⟩
      case measure => simp [intOf]; omega
    · have hdn : decide ((k : Int) < 16) = false := by simp; omega
      have START2 : Hid (World.ownsRow wr (w.heap.size + 1) 5 1 (.slice Z (18 + 0) c1) (18 + 0) (cel (([6, p] ++ s.take 16) ++ d.take 0))) := by
        have := HO.out
        rw [show k = 16 by omega] at this
        rw [List.take_zero, List.append_nil]
        exact this
      go_wp2_with fail
      go_loopw [5, 7, 27] (fun o _ y w' => ∃ (k c1 : Nat) (Z : Option Addr), y = .int .i64 (k : Nat) ∧ o = .slice Z (18 + k) c1 ∧ k ≤ 16 ∧ w'.ownsRow (w.heap.size + 1) 5 1 (.slice Z (18 + k) c1) (18 + k) (cel (([6, p] ++ s.take 16) ++ d.take k)) ∧ Blk w' w.heap.size 45 (flo true p s d a b) ∧ Below w.heap.size w w') (fun _ _ y _ => 16 - (intOf y).toNat)
      case atStart => exact ⟨0, c1, Z, rfl, by rw [show 2 + k = 18 + 0 by omega], by omega, START2.out, HL.out, HW.out⟩
      case round =>
        obtain ⟨k2, c3, Z2, rfl, rfl, hk2, hO, hL, hW⟩ := hrel
        clear START2 HO HL HW hlt hk hdn; 
        have HO := Lib.hid hO
        have HL := Lib.hid hL
        have HW := Lib.hid hW
        clear hO hL hW
        by_cases hlt : k2 < 16
        · have hdn : decide ((k2 : Int) < 16) = true := by simp; omega
          have hk16 : k2 < 16 := by omega
          have cs : wr.cell? ⟨w.heap.size, 18 + k2, none⟩ = some (.int .u8 (d.getD k2 0)) := flo_dst HS.out HL.out k2 _ (cel_at d k2 (by have := HD.out; unfold Sixteen at this; omega))
          have HX : Hid ((([6, p] ++ s.take 16) ++ d.take k2) ++ [d.getD k2 0] = ([6, p] ++ s.take 16) ++ d.take (k2 + 1)) := take_snoc (by have := HD.out; unfold Sixteen at this; omega) _
          generalize d.getD k2 0 = x at *
          have HO1 := Lib.hid (HO.out.alloc (.cells #[.int .u8 x] 5))
          have HB1 : Hid (Byts (wr.alloc (.cells #[.int .u8 x] 5)) (some ⟨wr.heap.size, 0, none⟩) 1 [x]) := Byts.of_all (Blk.new wr 5 (cel [x])) rfl
          have HL1 := Lib.hid (HL.out.alloc (.cells #[.int .u8 x] 5))
          have HW1 : Hid (Below w.heap.size w (wr.alloc (.cells #[.int .u8 x] 5))) := HW.out.alloc HW.out.size _
          have hsz1 : w.heap.size + 1 ≤ (wr.alloc (.cells #[.int .u8 x] 5)).heap.size := by have := HL1.out.lt; omega
          go_wp2_with (refine wpList_app_to rfl (.tmp 30) (.tmp 35) rfl (w.heap.size + 1) (.slice Z2 (18 + k2) c3) (18 + k2) (([6, p] ++ s.take 16) ++ d.take k2) rfl HO1.out (some ⟨wr.heap.size, 0, none⟩) 1 1 [x] rfl HB1.out (18 + (k2 + 1)) (by omega) (([6, p] ++ s.take 16) ++ d.take (k2 + 1)) HX.out (by omega) hsz1 ?_; intro A2 c4 w2 HO2 HG2 _; have HL2 : Hid (Blk w2 w.heap.size 45 (flo true p s d a b)) := HL1.out.grown HG2.out (fun e => by have := (HO1.out.lt _ e).1; omega); have HW2 : Hid (Below w.heap.size w w2) := HW1.out.grown HG2.out HW1.out.size (fun j e => Nat.le_of_succ_le (HO1.out.lt j e).1))
          go_roundw
          case rel => exact ⟨k2 + 1, c4, A2, by go_num, rfl, by omega, HO2.out, HL2.out, HW2.out⟩
          case measure => simp [intOf]; omega
        · have hdn : decide ((k2 : Int) < 16) = false := by simp; omega
          have k4 : wr.cell? ⟨w.heap.size, 34, none⟩ = some (.int .u16 ((a : Nat) : Int)) := (HL.out.cell 34).trans (flo_34 HS.out HD.out)
          have k5 : wr.cell? ⟨w.heap.size, 35, none⟩ = some (.int .u16 ((b : Nat) : Int)) := (HL.out.cell 35).trans (flo_35 HS.out HD.out)
          have HO1 := Lib.hid (HO.out.alloc (.cells #[.int .u8 ((a : Int) / 256), .int .u8 ((a : Int) % 256), .int .u8 ((b : Int) / 256), .int .u8 ((b : Int) % 256)] 5))
          have HB1 : Hid (Byts (wr.alloc (.cells #[.int .u8 ((a : Int) / 256), .int .u8 ((a : Int) % 256), .int .u8 ((b : Int) / 256), .int .u8 ((b : Int) % 256)] 5)) (some ⟨wr.heap.size, 0, none⟩) 4 [(a : Int) / 256, (a : Int) % 256, (b : Int) / 256, (b : Int) % 256]) := Byts.of_all (Blk.new wr 5 (cel [(a : Int) / 256, (a : Int) % 256, (b : Int) / 256, (b : Int) % 256])) rfl
          have HW1 : Hid (Below w.heap.size w (wr.alloc (.cells #[.int .u8 ((a : Int) / 256), .int .u8 ((a : Int) % 256), .int .u8 ((b : Int) / 256), .int .u8 ((b : Int) % 256)] 5))) := HW.out.alloc HW.out.size _
          have hsz1 : w.heap.size + 1 ≤ (wr.alloc (.cells #[.int .u8 ((a : Int) / 256), .int .u8 ((a : Int) % 256), .int .u8 ((b : Int) / 256), .int .u8 ((b : Int) % 256)] 5)).heap.size := by have := HL.out.lt; simp; omega
          have HX : Hid ((([6, p] ++ s.take 16) ++ d.take k2) ++ [(a : Int) / 256, (a : Int) % 256, (b : Int) / 256, (b : Int) % 256] = key true p s d a b) := by
            refine Lib.hid ?_
            rw [show k2 = 16 by omega]
            unfold key
            simp
          have HKL : Hid ((key true p s d a b).length = 38) := key_length HS.out HD.out
          go_wp2_with (refine wpList_app_to rfl (.tmp 38) (.tmp 55) rfl (w.heap.size + 1) (.slice Z2 (18 + k2) c3) (18 + k2) (([6, p] ++ s.take 16) ++ d.take k2) rfl HO1.out (some ⟨wr.heap.size, 0, none⟩) 4 4 [(a : Int) / 256, (a : Int) % 256, (b : Int) / 256, (b : Int) % 256] rfl HB1.out 38 (by omega) (key true p s d a b) HX.out (by omega) hsz1 ?_; intro A2 c2 w2 HO2 HG2 _; have HW2 : Hid (Below w.heap.size w w2) := HW1.out.grown HG2.out HW1.out.size (fun j e => Nat.le_of_succ_le (HO1.out.lt j e).1))
          go_ret
          refine ⟨A2, c2, by rw [HKL.out]; rfl, HW2.out, ?_⟩
          rw [HKL.out]
          exact own_less HO2.out (by omega)
theorem refKey_any (v : Bool) (p : Int) (s d : List Int) (a b : Nat) (w : World) (hs : Sixteen s) (hd : Sixteen d) (ha : a ≤ 65535) (hb : b ≤ 65535) :
    Calls Try.prog 42 #[.agg (flo v p s d a b).toArray] w (KeyOut w (key v p s d a b)) := by
  cases v
  · exact refKey_false p s d a b w hs hd ha hb
  · exact refKey_true p s d a b w hs hd ha hb
end Go.Proofs.Ytfhlgmmfknfamaa.kd
