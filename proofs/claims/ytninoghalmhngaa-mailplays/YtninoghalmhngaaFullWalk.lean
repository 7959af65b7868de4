/- The walk of the law MailFull: for any room and number it returns true and turns nothing that was there. -/
import Derived.Test.YtninoghalmhngaaAwake
namespace Go.Proofs.Ytninoghalmhngaa
open Go.RowKit

/-- The numbers from b on, k of them. -/
def seqI : Nat → Nat → List Int
  | _, 0 => []
  | b, k + 1 => (b : Int) :: seqI (b + 1) k
theorem seqI_length : ∀ (k b : Nat), (seqI b k).length = k
  | 0, _ => rfl
  | k + 1, b => by simp [seqI, seqI_length k (b + 1)]
theorem seqI_snoc : ∀ (k b : Nat), seqI b k ++ [((b + k : Nat) : Int)] = seqI b (k + 1)
  | 0, b => rfl
  | k + 1, b => by
    have h := seqI_snoc k (b + 1)
    rw [show b + 1 + k = b + (k + 1) by omega] at h
    show (b : Int) :: (seqI (b + 1) k ++ [((b + (k + 1) : Nat) : Int)]) = (b : Int) :: seqI (b + 1) (k + 1)
    rw [h]
theorem seqI_drop : ∀ (m k b : Nat), (seqI b k).drop m = seqI (b + m) (k - m)
  | 0, _, _ => rfl
  | m + 1, 0, b => by simp [seqI]
  | m + 1, k + 1, b => by
    have h := seqI_drop m k (b + 1)
    rw [show b + 1 + m = b + (m + 1) by omega] at h
    show (seqI (b + 1) k).drop m = _
    rw [h, Nat.add_sub_add_right]
theorem seqI_at : ∀ (i k b : Nat), i < k → (seqI b k).getD i 0 = ((b + i : Nat) : Int)
  | _, 0, _, h => absurd h (by omega)
  | 0, k + 1, b, _ => rfl
  | i + 1, k + 1, b, h => by
    have h := seqI_at i k (b + 1) (by omega)
    rw [show b + 1 + i = b + (i + 1) by omega] at h
    exact h

/-- No block that was there is one of the box's. -/
def old (w : World) : Nat → Prop := fun k => k < w.heap.size

/-- Where the loops that put stand: the numbers from b on, a of them, are in the box. -/
def FullRel (w : World) (g c n b a : Nat) (w' : World) : Prop := BoxAt w' g c n (old w) (seqI b a) ∧ Below w.heap.size w w'
theorem BoxAt.turn {w w1 w2 : World} {g c n : Nat} {vs : List Int} (h : BoxAt w1 g c n (old w) vs) (hb : Below w.heap.size w w1) (hf : Far (only c) w1 w2) : Below w.heap.size w w2 :=
  hb.trans (hf.below hb.size (fun k hk e => h.apart.2 (by have : k = c := e; subst this; exact hk)))
theorem FullRel.put {w w1 w2 : World} {g c n b a : Nat} {x : Int} (h : BoxAt w1 g c n (old w) (seqI b a)) (hb : Below w.heap.size w w1) (hr : BoxAt w2 g c n (old w) (seqI b a ++ [x])) (hf : Far (only c) w1 w2) (hx : x = ((b + a : Nat) : Int)) : FullRel w g c n b (a + 1) w2 := by
  subst hx
  refine ⟨?_, h.turn hb hf⟩
  rw [← seqI_snoc]
  exact hr
/-- Behind a Drain. -/
theorem full_drained {w w1 w2 : World} {g c n b a m : Nat} {v : Value} (h : BoxAt w1 g c n (old w) (seqI b a)) (hb : Below w.heap.size w w1) (hd : DrainRel w1 g c n (old w) (seqI b a) m v w2) : FullRel w g c n (b + m) (a - m) w2 := by
  refine ⟨?_, h.turn hb hd.2.2⟩
  have := hd.2.1.weak (B' := old w) (fun k _ e => .inl e)
  rw [seqI_drop] at this
  exact this
theorem row_reads {w : World} {base n cap : Nat} {A : Option Addr} {zs : List Int} (h : w.ownsRow base 3 1 (.slice A n cap) n (ints zs)) (h0 : 0 < n) (hz : zs.length = n) : ∃ ad, A = some ad ∧ ∀ k, k < n → w.cell? (ad.add k) = some (.int .i64 (zs.getD k 0)) := by
  obtain ⟨ad, e, hc⟩ := (Vals.of_own h).2 h0
  exact ⟨ad, e, fun k hk => hc k _ (ints_at (by omega))⟩
theorem old_not {w w1 : World} (h : w.heap.size ≤ w1.heap.size) : ¬ old w w1.heap.size := by unfold old; omega

set_option maxRecDepth 100000 in
set_option maxHeartbeats 4000000 in
theorem full_near (ro ou : Int) (n o : Nat) (w : World) (h0 : 0 ≤ ro) (h1 : ro ≤ 255) (h2 : 0 ≤ ou) (h3 : ou ≤ 255) (hn : 1 + ro % 64 = n) (ho : ou % 70 = o) (hon : o ≤ n) :
    Calls Try.prog 4 #[.int .u8 ro, .int .u8 ou] w fun e w' => e = .returned (.bool true) ∧ Below w.heap.size w w' := by
  have hn1 : 1 ≤ n ∧ n ≤ 64 := by omega
  have ho1 : o < 70 := by omega
  have hd0 : decide ((o : Int) ≤ (n : Int)) = true := by simp; omega
  have HO := Lib.hid ho
  clear ho
  go_enter Try.func4, Try.ntmps4
  go_wp2_with (first | (go_at_call 7; (with_reducible refine (awake_any _).mono ?_); rintro e w1 ⟨rfl, hb1⟩; have W1 := Lib.hid hb1; clear hb1) | (go_at_call 8; (with_reducible refine (new_ok _ n _ (by omega) hn1.1 (by omega)).mono ?_); rintro e w2 ⟨g, c, rfl, hr, hg, hc, hb2⟩; have R2 : Hid (BoxAt w2 g c n (old w) []) := hr.weak (fun k _ e => Nat.lt_of_lt_of_le e W1.out.size); have W2 : Hid (Below w.heap.size w w2) := W1.out.trans (hb2.mono W1.out.size); clear hr hb2))
  clear hn hg hc
  go_loopw [8, 30] (fun _ y w' => ∃ k : Nat, y = .int .i64 k ∧ k ≤ n ∧ FullRel w g c n 0 k w') (fun _ y _ => n - (intOf y).toNat)
  case atStart => exact ⟨0, rfl, by omega, R2.out, W2.out⟩
  case round =>
    obtain ⟨k, rfl, hk, hr⟩ := hrel
    have HR := Lib.hid hr.1
    have HW := Lib.hid hr.2
    have hws := hr.2.size
    clear hr
    by_cases hlt : k < n
    · have hd : decide ((k : Int) < (n : Int)) = true := by simp; omega
      have HL : Hid ((seqI 0 k).length < n) := by show _ < _; rw [seqI_length]; omega
      go_wp2_with (first | (go_at_call 10; (with_reducible refine (put_room g c n _ _ _ _ HR.out HL.out (old_not hws)).mono ?_); rintro e w3 ⟨rfl, hr3, hf3⟩; have R3 := Lib.hid hr3; have F3 := Lib.hid hf3; clear hr3 hf3))
      go_roundw
      case rel => exact ⟨k + 1, by go_num, by omega, FullRel.put HR.out HW.out R3.out F3.out (by omega)⟩
      case measure => simp [intOf]; omega
    · have hd : decide ((k : Int) < (n : Int)) = false := by simp; omega
      have HB : Hid (BoxAt wr g c n (old w) (seqI 0 n)) := by have := HR.out; rw [show k = n by omega] at this; exact this
      have HL : Hid ((seqI 0 n).length = n) := seqI_length n 0
      have HM : Hid (((o : Nat) : Int) = max 0 (min (o : Int) (seqI 0 n).length)) := by show _ = _; rw [seqI_length]; omega
      have hou := HO.out
      go_wp2_with (first | (go_at_call 10; (with_reducible refine (put_full g c n _ _ _ _ HB.out HL.out).mono ?_); rintro e w3 ⟨rfl, hr3, hf3⟩; have R3 := Lib.hid hr3; have W3 := Lib.hid (HB.out.turn HW.out hf3); clear hr3 hf3) | (go_at_call 11; (with_reducible refine (drain_any g c n _ _ _ o _ R3.out HM.out).mono ?_); rintro e w4 ⟨A, cap, rfl, hd4⟩; have R4 := Lib.hid (full_drained R3.out W3.out hd4); clear hd4))
      clear hou
      go_loopw [12, 51] (fun _ y w' => ∃ k : Nat, y = .int .i64 k ∧ k ≤ o ∧ FullRel w g c n o (n - o + k) w') (fun _ y _ => o - (intOf y).toNat)
      case atStart => exact ⟨0, rfl, by omega, by rw [Nat.add_zero]; have := R4.out; rw [Nat.zero_add] at this; exact this⟩
      case round =>
        obtain ⟨j, rfl, hj, hr⟩ := hrel
        have HR5 := Lib.hid hr.1
        have HW5 := Lib.hid hr.2
        have hws5 := hr.2.size
        clear hr
        by_cases hlt5 : j < o
        · have hd5 : decide ((j : Int) < (o : Int)) = true := by simp; omega
          have HL5 : Hid ((seqI o (n - o + j)).length < n) := by show _ < _; rw [seqI_length]; omega
          go_wp2_with (first | (go_at_call 10; (with_reducible refine (put_room g c n _ _ _ _ HR5.out HL5.out (old_not hws5)).mono ?_); rintro e w6 ⟨rfl, hr6, hf6⟩; have R6 := Lib.hid hr6; have F6 := Lib.hid hf6; clear hr6 hf6))
          go_roundw
          case rel => exact ⟨j + 1, by go_num, by omega, FullRel.put (a := n - o + j) HR5.out HW5.out R6.out F6.out (by omega)⟩
          case measure => simp [intOf]; omega
        · have hd5 : decide ((j : Int) < (o : Int)) = false := by simp; omega
          have HB5 : Hid (BoxAt wr g c n (old w) (seqI o n)) := by have := HR5.out; rw [show n - o + j = n by omega] at this; exact this
          have HL5 : Hid ((seqI o n).length = n) := seqI_length n o
          have HM5 : Hid ((n : Int) = max 0 (min (1000 : Int) (seqI o n).length)) := by show _ = _; rw [seqI_length]; omega
          go_wp2_with (first | (go_at_call 10; (with_reducible refine (put_full g c n _ _ _ _ HB5.out HL5.out).mono ?_); rintro e w7 ⟨rfl, hr7, hf7⟩; have R7 := Lib.hid hr7; have W7 := Lib.hid (HB5.out.turn HW5.out hf7); clear hr7 hf7) | (go_at_call 11; (with_reducible refine (drain_any g c n _ _ _ n _ R7.out HM5.out).mono ?_); rintro e w8 ⟨A8, cap8, rfl, hd8⟩; have R8 := Lib.hid (full_drained R7.out W7.out hd8).1; have W8 := Lib.hid (full_drained R7.out W7.out hd8).2; have O8 := Lib.hid hd8.1; clear hd8))
          have R9 : Hid (BoxAt w8 g c n (old w) []) := by have := R8.out; rw [Nat.sub_self] at this; exact this
          have O9 : Hid (w8.ownsRow w7.heap.size 3 1 (.slice A8 n cap8) n (ints (seqI o n))) := by have := O8.out; rw [List.take_of_length_le (by rw [seqI_length]; omega)] at this; exact this
          obtain ⟨ad, rfl, hread⟩ := row_reads O9.out (by omega) (seqI_length n o)
          have HD := Lib.hid hread
          clear hread R8 O8
          go_loop [15, 67] (fun _ y => ∃ k : Nat, y = .int .i64 k ∧ k ≤ n) (fun _ y => n - (intOf y).toNat)
          case atStart => exact ⟨0, rfl, by omega⟩
          case round =>
            obtain ⟨i, rfl, hi⟩ := hrel
            by_cases hlt9 : i < n
            · have hd9 : decide ((i : Int) < (n : Int)) = true := by simp; omega
              have hcell := HD.out i hlt9
              rw [seqI_at i n o hlt9] at hcell
              have hsum : ((o + i : Nat) : Int) = (o : Int) + (i : Int) := by omega
              rw [hsum] at hcell
              clear hsum
              go_wp2
              go_round
              case rel => exact ⟨i + 1, by go_num, by omega⟩
              case measure => simp [intOf]; omega
            · have hd9 : decide ((i : Int) < (n : Int)) = false := by simp; omega
              go_wp2_with (first | (go_at_call 9; (with_reducible refine (len_is g c n 0 _ _ _ R9.out rfl).mono ?_); rintro e w' ⟨rfl, rfl⟩))
              go_ret
              exact ⟨rfl, W8.out⟩

set_option maxRecDepth 100000 in
set_option maxHeartbeats 4000000 in
theorem full_far (ro ou : Int) (n o : Nat) (w : World) (h0 : 0 ≤ ro) (h1 : ro ≤ 255) (h2 : 0 ≤ ou) (h3 : ou ≤ 255) (hn : 1 + ro % 64 = n) (ho : ou % 70 = o) (hon : n < o) :
    Calls Try.prog 4 #[.int .u8 ro, .int .u8 ou] w fun e w' => e = .returned (.bool true) ∧ Below w.heap.size w w' := by
  have hn1 : 1 ≤ n ∧ n ≤ 64 := by omega
  have ho1 : o < 70 := by omega
  have hd0 : decide ((o : Int) ≤ (n : Int)) = false := by simp; omega
  have HO := Lib.hid ho
  clear ho
  go_enter Try.func4, Try.ntmps4
  go_wp2_with (first | (go_at_call 7; (with_reducible refine (awake_any _).mono ?_); rintro e w1 ⟨rfl, hb1⟩; have W1 := Lib.hid hb1; clear hb1) | (go_at_call 8; (with_reducible refine (new_ok _ n _ (by omega) hn1.1 (by omega)).mono ?_); rintro e w2 ⟨g, c, rfl, hr, hg, hc, hb2⟩; have R2 : Hid (BoxAt w2 g c n (old w) []) := hr.weak (fun k _ e => Nat.lt_of_lt_of_le e W1.out.size); have W2 : Hid (Below w.heap.size w w2) := W1.out.trans (hb2.mono W1.out.size); clear hr hb2))
  clear hn hg hc
  go_loopw [8, 30] (fun _ y w' => ∃ k : Nat, y = .int .i64 k ∧ k ≤ n ∧ FullRel w g c n 0 k w') (fun _ y _ => n - (intOf y).toNat)
  case atStart => exact ⟨0, rfl, by omega, R2.out, W2.out⟩
  case round =>
    obtain ⟨k, rfl, hk, hr⟩ := hrel
    have HR := Lib.hid hr.1
    have HW := Lib.hid hr.2
    have hws := hr.2.size
    clear hr
    by_cases hlt : k < n
    · have hd : decide ((k : Int) < (n : Int)) = true := by simp; omega
      have HL : Hid ((seqI 0 k).length < n) := by show _ < _; rw [seqI_length]; omega
      go_wp2_with (first | (go_at_call 10; (with_reducible refine (put_room g c n _ _ _ _ HR.out HL.out (old_not hws)).mono ?_); rintro e w3 ⟨rfl, hr3, hf3⟩; have R3 := Lib.hid hr3; have F3 := Lib.hid hf3; clear hr3 hf3))
      go_roundw
      case rel => exact ⟨k + 1, by go_num, by omega, FullRel.put HR.out HW.out R3.out F3.out (by omega)⟩
      case measure => simp [intOf]; omega
    · have hd : decide ((k : Int) < (n : Int)) = false := by simp; omega
      have HB : Hid (BoxAt wr g c n (old w) (seqI 0 n)) := by have := HR.out; rw [show k = n by omega] at this; exact this
      have HL : Hid ((seqI 0 n).length = n) := seqI_length n 0
      have HM : Hid (((n : Nat) : Int) = max 0 (min (o : Int) (seqI 0 n).length)) := by show _ = _; rw [seqI_length]; omega
      have hou := HO.out
      go_wp2_with (first | (go_at_call 10; (with_reducible refine (put_full g c n _ _ _ _ HB.out HL.out).mono ?_); rintro e w3 ⟨rfl, hr3, hf3⟩; have R3 := Lib.hid hr3; have W3 := Lib.hid (HB.out.turn HW.out hf3); clear hr3 hf3) | (go_at_call 11; (with_reducible refine (drain_any g c n _ _ _ n _ R3.out HM.out).mono ?_); rintro e w4 ⟨A, cap, rfl, hd4⟩; have R4 := Lib.hid (full_drained R3.out W3.out hd4); clear hd4))
      clear hou
      go_loopw [12, 51] (fun _ y w' => ∃ k : Nat, y = .int .i64 k ∧ k ≤ n ∧ FullRel w g c n n (n - n + k) w') (fun _ y _ => n - (intOf y).toNat)
      case atStart => exact ⟨0, rfl, by omega, by rw [Nat.add_zero]; have := R4.out; rw [Nat.zero_add] at this; exact this⟩
      case round =>
        obtain ⟨j, rfl, hj, hr⟩ := hrel
        have HR5 := Lib.hid hr.1
        have HW5 := Lib.hid hr.2
        have hws5 := hr.2.size
        clear hr
        by_cases hlt5 : j < n
        · have hd5 : decide ((j : Int) < (n : Int)) = true := by simp; omega
          have HL5 : Hid ((seqI n (n - n + j)).length < n) := by show _ < _; rw [seqI_length]; omega
          go_wp2_with (first | (go_at_call 10; (with_reducible refine (put_room g c n _ _ _ _ HR5.out HL5.out (old_not hws5)).mono ?_); rintro e w6 ⟨rfl, hr6, hf6⟩; have R6 := Lib.hid hr6; have F6 := Lib.hid hf6; clear hr6 hf6))
          go_roundw
          case rel => exact ⟨j + 1, by go_num, by omega, FullRel.put (a := n - n + j) HR5.out HW5.out R6.out F6.out (by omega)⟩
          case measure => simp [intOf]; omega
        · have hd5 : decide ((j : Int) < (n : Int)) = false := by simp; omega
          have HB5 : Hid (BoxAt wr g c n (old w) (seqI n n)) := by have := HR5.out; rw [show n - n + j = n by omega] at this; exact this
          have HL5 : Hid ((seqI n n).length = n) := seqI_length n n
          have HM5 : Hid ((n : Int) = max 0 (min (1000 : Int) (seqI n n).length)) := by show _ = _; rw [seqI_length]; omega
          go_wp2_with (first | (go_at_call 10; (with_reducible refine (put_full g c n _ _ _ _ HB5.out HL5.out).mono ?_); rintro e w7 ⟨rfl, hr7, hf7⟩; have R7 := Lib.hid hr7; have W7 := Lib.hid (HB5.out.turn HW5.out hf7); clear hr7 hf7) | (go_at_call 11; (with_reducible refine (drain_any g c n _ _ _ n _ R7.out HM5.out).mono ?_); rintro e w8 ⟨A8, cap8, rfl, hd8⟩; have R8 := Lib.hid (full_drained R7.out W7.out hd8).1; have W8 := Lib.hid (full_drained R7.out W7.out hd8).2; have O8 := Lib.hid hd8.1; clear hd8))
          have R9 : Hid (BoxAt w8 g c n (old w) []) := by have := R8.out; rw [Nat.sub_self] at this; exact this
          have O9 : Hid (w8.ownsRow w7.heap.size 3 1 (.slice A8 n cap8) n (ints (seqI n n))) := by have := O8.out; rw [List.take_of_length_le (by rw [seqI_length]; omega)] at this; exact this
          obtain ⟨ad, rfl, hread⟩ := row_reads O9.out (by omega) (seqI_length n n)
          have HD := Lib.hid hread
          clear hread R8 O8
          go_loop [15, 67] (fun _ y => ∃ k : Nat, y = .int .i64 k ∧ k ≤ n) (fun _ y => n - (intOf y).toNat)
          case atStart => exact ⟨0, rfl, by omega⟩
          case round =>
            obtain ⟨i, rfl, hi⟩ := hrel
            by_cases hlt9 : i < n
            · have hd9 : decide ((i : Int) < (n : Int)) = true := by simp; omega
              have hcell := HD.out i hlt9
              rw [seqI_at i n n hlt9] at hcell
              have hsum : ((n + i : Nat) : Int) = (n : Int) + (i : Int) := by omega
              rw [hsum] at hcell
              clear hsum
              go_wp2
              go_round
              case rel => exact ⟨i + 1, by go_num, by omega⟩
              case measure => simp [intOf]; omega
            · have hd9 : decide ((i : Int) < (n : Int)) = false := by simp; omega
              go_wp2_with (first | (go_at_call 9; (with_reducible refine (len_is g c n 0 _ _ _ R9.out rfl).mono ?_); rintro e w' ⟨rfl, rfl⟩))
              go_ret
              exact ⟨rfl, W8.out⟩

theorem full_any (ro ou : Int) (w : World) (h0 : 0 ≤ ro) (h1 : ro ≤ 255) (h2 : 0 ≤ ou) (h3 : ou ≤ 255) : Calls Try.prog 4 #[.int .u8 ro, .int .u8 ou] w fun e w' => e = .returned (.bool true) ∧ Below w.heap.size w w' := by
  obtain ⟨n, hn⟩ : ∃ n : Nat, 1 + ro % 64 = n := ⟨(1 + ro % 64).toNat, by omega⟩
  obtain ⟨o, ho⟩ : ∃ o : Nat, ou % 70 = o := ⟨(ou % 70).toNat, by omega⟩
  by_cases hon : o ≤ n
  · exact full_near ro ou n o w h0 h1 h2 h3 hn ho hon
  · exact full_far ro ou n o w h0 h1 h2 h3 hn ho (by omega)
end Go.Proofs.Ytninoghalmhngaa
