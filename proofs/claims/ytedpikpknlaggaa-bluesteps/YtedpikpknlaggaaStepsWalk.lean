/- The walk of the law BlueSteps: for any numbers it returns true and turns nothing that was there. -/
import Derived.Test.YtedpikpknlaggaaAwake
import Derived.Deep.CutBlock
namespace Go.Proofs.Ytedpikpknlaggaa
open Go.RowKit

/-- The new one, the flow's bins both x. -/
def Twin (H U D : Nat) (x : Bin) (V : Blu) : Prop := ∃ B, V = ⟨2, 3, 10, H, U, D, B⟩ ∧ B 0 1 = x ∧ B 1 2 = x
section
variable {H U D : Nat} {x : Bin} {V : Blu}
theorem Twin.n (h : Twin H U D x V) : V.n = 2 ∧ V.m = 3 := by obtain ⟨B, rfl, _⟩ := h; exact ⟨rfl, rfl⟩
theorem Twin.turn {f : Bin → Bin} (h : Twin H U D x V) : Twin H U D (f x) (V.put (upd f [1, 2] V.n V.B)) := by
  obtain ⟨B, rfl, h1, h2⟩ := h
  refine ⟨_, rfl, ?_, ?_⟩
  · show (if 0 < 2 ∧ binOf [1, 2] 0 = 1 then f (B 0 1) else B 0 1) = _
    rw [if_pos (by decide), h1]
  · show (if 1 < 2 ∧ binOf [1, 2] 1 = 2 then f (B 1 2) else B 1 2) = _
    rw [if_pos (by decide), h2]
theorem Twin.flow (h : Twin H U D x V) : flow V.n V.m [1, 2] = true := by
  obtain ⟨h1, h2⟩ := h.n
  rw [h1, h2]
  decide
theorem Twin.put (h : Twin H U D x V) : Twin H U D (putB 11 x) (putV V [1, 2] 11) := by
  have := h.turn (f := putB 11)
  rw [show putV V [1, 2] 11 = V.put (upd (putB 11) [1, 2] V.n V.B) by simp [putV, h.flow, isz]]
  exact this
theorem Twin.take (h : Twin H U D x V) : Twin H U D (takeB 11 x) (takeV V [1, 2] 11) := by
  have := h.turn (f := takeB 11)
  rw [show takeV V [1, 2] 11 = V.put (upd (takeB 11) [1, 2] V.n V.B) by simp [takeV, h.flow, isz]]
  exact this
theorem Twin.touch (h : Twin H U D x V) {T : Nat} (hT : T ≤ 4611686018427387903) : Twin H U D (touchB 10 H U D T x) (touchV V [1, 2] (T : Nat)) := by
  have := h.turn (f := touchB 10 H U D T)
  have e : asT (T : Nat) = T := by unfold asT; omega
  have hf := h.flow
  obtain ⟨B, rfl, h1, h2⟩ := h
  rw [show touchV ⟨2, 3, 10, H, U, D, B⟩ [1, 2] (T : Nat) = Blu.put ⟨2, 3, 10, H, U, D, B⟩ (upd (touchB 10 H U D (asT (T : Nat))) [1, 2] 2 B) by simp [touchV, hf], e]
  exact this
theorem Twin.mark (h : Twin H U D x V) (hx : x.p ≤ 65536) : markV V [1, 2] = x.p := by
  have hf := h.flow
  obtain ⟨B, rfl, h1, h2⟩ := h
  rw [show markV ⟨2, 3, 10, H, U, D, B⟩ [1, 2] = min (min 65536 (B 0 1).p) (B 1 2).p by simp only [markV, hf, if_true]; rfl, h1, h2]
  omega
end
theorem touch_up {H U D p c : Nat} : touchB 10 H U D (c + H) ⟨11, p, c⟩ = ⟨11, min (p + U) 65536, c + H⟩ := by
  unfold touchB
  rw [if_neg (by dsimp only; omega), if_pos (by dsimp only; omega)]
theorem touch_down {H U D p c : Nat} : touchB 10 H U D (c + H) ⟨0, p, c⟩ = ⟨0, p - D, c + H⟩ := by
  unfold touchB
  rw [if_neg (by dsimp only; omega), if_neg (by dsimp only; omega), if_pos (by rfl)]
/-- Where the laws' loops stand. -/
structure StRel (w : World) (g s : Nat) (q : Nat → Nat) (H U D : Nat) (l : Nat) (x : Bin) (W : World) : Prop where
  at_ : ∃ V, BAt W g s q V ∧ Twin H U D x V
  ints : Ints W (some ⟨l, 0, none⟩) 2 [1, 2]
  be : Below w.heap.size w W
theorem StRel.next {w W W' : World} {g s : Nat} {q : Nat → Nat} {H U D l : Nat} {V' : Blu} {x y : Bin} (h : StRel w g s q H U D l x W) (hV : Twin H U D y V') (ha : BAt W' g s q V') (hf : Far (own 2 g q) W W') (hp : Apart 2 g q 2 (some ⟨l, 0, none⟩)) (hg : w.heap.size ≤ g) (hq : ∀ i, i < 2 → w.heap.size ≤ q i) : StRel w g s q H U D l y W' :=
  ⟨⟨V', ha, hV⟩, h.ints.far hf hp, far_low h.be hf hg hq h.be.size⟩
theorem StRel.below {w W W' : World} {g s : Nat} {q : Nat → Nat} {H U D l : Nat} {x : Bin} (h : StRel w g s q H U D l x W) (hb : Below W.heap.size W W') : StRel w g s q H U D l x W' := by
  obtain ⟨⟨V, h1, h2⟩, h3, h4⟩ := h
  exact ⟨⟨V, h1.below hb, h2⟩, h3.below hb, h4.trans (hb.mono h4.size)⟩
/-- The calls upon it. -/
structure StCalls (w : World) (g s : Nat) (q : Nat → Nat) (H U D l : Nat) : Prop where
  put : ∀ W x, StRel w g s q H U D l x W → Calls Try.prog 11 #[.pointer (some ⟨g, 0, none⟩), .slice (some ⟨l, 0, none⟩) 2 2, .int .i64 11] W fun e W' => e = .returned (.bool true) ∧ StRel w g s q H U D l (putB 11 x) W'
  take : ∀ W x, StRel w g s q H U D l x W → Calls Try.prog 16 #[.pointer (some ⟨g, 0, none⟩), .slice (some ⟨l, 0, none⟩) 2 2, .int .i64 11] W fun e W' => e = .returned (.bool true) ∧ StRel w g s q H U D l (takeB 11 x) W'
  touch : ∀ W x (z : Int) (T : Nat), z = T → T ≤ 4611686018427387903 → StRel w g s q H U D l x W → Calls Try.prog 17 #[.pointer (some ⟨g, 0, none⟩), .slice (some ⟨l, 0, none⟩) 2 2, .int .i64 z] W fun e W' => e = .returned (.bool true) ∧ StRel w g s q H U D l (touchB 10 H U D T x) W'
  mark : ∀ W x, x.p ≤ 65536 → StRel w g s q H U D l x W → Calls Try.prog 12 #[.pointer (some ⟨g, 0, none⟩), .slice (some ⟨l, 0, none⟩) 2 2] W fun e W' => e = .returned (.int .i64 (x.p : Nat)) ∧ StRel w g s q H U D l x W'
theorem st_calls {w : World} {g s : Nat} {q : Nat → Nat} {H U D l : Nat} (hp : Apart 2 g q 2 (some ⟨l, 0, none⟩)) (hg : w.heap.size ≤ g) (hq : ∀ i, i < 2 → w.heap.size ≤ q i) : StCalls w g s q H U D l := by
  refine ⟨fun W x h => ?_, fun W x h => ?_, fun W x z T hz hT h => ?_, fun W x hx h => ?_⟩
  · obtain ⟨V, h1, h2⟩ := h.at_
    refine (put_ g s q V _ 2 2 [1, 2] 11 W h1 h.ints (by omega) (h2.n.1 ▸ hp)).mono fun e W' ⟨e1, e2, e3⟩ => ⟨?_, h.next h2.put e2 (h2.n.1 ▸ e3) hp hg hq⟩
    rw [e1, h2.flow]
    rfl
  · obtain ⟨V, h1, h2⟩ := h.at_
    refine (take_ g s q V _ 2 2 [1, 2] 11 W h1 h.ints (by omega) (h2.n.1 ▸ hp)).mono fun e W' ⟨e1, e2, e3⟩ => ⟨?_, h.next h2.take e2 (h2.n.1 ▸ e3) hp hg hq⟩
    rw [e1, h2.flow]
    rfl
  · subst hz
    obtain ⟨V, h1, h2⟩ := h.at_
    refine (bTouch_ g s q V _ 2 2 [1, 2] (T : Nat) W h1 h.ints (by omega) (h2.n.1 ▸ hp)).mono fun e W' ⟨e1, e2, e3⟩ => ⟨?_, h.next (h2.touch hT) e2 (h2.n.1 ▸ e3) hp hg hq⟩
    rw [e1, h2.flow]
  · obtain ⟨V, h1, h2⟩ := h.at_
    refine (mark_ g s q V _ 2 2 [1, 2] W h1 h.ints (by omega)).mono fun e W' ⟨e1, e2⟩ => ⟨?_, h.below e2⟩
    rw [e1, h2.mark hx]
theorem new_as (n m t h u d : Nat) (x1 x2 x3 x4 x5 x6 : Int) (w : World) (e1 : x1 = n) (e2 : x2 = m) (e3 : x3 = t) (e4 : x4 = h) (e5 : x5 = u) (e6 : x6 = d) (n1 : 1 ≤ n) (n2 : n ≤ 4) (m1 : 1 ≤ m) (m2 : m ≤ 64) (ht : t ≤ 1073741824) (hh : h ≤ 4611686018427387903) (hu : u ≤ 65536) (hd : d ≤ 65536) :
    Calls Try.prog 9 #[.int .i64 x1, .int .i64 x2, .int .i64 x3, .int .i64 x4, .int .i64 x5, .int .i64 x6] w (NewOut ⟨n, m, t, h, u, d, fun _ _ => bin0⟩ w) := by
  subst e1 e2 e3 e4 e5 e6
  exact new_ n m t h u d w n1 n2 m1 m2 ht hh hu hd
theorem st_start {w w1 : World} {g s : Nat} {q : Nat → Nat} {H U D : Nat} (h1 : BAt w1 g s q ⟨2, 3, 10, H, U, D, fun _ _ => bin0⟩) (h2 : w.heap.size ≤ g ∧ w.heap.size ≤ s ∧ ∀ l, l < 2 → w.heap.size ≤ q l) (hb : Below w.heap.size w w1) :
    StRel w g s q H U D w1.heap.size bin0 (w1.alloc (.cells #[.int .i64 1, .int .i64 2] 3)) ∧ StCalls w g s q H U D w1.heap.size := by
  have B2 : Below w1.heap.size w1 (w1.alloc (.cells #[.int .i64 1, .int .i64 2] 3)) := (Below.refl _ w1).alloc (Nat.le_refl _) _
  refine ⟨⟨⟨_, h1.below B2, _, rfl, rfl, rfl⟩, Ints.of_blk (xs := [1, 2]) (Blk.new w1 3 [.int .i64 1, .int .i64 2]), hb.alloc hb.size _⟩, st_calls (fun _ ad e => ?_) h2.1 h2.2.2⟩
  injection e with e
  subst e
  exact own_not h1.lt.1 h1.lt.2.2

set_option maxRecDepth 100000 in
set_option maxHeartbeats 4000000 in
theorem steps_ (U D H n m : Nat) (up down hold nn mm : Int) (w : World) (eu : up = U) (ed : down = D) (hU : U ≤ 65535) (hD : D ≤ 65535) (hH : hold % 1000 = H) (hh0 : 0 ≤ hold) (hh1 : hold ≤ 65535) (hn : nn % 100 = n) (hm : mm % 100 = m) (hn0 : 0 ≤ nn) (hn1 : nn ≤ 255) (hm0 : 0 ≤ mm) (hm1 : mm ≤ 255) :
    Calls Try.prog 6 #[.int .u16 up, .int .u16 down, .int .u8 nn, .int .u8 mm, .int .u16 hold] w fun e w' => e = .returned (.bool true) ∧ Below w.heap.size w w' := by
  have hHl : H ≤ 999 := by omega
  have hnl : n ≤ 99 := by omega
  have hml : m ≤ 99 := by omega
  subst eu ed
  go_enter Try.func6, Try.ntmps6
  go_upto_region 5 with (first | (go_at_call 7; (with_reducible refine (awake_any _).mono ?_); rintro e w0 ⟨rfl, hb0⟩; have W0 := Lib.hid hb0; clear hb0) | (go_at_call 9; (with_reducible refine (new_as 2 3 10 H U D _ _ _ _ _ _ w0 (by omega) (by omega) (by omega) (by omega) (by omega) (by omega) (by omega) (by omega) (by omega) (by omega) (by omega) (by omega) (by omega) (by omega)).mono ?_); rintro e w1 ⟨g, s, q, rfl, h1, h2, h3⟩; have H1 := Lib.hid h1; have A1 := Lib.hid h2; have B1 := Lib.hid h3; clear h1 h2 h3))
  obtain ⟨hs0, hc0⟩ := st_start (w := w) H1.out (by have := W0.out.size; have := A1.out; refine ⟨by omega, by omega, fun l hl => ?_⟩; have := A1.out.2.2 l hl; omega) (W0.out.trans (B1.out.mono W0.out.size))
  have S0 := Lib.hid hs0
  have HC := Lib.hid hc0
  clear hs0 hc0 W0 B1 A1 H1
  go_upto_region 6 with fail
  generalize w1.heap.size = lb at *
  generalize w1.alloc (.cells #[.int .i64 1, .int .i64 2] 3) = w2 at *
  go_upto_region 7 with (go_at_call 11; (with_reducible refine (HC.out.put _ _ S0.out).mono ?_); rintro e w3 ⟨rfl, h3⟩; have S3 := Lib.hid h3; clear h3)
  have S4 : Hid (StRel w g s q H U D lb ⟨11, 0, 0⟩ w3) := S3.out
  clear S0 S3
  go_wp2_with fail
  rw [hn]
  go_loopw [15, 37] (fun a i w' => ∃ k c p : Nat, k ≤ n ∧ i = .int .u8 k ∧ a = .int .i64 c ∧ c = k * H ∧ p = min (k * U) 65536 ∧ StRel w g s q H U D lb ⟨11, p, c⟩ w') (fun _ i _ => n - (intOf i).toNat)
  case atStart => exact ⟨0, 0, 0, by omega, rfl, rfl, by omega, by omega, S4.out⟩
  case round =>
    clear S4
    obtain ⟨k, c, p, hk, rfl, rfl, hc, hp, hr⟩ := hrel
    have S5 := Lib.hid hr
    clear hr
    have hcb : c ≤ 98901 := by rw [hc]; exact Nat.mul_le_mul (show k ≤ 99 by omega) hHl
    by_cases hlt : k < n
    · have hd : decide ((k : Int) < (n : Int)) = true := by simp; omega
      have hd' : decide (k < n) = true := by simpa using hlt
      have HT := Lib.hid (HC.out.touch wr ⟨11, p, c⟩ ((c : Int) + (H : Int)) (c + H) (by omega) (by omega) S5.out)
      rw [touch_up] at HT
      have HE : Hid (c + H = (k + 1) * H ∧ min (p + U) 65536 = min ((k + 1) * U) 65536) := by
        show _ ∧ _
        rw [hc, hp, Nat.add_mul, Nat.add_mul]
        omega
      clear hc hp S5
      go_wp2_with (go_at_call 17; (with_reducible refine HT.out.mono ?_); rintro e w6 ⟨rfl, h6⟩; have S6 := Lib.hid h6; clear h6)
      go_roundw
      case rel => exact ⟨k + 1, c + H, min (p + U) 65536, by omega, by go_num, by go_num, HE.out.1, HE.out.2, S6.out⟩
      case measure => simp [intOf]; omega
    · obtain rfl : k = n := by omega
      have hd : decide ((k : Int) < (k : Int)) = false := by simp
      have hpb : p ≤ 65536 := by omega
      obtain ⟨P, hP⟩ : ∃ P, k * U = P := ⟨_, rfl⟩
      have hPb : P ≤ 6487965 := by rw [← hP]; exact Nat.mul_le_mul hnl hU
      have hP2 : (k : Int) * (U : Int) = (P : Int) := by rw [← hP]; simp
      have hp2 : min 65536 (P : Int) = (p : Int) := by omega
      have HK := Lib.hid (HC.out.mark wr ⟨11, p, c⟩ hpb S5.out)
      clear hc hp S5 hP
      go_upto_region 16 with (go_at_call 12; (with_reducible refine HK.out.mono ?_); rintro e w7 ⟨rfl, h7⟩; have S7 := Lib.hid h7; clear h7)
      have HK2 := Lib.hid (HC.out.take w7 _ S7.out)
      clear S7 HK
      go_wp2_with (go_at_call 16; (with_reducible refine HK2.out.mono ?_); rintro e w8 ⟨rfl, h8⟩; have S8 : Hid (StRel w g s q H U D lb ⟨0, p, c⟩ w8) := h8; clear h8)
      clear HK2
      rw [hm]
      go_loopw [15, 64] (fun a i w' => ∃ j c' p' : Nat, j ≤ m ∧ i = .int .u8 j ∧ a = .int .i64 c' ∧ c' = c + j * H ∧ p' = p - j * D ∧ StRel w g s q H U D lb ⟨0, p', c'⟩ w') (fun _ i _ => m - (intOf i).toNat)
      case atStart => exact ⟨0, c, p, by omega, rfl, rfl, by omega, by omega, S8.out⟩
      case round =>
        clear S8
        obtain ⟨j, c', p', hj, rfl, rfl, hc', hp', hr⟩ := hrel
        have S9 := Lib.hid hr
        clear hr
        have hcb' : c' ≤ 197802 := by have := Nat.mul_le_mul (show j ≤ 99 by omega) hHl; omega
        by_cases hlt2 : j < m
        · have hd2 : decide ((j : Int) < (m : Int)) = true := by simp; omega
          have hd2' : decide (j < m) = true := by simpa using hlt2
          have HT := Lib.hid (HC.out.touch wr ⟨0, p', c'⟩ ((c' : Int) + (H : Int)) (c' + H) (by omega) (by omega) S9.out)
          rw [touch_down] at HT
          have HE : Hid (c' + H = c + (j + 1) * H ∧ p' - D = p - (j + 1) * D) := by
            show _ ∧ _
            rw [hc', hp', Nat.add_mul, Nat.add_mul]
            omega
          clear hc' hp' S9
          go_wp2_with (go_at_call 17; (with_reducible refine HT.out.mono ?_); rintro e w6 ⟨rfl, h6⟩; have S6 := Lib.hid h6; clear h6)
          go_roundw
          case rel => exact ⟨j + 1, c' + H, p' - D, by omega, by go_num, by go_num, HE.out.1, HE.out.2, S6.out⟩
          case measure => simp [intOf]; omega
        · obtain rfl : j = m := by omega
          have hd2 : decide ((j : Int) < (j : Int)) = false := by simp
          obtain ⟨R, hR⟩ : ∃ R, j * D = R := ⟨_, rfl⟩
          have hRb : R ≤ 6487965 := by rw [← hR]; exact Nat.mul_le_mul hml hD
          have hR2 : (j : Int) * (D : Int) = (R : Int) := by rw [← hR]; simp
          have hp2' : max 0 ((p : Int) - (R : Int)) = (p' : Int) := by omega
          have HK := Lib.hid (HC.out.mark wr ⟨0, p', c'⟩ (by dsimp only; omega) S9.out)
          clear hc' hp' S9 hR
          go_wp2_with (go_at_call 12; (with_reducible refine HK.out.mono ?_); rintro e w9 ⟨rfl, h9⟩; have S9 := Lib.hid h9; clear h9)
          go_ret
          exact ⟨ret_bool (by simp), S9.out.be⟩
end Go.Proofs.Ytedpikpknlaggaa
