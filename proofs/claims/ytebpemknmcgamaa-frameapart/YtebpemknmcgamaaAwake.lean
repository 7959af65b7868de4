/- What the laws of frame want of the program's Parse, Key and Prefix; the contract of the laws' awake over it. Conditions: those of each theorem. -/
import Derived.Test.YtebpemknmcgamaaEqs
namespace Go.Proofs.Ytebpemknmcgamaa
open Go.RowKit

/-- What a Key leaves, read. -/
def KeyRd (w : World) (ks : List Int) (e : Ending) (w' : World) : Prop := ∃ A c, e = .returned (.slice A ks.length c) ∧ Below w.heap.size w w' ∧ Byts w' A ks.length ks
theorem KeyOut.rd {w : World} {ks : List Int} {e : Ending} {w' : World} (h : KeyOut w ks e w') : KeyRd w ks e w' := by
  obtain ⟨A, c, h1, h2, h3⟩ := h
  exact ⟨A, c, h1, h2, Byts.of_own h3⟩
/-- The three. -/
structure Prog : Prop where
  parse : ∀ (A : Option Addr) (n c r : Nat) (bs : List Int) (P : List Value) (w : World), Byts w A n bs → Octs bs → n ≤ 9223372036854775807 → n ≤ c → pk bs = (P, r) → Calls Try.prog 10 #[.slice A n c] w (FrameOut w P r)
  key : ∀ (v : Bool) (p : Int) (s d : List Int) (a b : Nat) (w : World), Sixteen s → Sixteen d → Octs s → Octs d → 0 ≤ p ∧ p ≤ 255 → a ≤ 65535 → b ≤ 65535 → Calls Try.prog 12 #[.agg (flo v p s d a b).toArray] w (KeyRd w (key v p s d a b))
  pref : ∀ (v : Bool) (p : Int) (s d : List Int) (a b : Nat) (w : World), Sixteen s → Sixteen d → Octs s → Octs d → 0 ≤ p ∧ p ≤ 255 → a ≤ 65535 → b ≤ 65535 → Calls Try.prog 14 #[.agg (flo v p s d a b).toArray] w fun e w' => e = .returned (.agg (prx v s).toArray) ∧ Below w.heap.size w w'

theorem run_addr9 (W : World) : (Instr.field 30 (.agg #[.bool false, .int .u8 9, .int .u8 0, .int .u8 0, .int .u8 0, .int .u8 0, .int .u8 0, .int .u8 0]) 1).run Try.prog W = .ok (.agg #[.int .u8 9, .int .u8 0, .int .u8 0, .int .u8 0, .int .u8 0, .int .u8 0, .int .u8 0]) W := by
  simp [Instr.field, run_underlying Try.underlying30, part, isAgg, run_underlying Try.underlying28, asAgg]
theorem run_first9 (W : World) : (Instr.index 28 (.agg #[.int .u8 9, .int .u8 0, .int .u8 0, .int .u8 0, .int .u8 0, .int .u8 0, .int .u8 0]) (.int .i64 0)).run Try.prog W = .ok (.int .u8 9) W := by
  obtain ⟨i, hi⟩ : ∃ i, Try.prog.info? 5 = some i := info_of_underlying Try.underlying5
  simp [Instr.index, asIntOf, run_underlying Try.underlying28, part, isAgg, run_underlying Try.underlying5, run_sizeOf W hi]
def nine : List Int := [9, 0, 0, 0, 0, 0, 0, 0, 0, 0, 0, 0, 0, 0, 0, 0]
theorem pk_none : pk [] = (pak0, 1) := pk_link (by decide) (by decide : ether.look [] 3 12 = (false, 0, 1)) (by decide)

set_option maxRecDepth 100000 in
set_option maxHeartbeats 2000000 in
theorem awake_any (C : Prog) (w : World) : Calls Try.prog 9 #[] w fun e w' => e = .returned (.bool true) ∧ Below w.heap.size w w' := by
  have H1 := Lib.hid (C.parse none 0 0 1 [] pak0 w Byts.none_ Octs.nil (by decide) (by decide) pk_none)
  have H2 : Hid (∀ W, Calls Try.prog 12 #[.agg #[.bool false, .int .u8 0, .int .u8 0, .int .u8 0, .int .u8 0, .int .u8 0, .int .u8 0, .int .u8 0, .int .u8 0, .int .u8 0, .int .u8 0, .int .u8 0, .int .u8 0, .int .u8 0, .int .u8 0, .int .u8 0, .int .u8 0, .int .u8 0, .int .u8 0, .int .u8 0, .int .u8 0, .int .u8 0, .int .u8 0, .int .u8 0, .int .u8 0, .int .u8 0, .int .u8 0, .int .u8 0, .int .u8 0, .int .u8 0, .int .u8 0, .int .u8 0, .int .u8 0, .int .u8 0, .int .u16 0, .int .u16 0]] W fun e w' => ∃ A c, e = .returned (.slice A 14 c) ∧ Below W.heap.size W w') := fun W =>
    (C.key false 0 zz zz 0 0 W zz_sixteen zz_sixteen zz_octs zz_octs (by decide) (by decide) (by decide)).mono (by rintro e w' ⟨A, c, rfl, hb, _⟩; exact ⟨A, c, rfl, hb⟩)
  have H3 : Hid (∀ W, Calls Try.prog 14 #[.agg #[.bool false, .int .u8 0, .int .u8 9, .int .u8 0, .int .u8 0, .int .u8 0, .int .u8 0, .int .u8 0, .int .u8 0, .int .u8 0, .int .u8 0, .int .u8 0, .int .u8 0, .int .u8 0, .int .u8 0, .int .u8 0, .int .u8 0, .int .u8 0, .int .u8 0, .int .u8 0, .int .u8 0, .int .u8 0, .int .u8 0, .int .u8 0, .int .u8 0, .int .u8 0, .int .u8 0, .int .u8 0, .int .u8 0, .int .u8 0, .int .u8 0, .int .u8 0, .int .u8 0, .int .u8 0, .int .u16 0, .int .u16 0]] W fun e w' => e = .returned (.agg #[.bool false, .int .u8 9, .int .u8 0, .int .u8 0, .int .u8 0, .int .u8 0, .int .u8 0, .int .u8 0]) ∧ Below W.heap.size W w') := fun W =>
    C.pref false 0 nine zz 0 0 W rfl zz_sixteen (by unfold Octs; decide) zz_octs (by decide) (by decide) (by decide)
  have LZ : Hid (pak0.length = 46) := (rfl : _ = _)
  have hf := run_addr9
  have hi := run_first9
  clear C
  go_enter Try.func9, Try.ntmps9
  go_wp2_with (first | (go_at_call 10; (with_reducible refine H1.out.mono ?_); rintro e x1 ⟨rfl, hb⟩; have W1 := Lib.hid hb; clear hb) | (refine wpList_packet rfl (.tmp 1) (.tmp 5) rfl x1 pak0 rfl rfl LZ.out (one_all pak_each) ?_; intro x2 _ hb; have W2 : Hid (Below w.heap.size w x2) := W1.out.trans (hb.out.mono W1.out.size); clear hb) | (go_at_call 12; (with_reducible refine (H2.out _).mono ?_); rintro e x3 ⟨A3, c3, rfl, hb⟩; have W3 : Hid (Below w.heap.size w x3) := W2.out.trans (hb.mono W2.out.size); clear hb) | (go_at_call 14; (with_reducible refine (H3.out _).mono ?_); rintro e x4 ⟨rfl, hb⟩; have W4 : Hid (Below w.heap.size w x4) := W3.out.trans (hb.mono W3.out.size); clear hb))
  go_ret
  exact ⟨rfl, W4.out⟩
end Go.Proofs.Ytebpemknmcgamaa
