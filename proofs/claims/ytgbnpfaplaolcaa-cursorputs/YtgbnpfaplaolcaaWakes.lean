/- The contract of the check that the program is awake; the walk of the law CursorNil. Conditions: those of each theorem. -/
import Derived.Test.YtgbnpfaplaolcaaRefs
namespace Go.Proofs.Ytgbnpfaplaolcaa
open Go.RowKit

theorem OutAt.new (w : World) (base : Nat) : OutAt (w.alloc (.cells #[.slice none 0 0] 26)) base w.heap.size none [] :=
  ⟨none, 0, Blk.new w 26 [.slice none 0 0], World.ownsRow_nil _ _ _ _, rfl⟩

/-- What New answers. -/
def NewPost (w : World) (bs : List Int) (e : Ending) (w' : World) : Prop :=
  ∃ g q, e = .returned (.pointer (some ⟨g, 0, none⟩)) ∧ InAt w' g q false bs ∧ w.heap.size ≤ g ∧ w.heap.size ≤ q ∧ Below w.heap.size w w'
theorem new_in (A : Option Addr) (n c : Nat) (bs : List Int) (w : World) (hn : n ≤ 1000000) (h : Byts w A n bs) : Calls Try.prog 17 #[.slice A n c] w (NewPost w bs) := by
  refine (new_any A n c bs w hn h).mono ?_
  rintro e w' ⟨rfl, rfl⟩
  obtain rfl := h.1
  exact ⟨_, _, rfl, InAt.new w bs, by omega, Nat.le_refl _, ((Below.refl _ _).alloc (Nat.le_refl _) _).alloc (by simp) _⟩

/-- What Bytes answers. -/
def BytesPost (w : World) (bs : List Int) (n : Nat) (e : Ending) (w' : World) : Prop :=
  ∃ b, e = .returned (.slice (some ⟨b, 0, none⟩) n n) ∧ w.heap.size ≤ b ∧ Blk w' b 5 (cel bs) ∧ Below w.heap.size w w'
theorem outBytes_in (base g : Nat) (r : Option Nat) (bs : List Int) (n : Nat) (w : World) (h : OutAt w base g r bs) (hn : bs.length ≤ 1000000) (hl : bs.length = n) :
    Calls Try.prog 16 #[.pointer (some ⟨g, 0, none⟩)] w (BytesPost w bs n) := by
  subst hl
  refine (outBytes_any base g r bs w h hn).mono ?_
  rintro e w' ⟨rfl, rfl⟩
  exact ⟨_, rfl, Nat.le_refl _, Blk.new w 5 _, (Below.refl _ _).alloc (Nat.le_refl _) _⟩

/-- A whole block as a text. -/
theorem text_blk {w : World} {b : Nat} {bs : List Int} {n : Nat} (c : Nat) (h : Blk w b 5 (cel bs)) (hl : bs.length = n) :
    (convert 23 9 (.slice (some ⟨b, 0, none⟩) n c)).run Try.prog w = .ok (.string (strOfNums bs)) w := by
  subst hl
  exact run_text (P := Try.prog) w 23 5 9 _ _ c bs Try.underlying23 Try.underlying5 Try.underlying9 (by simpa using Byts.of_blk h 0 (Nat.zero_le _))

set_option maxHeartbeats 1000000 in
theorem awake_any (w : World) : Calls Try.prog 8 #[] w fun e w' => e = .returned (.bool true) ∧ Below w.heap.size w w' := by
  go_enter Try.func8, Try.ntmps8
  go_wp2_with fail
  refine (outU16_any w.heap.size w.heap.size none [] 258 _ (OutAt.new w _) (by decide) (by simp) (by decide) (by decide)).mono ?_
  rintro e w1 ⟨rfl, r1, ho, hf, hr⟩
  rw [show ([] : List Int) ++ numB (258 : Int).toNat 2 = [1, 2] from by decide] at ho
  have hb : Below w.heap.size w w1 := ((Below.refl _ _).alloc (Nat.le_refl _) _).trans (hf.below (by simp) (fun k hk e => by rcases e with e | e <;> first | omega | cases e))
  have HO := Lib.hid ho
  have HB := Lib.hid hb
  clear ho hf hr hb
  go_wp2_with fail
  refine (outBytes_in w.heap.size w.heap.size r1 [1, 2] 2 _ HO.out (by decide) rfl).mono ?_
  rintro e w2 ⟨b, rfl, hbl, hbk, hbb⟩
  have hcv := text_blk (n := 2) 2 hbk rfl
  have HB2 : Hid (Below w.heap.size w w2) := HB.out.trans (hbb.mono HB.out.size)
  have hs : ((strOfNums [1, 2]).toList == [1, 2]) = true := by decide +kernel
  clear hbk hbb
  go_wp2_with fail
  clear hs hcv
  refine (new_in _ 1 1 [7] _ (by decide) (Byts.of_blk (bs := [7]) (Blk.new w2 5 (cel [7])) 0 (by decide))).mono ?_
  rintro e w3 ⟨g, q, rfl, hi, hgl, _, hbb⟩
  have HG : Hid (w.heap.size ≤ g) := by have := HB2.out.size; simp at hgl; show _ ≤ _; omega
  clear hgl
  have HI := Lib.hid hi
  have HB3 : Hid (Below w.heap.size w w3) := (HB2.out.alloc HB2.out.size _).trans (hbb.mono (by have := HB2.out.size; simp; omega))
  clear hi hbb
  go_wp2_with fail
  refine (inU8_ok g q false [7] [7] _ HI.out (by decide) rfl (by unfold Octs; decide)).mono ?_
  rintro e w4 ⟨rfl, _, hf⟩
  rw [show numF 0 [7] = 7 from rfl]
  have HF := Lib.hid hf
  clear hf
  go_wp2
  go_ret
  exact ⟨rfl, HB3.out.trans (HF.out.below HB3.out.size (fun k hk e => by have := HG.out; unfold only at e; omega))⟩
end Go.Proofs.Ytgbnpfaplaolcaa
