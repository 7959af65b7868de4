/- Drain of a box. Conditions: those of each theorem. -/
import Derived.Test.YtninoghalmhngaaInts
namespace Go.Proofs.Ytninoghalmhngaa
open Go.RowKit

/-- Where Drain's loop stands: i things are taken. -/
def DrainRel (w : World) (g c n : Nat) (B : Nat → Prop) (vs : List Int) (i : Nat) (v : Value) (w' : World) : Prop :=
  w'.ownsRow w.heap.size 3 1 v i (ints (vs.take i)) ∧ BoxAt w' g c n (fun k => B k ∨ v.ownBlock = some k) (vs.drop i) ∧ Far (only c) w w'

/-- What Drain leaves. -/
def Drained (w : World) (g c n : Nat) (B : Nat → Prop) (vs : List Int) (m : Nat) (e : Ending) (w' : World) : Prop :=
  ∃ A cap, e = .returned (.slice A m cap) ∧ DrainRel w g c n B vs m (.slice A m cap) w'
theorem DrainRel.drained {w w' : World} {g c n : Nat} {B : Nat → Prop} {vs : List Int} {i m : Nat} {v : Value} (h : DrainRel w g c n B vs i v w') (hi : i = m) : Drained w g c n B vs m (.returned v) w' := by
  subst hi
  obtain ⟨A, cap, rfl, _⟩ := Vals.of_row h.1
  exact ⟨A, cap, rfl, h⟩
theorem DrainRel.start {w : World} {g c n : Nat} {B : Nat → Prop} {vs : List Int} (h : BoxAt w g c n B vs) : DrainRel w g c n B vs 0 (.slice none 0 0) w :=
  ⟨World.ownsRow_nil _ _ _ _, h.weak (B' := fun k => B k ∨ (Value.slice none 0 0).ownBlock = some k) (fun k _ e => by
    rcases e with e | e
    · exact e
    · cases e), Far.refl _ _⟩
/-- One more. -/
theorem DrainRel.next {w w1 w2 w3 : World} {g c n : Nat} {B : Nat → Prop} {vs : List Int} {i : Nat} {v v' : Value} (h : DrainRel w g c n B vs i v w1) (hb : BoxAt w2 g c n (fun k => B k ∨ v.ownBlock = some k) (vs.drop (i + 1))) (hf : Far (only c) w1 w2) {o : Obj}
    (ho : w3.ownsRow w.heap.size 3 1 v' (i + 1) (ints (vs.take (i + 1)))) (hg : (w2.alloc o).grownBy w3 v.ownBlock) (hv : v'.ownBlock = v.ownBlock ∨ v'.ownBlock = some (w2.alloc o).heap.size) : DrainRel w g c n B vs (i + 1) v' w3 := by
  obtain ⟨h1, h2, h3⟩ := h
  have hs : w.heap.size ≤ w2.heap.size := Nat.le_trans h3.size hf.size
  have hfg : Far (fun k => v.ownBlock = some k) w2 w3 := ((Far.refl _ w2).alloc o).grown hg (fun k e _ => e)
  have hrow : ∀ k, v.ownBlock = some k → w.heap.size ≤ k ∧ k < w1.heap.size := fun k e => h1.lt k e
  refine ⟨ho, ?_, ?_⟩
  · have hb2 : BoxAt w2 g c n (fun k => B k ∨ v.ownBlock = some k ∨ v'.ownBlock = some k) (vs.drop (i + 1)) := hb.weak fun k hk e => by
      rcases e with e | e | e
      · exact .inl e
      · exact .inr e
      · rcases hv with hv | hv
        · exact .inr (hv ▸ e)
        · rw [hv] at e
          simp at e
          omega
    exact (hb2.far hfg (fun k e => .inr (.inl e))).weak fun k _ e => by
      rcases e with e | e
      · exact .inl e
      · exact .inr (.inr e)
  · exact (h3.trans hf (fun _ _ e => e)).trans hfg (fun k hk e => by
      have := (hrow k e).1
      omega)

set_option maxHeartbeats 2000000 in
theorem drain_near (g c n : Nat) (B : Nat → Prop) (vs : List Int) (x : Int) (m : Nat) (w : World) (h : BoxAt w g c n B vs) (hx : x ≤ n) (hm : (m : Int) = max 0 (min x vs.length)) :
    Calls Try.prog 11 #[.pointer (some ⟨g, 0, none⟩), .int .i64 x] w fun e w' => Drained w g c n B vs m e w' := by
  have HB := Lib.hid h
  have hfit := h.fits
  have hhigh := h.high
  clear h
  have hd : decide (x ≤ (n : Int)) = true := by simp; omega
  go_enter Try.func11, Try.ntmps11
  go_wp2_with (first | (go_at_call 13; (with_reducible refine (room_is g c n B vs _ HB.out).mono ?_); rintro e w' ⟨rfl, rfl⟩))
  go_loopw [5, 6, 7, 12] (fun v _ _ y w' => ∃ i : Nat, y = .int .i64 i ∧ i ≤ vs.length ∧ (i : Int) ≤ max 0 x ∧ DrainRel w g c n B vs i v w') (fun _ _ _ y _ => vs.length + 1 - (intOf y).toNat)
  case atStart => exact ⟨0, rfl, by omega, by omega, DrainRel.start HB.out⟩
  case round =>
    obtain ⟨i, rfl, hi, hil, hr⟩ := hrel
    have HR := Lib.hid hr
    have HX := Lib.hid hr.2.1
    have HO := Lib.hid hr.1
    have hgs : g < wr.heap.size ∧ c < wr.heap.size := hr.2.1.lt
    have hws : w.heap.size ≤ wr.heap.size := hr.2.2.size
    clear hr
    obtain ⟨A1, c1, rfl, hnc, _⟩ := Vals.of_row HO.out
    by_cases hlt : (i : Int) < x
    · have hd2 : decide ((i : Int) < x) = true := by simpa using hlt
      by_cases hend : i < vs.length
      · have HY : Hid (BoxAt wr g c n (fun k => B k ∨ (Value.slice A1 i c1).ownBlock = some k) (vs.getD i 0 :: vs.drop (i + 1))) := by
          have := HX.out
          rw [drop_at hend] at this
          exact this
        have HC : Hid (∀ k, (Value.slice A1 i c1).ownBlock = some k → k ≠ c) := fun k e h => HX.out.apart.2 (.inr (h ▸ e))
        have HT := Lib.hid (take_snoc hend)
        generalize vs.getD i 0 = z at HY HT
        go_wp2_with (first | (go_at_call 12; (with_reducible refine (take_some g c n _ _ _ _ HY.out).mono ?_); rintro e w2 ⟨rfl, hb2, hf2⟩; have B2 := Lib.hid hb2; have F2 := Lib.hid hf2; have O2 := Lib.hid (hf2.row HO.out (fun k e h => HC.out k e h)); clear hb2 hf2) | (at_builtin; refine wpList_app rfl (.tmp 21) (.tmp 23) rfl w.heap.size (.slice A1 i c1) i (vs.take i) rfl (by exact O2.out.alloc _) (some ⟨w2.heap.size, 0, none⟩) 1 1 [z] rfl (by exact Vals.of_blk (vs := ints [z]) (Blk.new w2 3 (ints [z])) rfl) (i + 1) rfl (vs.take (i + 1)) HT.out (by omega) (by have := F2.out.size; simp; omega) ?_; intro A' c' w' H1 H2 H3))
        go_roundw
        case rel => exact ⟨i + 1, by go_num, by omega, by omega, DrainRel.next HR.out B2.out F2.out H1.out H2.out H3.out⟩
        case measure => simp [intOf]; omega
      · have HY : Hid (BoxAt wr g c n (fun k => B k ∨ (Value.slice A1 i c1).ownBlock = some k) []) := by
          have := HX.out
          rw [List.drop_eq_nil_of_le (by omega)] at this
          exact this
        go_wp2_with (first | (go_at_call 12; (with_reducible refine (take_none g c n _ _ HY.out).mono ?_); rintro e w2 ⟨rfl, rfl⟩))
        go_ret
        exact HR.out.drained (by omega)
    · have hd2 : decide ((i : Int) < x) = false := by simpa using hlt
      go_wp2
      go_ret
      exact HR.out.drained (by omega)

set_option maxHeartbeats 2000000 in
theorem drain_far (g c n : Nat) (B : Nat → Prop) (vs : List Int) (x : Int) (m : Nat) (w : World) (h : BoxAt w g c n B vs) (hx : n < x) (hm : (m : Int) = max 0 (min x vs.length)) :
    Calls Try.prog 11 #[.pointer (some ⟨g, 0, none⟩), .int .i64 x] w fun e w' => Drained w g c n B vs m e w' := by
  have HB := Lib.hid h
  have hfit := h.fits
  have hhigh := h.high
  clear h
  have hd : decide (x ≤ (n : Int)) = false := by simp; omega
  go_enter Try.func11, Try.ntmps11
  go_wp2_with (first | (go_at_call 13; (with_reducible refine (room_is g c n B vs _ HB.out).mono ?_); rintro e w' ⟨rfl, rfl⟩))
  go_loopw [5, 6, 7, 12] (fun v _ _ y w' => ∃ i : Nat, y = .int .i64 i ∧ i ≤ vs.length ∧ (i : Int) ≤ max 0 (n : Int) ∧ DrainRel w g c n B vs i v w') (fun _ _ _ y _ => vs.length + 1 - (intOf y).toNat)
  case atStart => exact ⟨0, rfl, by omega, by omega, DrainRel.start HB.out⟩
  case round =>
    obtain ⟨i, rfl, hi, hil, hr⟩ := hrel
    have HR := Lib.hid hr
    have HX := Lib.hid hr.2.1
    have HO := Lib.hid hr.1
    have hgs : g < wr.heap.size ∧ c < wr.heap.size := hr.2.1.lt
    have hws : w.heap.size ≤ wr.heap.size := hr.2.2.size
    clear hr
    obtain ⟨A1, c1, rfl, hnc, _⟩ := Vals.of_row HO.out
    by_cases hlt : (i : Int) < (n : Int)
    · have hd2 : decide ((i : Int) < (n : Int)) = true := by simpa using hlt
      by_cases hend : i < vs.length
      · have HY : Hid (BoxAt wr g c n (fun k => B k ∨ (Value.slice A1 i c1).ownBlock = some k) (vs.getD i 0 :: vs.drop (i + 1))) := by
          have := HX.out
          rw [drop_at hend] at this
          exact this
        have HC : Hid (∀ k, (Value.slice A1 i c1).ownBlock = some k → k ≠ c) := fun k e h => HX.out.apart.2 (.inr (h ▸ e))
        have HT := Lib.hid (take_snoc hend)
        generalize vs.getD i 0 = z at HY HT
        go_wp2_with (first | (go_at_call 12; (with_reducible refine (take_some g c n _ _ _ _ HY.out).mono ?_); rintro e w2 ⟨rfl, hb2, hf2⟩; have B2 := Lib.hid hb2; have F2 := Lib.hid hf2; have O2 := Lib.hid (hf2.row HO.out (fun k e h => HC.out k e h)); clear hb2 hf2) | (at_builtin; refine wpList_app rfl (.tmp 21) (.tmp 23) rfl w.heap.size (.slice A1 i c1) i (vs.take i) rfl (by exact O2.out.alloc _) (some ⟨w2.heap.size, 0, none⟩) 1 1 [z] rfl (by exact Vals.of_blk (vs := ints [z]) (Blk.new w2 3 (ints [z])) rfl) (i + 1) rfl (vs.take (i + 1)) HT.out (by omega) (by have := F2.out.size; simp; omega) ?_; intro A' c' w' H1 H2 H3))
        go_roundw
        case rel => exact ⟨i + 1, by go_num, by omega, by omega, DrainRel.next HR.out B2.out F2.out H1.out H2.out H3.out⟩
        case measure => simp [intOf]; omega
      · have HY : Hid (BoxAt wr g c n (fun k => B k ∨ (Value.slice A1 i c1).ownBlock = some k) []) := by
          have := HX.out
          rw [List.drop_eq_nil_of_le (by omega)] at this
          exact this
        go_wp2_with (first | (go_at_call 12; (with_reducible refine (take_none g c n _ _ HY.out).mono ?_); rintro e w2 ⟨rfl, rfl⟩))
        go_ret
        exact HR.out.drained (by omega)
    · have hd2 : decide ((i : Int) < (n : Int)) = false := by simpa using hlt
      go_wp2
      go_ret
      exact HR.out.drained (by omega)

/-- Drain, whatever is asked for. -/
theorem drain_any (g c n : Nat) (B : Nat → Prop) (vs : List Int) (x : Int) (m : Nat) (w : World) (h : BoxAt w g c n B vs) (hm : (m : Int) = max 0 (min x vs.length)) :
    Calls Try.prog 11 #[.pointer (some ⟨g, 0, none⟩), .int .i64 x] w fun e w' => Drained w g c n B vs m e w' := by
  by_cases hx : x ≤ n
  · exact drain_near g c n B vs x m w h hx hm
  · exact drain_far g c n B vs x m w h (by omega) hm
end Go.Proofs.Ytninoghalmhngaa
