/- The contract of the laws' awake; what came in: prefixes and numbers. Conditions: those of each theorem. -/
import Derived.Test.YtgmbkmlnoehomaaNews
import Derived.Deep.Slices
namespace Go.Proofs.Ytgmbkmlnoehomaa
open Go.ChangeShapes Go.WideShapes Go.ChangeAt Go.RowKit

theorem pre6_ok : pre6.Ok := ⟨by decide⟩
theorem below_far {B : Nat} {g q : Nat} {a w w' : World} (h : Below B a w) (hf : Far (two g q) w w') (hg : B ≤ g) (hq : B ≤ q) (hB : B ≤ w.heap.size) : Below B a w' :=
  h.trans (hf.below hB (fun k hk e => by rcases e with e | e <;> omega))
set_option maxHeartbeats 1000000 in
theorem awake_any (w : World) : Calls Try.prog 8 #[] w fun e w' => e = .returned (.bool true) ∧ Below w.heap.size w w' := by
  have L1 : Hid (stp 1 [] pre0 5 = [⟨pre0, 5, 0⟩] ∧ addK 0 5 = 5) := by show _ ∧ _; decide
  have L2 : Hid (stp 1 [⟨pre0, 5, 0⟩] pre6 1 = [⟨pre6, 6, 5⟩] ∧ addK 5 1 = 6 ∧ at_ [⟨pre6, 6, 5⟩] (pos 1 [⟨pre0, 5, 0⟩] pre6) = ⟨pre6, 6, 5⟩) := by show _ ∧ _ ∧ _; decide
  go_enter Try.func8, Try.ntmps8
  go_upto_region 2 with (go_at_call 9; (with_reducible refine (new_x 1 1 _ rfl (by omega) (by omega)).mono ?_); rintro e w1 ⟨g, q, rfl, hs, hg, hq, hb⟩; have S1 := Lib.hid hs; have B1 := Lib.hid hb; clear hs hb)
  go_upto_region 3 with (first | (refine wpList_build rfl 25 [] rfl [] rfl pre0.cs (run_pre0 _) ?_) | (go_at_call 10; (with_reducible refine (add_ g q 1 [] 0 pre0 5 _ S1.out pre0_ok).mono ?_); rintro e w2 ⟨rfl, hs, hf⟩; rw [L1.out.1, L1.out.2] at hs; have S2 := Lib.hid hs; have B2 := Lib.hid (below_far B1.out hf hg hq B1.out.size); clear hs hf))
  go_upto_region 4 with (first | (refine wpList_build rfl 25 [(0, .const (.bool true))] rfl [(0, .bool true)] rfl pre6.cs (run_pre6 _) ?_) | (go_at_call 10; (with_reducible refine (add_ g q 1 [⟨pre0, 5, 0⟩] 5 pre6 1 _ S2.out pre6_ok).mono ?_); rintro e w3 ⟨rfl, hs, hf⟩; rw [L2.out.1, L2.out.2.1] at hs; rw [L2.out.1, L2.out.2.2]; have S3 := Lib.hid hs; have B3 := Lib.hid (below_far B2.out hf hg hq B2.out.size); clear hs hf) | (refine wpList_new rfl (.tmp 3) (.tmp 13) rfl w3 ⟨pre6, 6, 5⟩ rfl rfl ?_; intro w4 K4 hb4; have S4 := Lib.hid (S3.out.below hb4.out); have B4 : Hid (Below w.heap.size w w4) := B3.out.trans (hb4.out.mono B3.out.size); clear hb4; have c8 : w4.cell? ⟨w3.heap.size, 8, none⟩ = some (.int .i64 6) := K4.out.cell 8; have c9 : w4.cell? ⟨w3.heap.size, 9, none⟩ = some (.int .i64 5) := K4.out.cell 9))
  go_wp2_with (go_at_call 12; (with_reducible refine (total_ g q 1 _ 6 _ S4.out).mono ?_); rintro e w5 ⟨rfl, rfl⟩)
  go_ret
  exact ⟨rfl, B4.out⟩

/-- What came in: prefixes and numbers. -/
def SeenIn (w : World) (A : Option Addr) (n : Nat) (P : Nat → Pre) (X : Nat → Int) : Prop :=
  ∀ k, k < n → ∃ b o, A = some ⟨b, o, none⟩ ∧ w.rangeAt b (o + k * 9) ((P k).cs ++ [.int .i64 (X k)]) ∧ (P k).Ok ∧ -9223372036854775808 ≤ X k ∧ X k ≤ 9223372036854775807
theorem SeenIn.far {w w' : World} {A : Option Addr} {n : Nat} {P : Nat → Pre} {X : Nat → Int} (h : SeenIn w A n P X) (hb : Below w.heap.size w w') : SeenIn w' A n P X := fun k hk => by
  obtain ⟨b, o, e, h1, h2⟩ := h k hk
  exact ⟨b, o, e, fun j v hv => (hb.cell (World.block_lt_of_cell? w _ (h1 j v hv))).trans (h1 j v hv), h2⟩
theorem seen_pre {w : World} {b o : Nat} {p : Pre} {x : Int} (h : w.rangeAt b o (p.cs ++ [.int .i64 x])) : w.rangeAt b o p.cs := fun j v hv =>
  h j v (by rw [List.getElem?_append_left (List.getElem?_eq_some_iff.1 hv).1]; exact hv)
theorem seen_num {w : World} {b o : Nat} {p : Pre} {x : Int} (h : w.rangeAt b o (p.cs ++ [.int .i64 x])) : w.cell? ⟨b, o + 8, none⟩ = some (.int .i64 x) := h 8 _ rfl
end Go.Proofs.Ytgmbkmlnoehomaa
