/- The contracts of quota's New and of the laws' awake. Conditions: those of each theorem. -/
import Derived.Test.YtgjicnjibhofkaaActs
namespace Go.Proofs.Ytgjicnjibhofkaa
open Go.RowKit

theorem info2 : (Try.prog.info? 2).map (fun i => (i.zero, i.size, i.bytes)) = some (some (.int .i64 0), 1, 8) := by kernel_rfl
theorem made_nums (n : Nat) : madeCells #[Value.int .i64 0] n = (nums (List.replicate n 0)).toArray := by
  apply Array.ext'
  rw [toList_madeCells_one]
  simp [nums]
/-- What New answers. -/
def NewPost (n R S : Nat) (w : World) (e : Ending) (w' : World) : Prop :=
  ∃ g q, e = .returned (.tuple #[.pointer (some ⟨g, 0, none⟩), .int .i64 0]) ∧ QAt w' g q R S (List.replicate n 0) ∧ w.heap.size ≤ g ∧ w.heap.size ≤ q ∧ Below w.heap.size w w'
theorem new_post (n R S : Nat) (w : World) (h0 : 1 ≤ n) (h1 : n ≤ 129) (hR : R ≤ 1073741824) (hS : S ≤ 1073741824) :
    NewPost n R S w (.returned (.tuple #[.pointer (some ⟨w.heap.size + 1, 0, none⟩), .int .i64 0])) ((w.alloc (.cells (nums (List.replicate n 0)).toArray 2)).alloc (.cells #[.int .i64 (R : Nat), .int .i64 (S : Nat), .slice (some ⟨w.heap.size, 0, none⟩) n n, .int .i64 0] 49)) := by
  refine ⟨w.heap.size + 1, w.heap.size, rfl, ⟨?_, (Blk.new w 2 (nums (List.replicate n 0))).alloc _, by omega, Ok.new h0 h1 hR hS⟩, by omega, by omega, ((Below.refl _ _).alloc (Nat.le_refl _) _).alloc (by simp) _⟩
  have := Blk.new (w.alloc (.cells (nums (List.replicate n 0)).toArray 2)) 49 [.int .i64 (R : Nat), .int .i64 (S : Nat), .slice (some ⟨w.heap.size, 0, none⟩) n n, .int .i64 0]
  unfold HeadAt
  rw [used_zero]
  simpa using this
set_option maxHeartbeats 1000000 in
theorem new_ (n R S : Nat) (x y z : Int) (w : World) (hx : x = n) (hy : y = R) (hz : z = S) (h0 : 1 ≤ n) (h1 : n ≤ 129) (hR : R ≤ 1073741824) (hS : S ≤ 1073741824) :
    Calls Try.prog 8 #[.int .i64 x, .int .i64 y, .int .i64 z] w (NewPost n R S w) := by
  subst hx hy hz
  have hmk := fun W => run_make_row' (P := Try.prog) 30 2 (.int .i64 0) 8 Try.underlying30 info2 rfl .i64 .i64 n (by omega) (by omega) W
  rw [made_nums] at hmk
  have hd : decide ((n : Int) < 1) = false := by simp; omega
  have hd2 : decide ((129 : Int) < (n : Int)) = false := by simp; omega
  have hi1 : isz (R : Int) = true := by simp [isz]; omega
  have hi2 : isz (S : Int) = true := by simp [isz]; omega
  have HP := Lib.hid (new_post n R S w h0 h1 hR hS)
  go_enter Try.func8, Try.ntmps8
  go_wp2_with (first | (go_at_call 22; (with_reducible refine (isSize_ (R : Int) _).mono ?_); rintro e w' ⟨rfl, rfl⟩; rw [hi1]) | (go_at_call 22; (with_reducible refine (isSize_ (S : Int) _).mono ?_); rintro e w' ⟨rfl, rfl⟩; rw [hi2]))
  go_ret2
  exact HP.out
set_option maxHeartbeats 400000 in
theorem newbad (x y z : Int) (w : World) (h : x < 1 ∨ 129 < x ∨ isz y = false ∨ isz z = false) : Calls Try.prog 8 #[.int .i64 x, .int .i64 y, .int .i64 z] w fun e w' => e = .returned (.tuple #[.pointer none, .int .i64 1]) ∧ w = w' := by
  by_cases h1 : x < 1
  · have hd : decide (x < 1) = true := by simpa using h1
    clear h
    go_enter Try.func8, Try.ntmps8
    go_wp2
    go_ret2
    exact ⟨rfl, rfl⟩
  · have hd : decide (x < 1) = false := by simpa using h1
    by_cases h2 : 129 < x
    · have hd2 : decide ((129 : Int) < x) = true := by simp; omega
      clear h
      go_enter Try.func8, Try.ntmps8
      go_wp2
      go_ret2
      exact ⟨rfl, rfl⟩
    · have hd2 : decide ((129 : Int) < x) = false := by simp; omega
      rcases hi1 : isz y with _ | _
      · clear h
        go_enter Try.func8, Try.ntmps8
        go_wp2_with (go_at_call 22; (with_reducible refine (isSize_ y _).mono ?_); rintro e w' ⟨rfl, rfl⟩; rw [hi1])
        go_ret2
        exact ⟨rfl, rfl⟩
      · have hi2 : isz z = false := by
          rcases h with h | h | h | h
          · omega
          · omega
          · rw [hi1] at h; cases h
          · exact h
        clear h
        go_enter Try.func8, Try.ntmps8
        go_wp2_with (first | (go_at_call 22; (with_reducible refine (isSize_ y _).mono ?_); rintro e w' ⟨rfl, rfl⟩; rw [hi1]) | (go_at_call 22; (with_reducible refine (isSize_ z _).mono ?_); rintro e w' ⟨rfl, rfl⟩; rw [hi2]))
        go_ret2
        exact ⟨rfl, rfl⟩
set_option maxHeartbeats 1000000 in
theorem awake_any (w : World) : Calls Try.prog 7 #[] w fun e w' => e = .returned (.bool true) ∧ Below w.heap.size w w' := by
  go_enter Try.func7, Try.ntmps7
  go_wp2_with fail
  refine (new_ 2 10 5 2 10 5 _ rfl rfl rfl (by decide) (by decide) (by decide) (by decide)).mono ?_
  rintro e w1 ⟨g, q, rfl, hr, a1, a2, hb⟩
  have HR : Hid (QAt w1 g q 10 5 [0, 0]) := hr
  have HB := Lib.hid hb
  clear hr hb
  go_wp2_with fail
  refine (add_ g q 10 5 0 15 [0, 0] _ HR.out).mono ?_
  rintro e w2 ⟨rfl, hq2, hf2⟩
  have e1 : fits 10 5 [0, 0] 0 15 = true := by decide
  have e2 : addOf 10 5 [0, 0] 0 15 = [15, 0] := by decide
  rw [e2] at hq2
  rw [e1]
  have Q2 := Lib.hid hq2
  have B2 : Hid (Below w.heap.size w w2) := below_two HB.out hf2 a1 a2 HB.out.size
  clear hq2 hf2 e1 e2 HB
  go_wp2_with fail
  refine (add_ g q 10 5 0 1 [15, 0] _ Q2.out).mono ?_
  rintro e w3 ⟨rfl, hq3, hf3⟩
  have e1 : fits 10 5 [15, 0] 0 1 = false := by decide
  have e2 : addOf 10 5 [15, 0] 0 1 = [15, 0] := by decide
  rw [e2] at hq3
  rw [e1]
  have Q3 := Lib.hid hq3
  have B3 : Hid (Below w.heap.size w w3) := below_two B2.out hf3 a1 a2 B2.out.size
  clear hq3 hf3 e1 e2 B2
  go_wp2_with fail
  refine (shared_ g q 10 5 [15, 0] _ Q3.out).mono ?_
  rintro e w4 ⟨rfl, rfl⟩
  have e1 : used 10 [15, 0] = 5 := by decide
  rw [e1]
  clear e1
  go_wp2_with fail
  refine (fits_ g q 10 5 1 10 [15, 0] _ Q3.out).mono ?_
  rintro e w5 ⟨rfl, N, rfl⟩
  have e1 : fits 10 5 [15, 0] 1 10 = true := by decide
  rw [e1]
  clear e1
  go_wp2_with fail
  go_ret
  exact ⟨rfl, below_drewN B3.out N⟩
end Go.Proofs.Ytgjicnjibhofkaa
