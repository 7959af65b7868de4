/- The contract of the laws' awake; a box of one. Conditions: the program's contracts. -/
import Derived.Test.YtpjeeccgpnpokaaProgs
namespace Go.Proofs.Ytpjeeccgpnpokaa
open Go.RowKit

/-- A new variable that is a prefix. -/
theorem wpList_newp {ops : Array Oper} {rest : List Oper} {o : Oper} {a : Act} {Q : Exit → Act → World → Prop} (hgd : o.guard = none) (x y : Operand) (ho : o.op = .store 31 x y) (z : World) (p : Pre)
    (hx : a.eval x = .pointer (some ⟨z.heap.size, 0, none⟩)) (hy : a.eval y = .agg p.cs.toArray)
    (h : ∀ w', Hid (Blk w' z.heap.size 31 p.cs) → Hid (Below z.heap.size z w') → wpList Try.prog ops Q rest (a.put o.dst undef) w') : wpList Try.prog ops Q (o :: rest) a (z.alloc (.cells #[.bool false, .int .u8 0, .int .u8 0, .int .u8 0, .int .u8 0, .int .u8 0, .int .u8 0, .int .u8 0] 31)) :=
  wpList_lay hgd 31 8 size25 x y ho z.heap.size p.cs hx hy 31 pre0.cs (Blk.new z 31 pre0.cs) rfl (cs8 _) (all_oneCell_toArray (pre_each p)) fun w' hb hf =>
    h w' hb (below_only ((Below.refl _ _).alloc (Nat.le_refl _) _) hf.out (Nat.le_refl _) (by simp))
/-- A box of one that never has tokens again. -/
def cf1 (t : Int) : Cfg := ⟨1, t, 0, 5⟩
theorem cf1_ok {t : Int} (h : 1 ≤ t ∧ t ≤ 1099511627776) : (cf1 t).Ok := ⟨⟨h.1, by show t ≤ _; omega⟩, ⟨by show (0 : Int) ≤ 0; omega, by show (0 : Int) ≤ _; omega⟩, ⟨by show (1 : Int) ≤ 5; omega, by show (5 : Int) ≤ _; omega⟩, ⟨by show (1 : Int) ≤ 1; omega, by show (1 : Int) ≤ 64; omega⟩⟩
def en1 (t : Int) (p : Pre) (x : Int) : Ent := ⟨p, x + t, 5242880, x⟩
section
variable {t x : Int} {p : Pre}
theorem new1 (ht : 1 ≤ t ∧ t ≤ 1099511627776) (hx : 0 ≤ x ∧ x < 1099511627776) : newE (cf1 t) p x = en1 t p x := by
  have h1 : clm x = x := by unfold clm; rw [if_neg (by omega)]
  have h2 : cnt x = x := cnt_id (by omega) (by omega)
  have h3 : cnt t = t := cnt_id (by omega) (by omega)
  have h4 : addC x t = x + t := by unfold addC; rw [if_neg (by omega)]
  unfold newE en1 cf1
  rw [h1, h2, h3, h4]
  rfl
theorem right1 (ht : 1 ≤ t ∧ t ≤ 1099511627776) (hx : 0 ≤ x ∧ x < 1099511627776) (hp : p.Ok) : Oks (cf1 t) [en1 t p x] := fun e he => by
  rw [List.mem_singleton] at he
  subst he
  refine ⟨hp, ⟨by show _ ≤ x + t; omega, by show x + t ≤ _; omega⟩, ?_⟩
  show Ok 0 (5 * 1048576) 5242880 x
  constructor <;> omega
theorem swp_nil (y : Int) : swp [] y = [] := rfl
theorem swp1_in (y : Int) (h0 : 0 ≤ y) (h : y < x + t) : swp [en1 t p x] y = [en1 t p x] := by
  have h1 : clm y = y := by unfold clm; rw [if_neg (by omega)]
  simp [swp, en1, h1, h]
theorem swp1_out (y : Int) (h0 : 0 ≤ y) (h : x + t ≤ y) : swp [en1 t p x] y = [] := by
  have h1 : clm y = y := by unfold clm; rw [if_neg (by omega)]
  simp [swp, en1, h1]
  omega
theorem has1 : has [en1 t p x] p = true := has_mem.2 ⟨en1 t p x, by simp, rfl⟩
theorem has0 : has [] p = false := rfl
theorem idx1 : idx [en1 t p x] p = 0 := by
  have := has_iff.1 (has1 (t := t) (p := p) (x := x))
  simp at this
  exact this
theorem put1 (ht : 1 ≤ t ∧ t ≤ 1099511627776) (hx : 0 ≤ x ∧ x < 1099511627776) : putS (cf1 t) [] p x = [en1 t p x] ∧ putE (cf1 t) [] p = 0 := by
  have h : ¬ (cf1 t).room ≤ (([] : List Ent).length : Int) := by show ¬ (1 : Int) ≤ 0; omega
  unfold putS putE
  rw [has0, if_neg (by simp), if_neg h, if_neg (by simp), if_neg h, new1 ht hx]
  exact ⟨rfl, rfl⟩
theorem put2 : putS (cf1 t) [en1 t p x] p x = [en1 t p x] ∧ putE (cf1 t) [en1 t p x] p = 7 := by
  unfold putS putE
  rw [has1, if_pos rfl, if_pos rfl]
  exact ⟨rfl, rfl⟩
theorem del1 : del [en1 t p x] p = [] := by
  unfold del
  rw [has1, if_pos rfl, idx1]
  rfl
theorem del0 : del [] p = [] := by
  unfold del
  rw [has0, if_neg (by simp)]
end
section
variable {T : Tbl} {w W : World} {g : Nat} {F : Nat → Prop} {t x y : Int} {p : Pre}
/-- What the laws ask of a box of one. -/
theorem one_put (P : ProgB T) (h : At T w g (cf1 t) [] F W) (ht : 1 ≤ t ∧ t ≤ 1099511627776) (hx : 0 ≤ x ∧ x < 1099511627776) (hp : p.Ok) : Calls Try.prog 8 #[.pointer (some ⟨g, 0, none⟩), .agg p.cs.toArray, .int .i64 x] W (Act1 T w g (cf1 t) [en1 t p x] F (.int .i64 0) W) := by
  have := h.put P (cf1_ok ht) (fun _ he => by cases he) hp (x := x) ⟨by omega, by omega⟩
  rwa [swp_nil, (put1 ht hx).1, (put1 ht hx).2] at this
theorem one_twice (P : ProgB T) (h : At T w g (cf1 t) [en1 t p x] F W) (ht : 1 ≤ t ∧ t ≤ 1099511627776) (hx : 0 ≤ x ∧ x < 1099511627776) (hp : p.Ok) : Calls Try.prog 8 #[.pointer (some ⟨g, 0, none⟩), .agg p.cs.toArray, .int .i64 x] W (Act1 T w g (cf1 t) [en1 t p x] F (.int .i64 7) W) := by
  have := h.put P (cf1_ok ht) (right1 ht hx hp) hp (x := x) ⟨by omega, by omega⟩
  rwa [swp1_in x (by omega) (by omega), put2.1, put2.2] at this
theorem one_in (P : ProgB T) (h : At T w g (cf1 t) [en1 t p x] F W) (ht : 1 ≤ t ∧ t ≤ 1099511627776) (hx : 0 ≤ x ∧ x < 1099511627776) (hp : p.Ok) (hy : 0 ≤ y ∧ y < x + t) : Calls Try.prog 9 #[.pointer (some ⟨g, 0, none⟩), .agg p.cs.toArray, .int .i64 y] W (Act1 T w g (cf1 t) [en1 t p x] F (.bool true) W) := by
  have := h.inn P (cf1_ok ht) (right1 ht hx hp) hp (x := y) ⟨by omega, by omega⟩
  rwa [swp1_in y hy.1 hy.2, has1] at this
theorem one_out (P : ProgB T) (h : At T w g (cf1 t) [en1 t p x] F W) (ht : 1 ≤ t ∧ t ≤ 1099511627776) (hx : 0 ≤ x ∧ x < 1099511627776) (hp : p.Ok) (hy : y = x + t) : Calls Try.prog 9 #[.pointer (some ⟨g, 0, none⟩), .agg p.cs.toArray, .int .i64 y] W (Act1 T w g (cf1 t) [] F (.bool false) W) := by
  have := h.inn P (cf1_ok ht) (right1 ht hx hp) hp (x := y) ⟨by omega, by omega⟩
  rwa [swp1_out y (by omega) (by omega), has0] at this
theorem one_drop (P : ProgB T) (h : At T w g (cf1 t) [en1 t p x] F W) (ht : 1 ≤ t ∧ t ≤ 1099511627776) (hx : 0 ≤ x ∧ x < 1099511627776) (hp : p.Ok) : Calls Try.prog 16 #[.pointer (some ⟨g, 0, none⟩), .agg p.cs.toArray, .int .i64 x] W (Act1 T w g (cf1 t) [] F (.bool true) W) := by
  have := h.drop P (cf1_ok ht) (right1 ht hx hp) hp (x := x) ⟨by omega, by omega⟩
  rwa [swp1_in x (by omega) (by omega), del1, has1] at this
theorem none_in (P : ProgB T) (h : At T w g (cf1 t) [] F W) (ht : 1 ≤ t ∧ t ≤ 1099511627776) (hx : 0 ≤ x ∧ x < 1099511627776) (hp : p.Ok) : Calls Try.prog 9 #[.pointer (some ⟨g, 0, none⟩), .agg p.cs.toArray, .int .i64 x] W (Act1 T w g (cf1 t) [] F (.bool false) W) := by
  have := h.inn P (cf1_ok ht) (fun _ he => by cases he) hp (x := x) ⟨by omega, by omega⟩
  rwa [swp_nil, has0] at this
theorem none_drop (P : ProgB T) (h : At T w g (cf1 t) [] F W) (ht : 1 ≤ t ∧ t ≤ 1099511627776) (hx : 0 ≤ x ∧ x < 1099511627776) (hp : p.Ok) : Calls Try.prog 16 #[.pointer (some ⟨g, 0, none⟩), .agg p.cs.toArray, .int .i64 x] W (Act1 T w g (cf1 t) [] F (.bool false) W) := by
  have := h.drop P (cf1_ok ht) (fun _ he => by cases he) hp (x := x) ⟨by omega, by omega⟩
  rwa [swp_nil, del0, has0] at this
/-- A new one; what lay there ahead of it is left alone. -/
theorem one_new (P : ProgB T) (hb : Below w.heap.size w W) (ht : 1 ≤ t ∧ t ≤ 1099511627776) (hF : ∀ j, F j → j < W.heap.size) :
    Calls Try.prog 7 #[.int .i64 1, .int .i64 t, .int .i64 0, .int .i64 5] W fun e W' => ∃ g, e = .returned (.tuple #[.pointer (some ⟨g, 0, none⟩), .int .i64 0]) ∧ At T w g (cf1 t) [] F W' ∧ Below W.heap.size W W' :=
  (P.new (cf1 t) W (cf1_ok ht)).mono fun _ _ ⟨g, b, he, hT, hbl, hb'⟩ => ⟨g, he, ⟨b, hT, fun j hj => ⟨Nat.le_trans hb.size (hbl j hj), fun e => by have := hF j e; have := hbl j hj; omega⟩, fun j hj => Nat.lt_of_lt_of_le (hF j hj) hb'.size, hb.trans (hb'.mono hb.size)⟩, hb'⟩
theorem blk_act {pb : Nat} {cs : List Value} {ty : TypeId} {W' : World} (h : Blk W pb ty cs) (hf : Far (free w (only pb)) W W') : Blk W' pb ty cs := h.far hf (fun n => n.2 rfl)
end
theorem nob {W : World} : ∀ j, nobody j → j < W.heap.size := fun _ e => False.elim e
theorem pre0_ok' : pre0.Ok := ⟨by decide⟩
set_option maxRecDepth 100000 in
set_option maxHeartbeats 1000000 in
theorem awake_ (T : Tbl) (P : ProgB T) (w : World) : Calls Try.prog 6 #[] w (Ans (.bool true) w) := by
  have HP := Lib.hid P
  clear P
  go_enter Try.func6, Try.ntmps6
  go_upto_region 2 with (go_at_call 7; (with_reducible refine (one_new (t := 10) (F := nobody) HP.out (Below.refl _ w) (by omega) nob).mono ?_); rintro e w1 ⟨g, rfl, ha, _⟩; have A1 := Lib.hid ha; clear ha)
  go_upto_region 3 with (first | (refine wpList_build rfl 31 [] rfl [] rfl pre0.cs (run_pre0 _) ?_) | (refine wpList_newp rfl (.tmp 3) (.tmp 8) rfl w1 pre0 rfl rfl ?_; intro w2 hp2 hb2; have K2 := Lib.hid hp2.out; have A2 : Hid (At T w g (cf1 10) [] (only w1.heap.size) w2) := (A1.out.grow HP.out hb2.out).less (fun j e => .inr (by have := hp2.out.lt; unfold only at e; omega)); clear hp2 hb2))
  clear A1
  generalize w1.heap.size = pb at *
  go_wp2_with (first
    | (refine wpList_pre (by rfl) (.tmp 3) rfl pb 0 rfl pre0 (whole_at K2.out) ?_)
    | (go_at_call 8; (with_reducible refine (one_put (x := 0) HP.out A2.out (by omega) (by omega) pre0_ok').mono ?_); rintro e w3 ⟨rfl, ha, hf⟩; have A3 := Lib.hid ha; have K3 := Lib.hid (blk_act K2.out hf); clear ha hf)
    | (refine wpList_pre (by rfl) (.tmp 3) rfl pb 0 rfl pre0 (whole_at K3.out) ?_)
    | (go_at_call 9; (with_reducible refine (one_in (x := 0) (y := 9) HP.out A3.out (by omega) (by omega) pre0_ok' (by omega)).mono ?_); rintro e w4 ⟨rfl, ha, hf⟩; have A4 := Lib.hid ha; have K4 := Lib.hid (blk_act K3.out hf); clear ha hf)
    | (refine wpList_pre (by rfl) (.tmp 3) rfl pb 0 rfl pre0 (whole_at K4.out) ?_)
    | (go_at_call 9; (with_reducible refine (one_out (x := 0) (y := 10) HP.out A4.out (by omega) (by omega) pre0_ok' (by omega)).mono ?_); rintro e w5 ⟨rfl, ha, hf⟩; have A5 := Lib.hid ha; clear ha hf))
  go_ret
  exact ⟨rfl, A5.out.be⟩
end Go.Proofs.Ytpjeeccgpnpokaa
