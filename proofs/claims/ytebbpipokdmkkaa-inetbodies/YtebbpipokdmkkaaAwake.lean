/- A struct's new variable as a step; the contract of the laws' awake: it returns true. Conditions: those of each theorem. -/
import Derived.Test.YtebbpipokdmkkaaHead
import Derived.Test.YtebbpipokdmkkaaParse
namespace Go.Proofs.Ytebbpipokdmkkaa
open Go.RowKit

theorem wpList_var26 {ops : Array Oper} {rest : List Oper} {o : Oper} {a : Act} {Q : Exit → Act → World → Prop} (hgd : o.guard = none) (x y : Operand) (ho : o.op = .store 26 x y) (z : World) (xs : List Value)
    (hx : a.eval x = .pointer (some ⟨z.heap.size, 0, none⟩)) (hy : a.eval y = .agg xs.toArray) (hxl : xs.length = 35) (h1 : xs.toArray.all (·.oneCell') = true)
    (h : ∀ w', Hid (Blk w' z.heap.size 26 xs) → Hid (Below z.heap.size z w') → wpList Try.prog ops Q rest (a.put o.dst undef) w') : wpList Try.prog ops Q (o :: rest) a (z.alloc (.cells #[.int .u8 0, .int .u8 0, .int .u8 0, .int .u8 0, .int .u8 0, .int .u8 0, .int .u8 0, .int .u8 0, .int .u8 0, .int .u8 0, .int .u8 0, .int .u8 0, .int .u8 0, .int .u8 0, .int .u8 0, .int .u8 0, .int .u8 0, .int .u8 0, .int .u8 0, .int .u8 0, .int .u8 0, .int .u8 0, .int .u8 0, .int .u8 0, .int .u8 0, .int .u8 0, .int .u8 0, .int .u8 0, .int .u8 0, .int .u8 0, .int .u8 0, .int .u8 0, .int .u8 0, .slice none 0 0, .bool false] 26)) :=
  wpList_put hgd 26 size26 x y ho z.heap.size xs hx hy 26 (net 0 zz zz (.slice none 0 0) false) (Blk.new z 26 (net 0 zz zz (.slice none 0 0) false)) (net_length zz_sixteen zz_sixteen) hxl h1 fun w' hb hf =>
    h w' hb (below_only ((Below.refl _ _).alloc (Nat.le_refl _) _) hf.out (Nat.le_refl _) (by simp))
theorem wpList_var30 {ops : Array Oper} {rest : List Oper} {o : Oper} {a : Act} {Q : Exit → Act → World → Prop} (hgd : o.guard = none) (x y : Operand) (ho : o.op = .store 30 x y) (z : World) (xs : List Value)
    (hx : a.eval x = .pointer (some ⟨z.heap.size, 0, none⟩)) (hy : a.eval y = .agg xs.toArray) (hxl : xs.length = 35) (h1 : xs.toArray.all (·.oneCell') = true)
    (h : ∀ w', Hid (Blk w' z.heap.size 30 xs) → Hid (Below z.heap.size z w') → wpList Try.prog ops Q rest (a.put o.dst undef) w') : wpList Try.prog ops Q (o :: rest) a (z.alloc (.cells #[.int .u8 0, .int .u8 0, .int .u8 0, .int .u8 0, .int .u8 0, .int .u8 0, .int .u8 0, .int .u8 0, .int .u8 0, .int .u8 0, .int .u8 0, .int .u8 0, .int .u8 0, .int .u8 0, .int .u8 0, .int .u8 0, .int .u8 0, .int .u8 0, .int .u8 0, .int .u8 0, .int .u8 0, .int .u8 0, .int .u8 0, .int .u8 0, .int .u8 0, .int .u8 0, .int .u8 0, .int .u8 0, .int .u8 0, .int .u8 0, .int .u8 0, .int .u8 0, .int .u8 0, .slice none 0 0, .bool false] 30)) :=
  wpList_put hgd 30 size30 x y ho z.heap.size xs hx hy 30 (net 0 zz zz (.slice none 0 0) false) (Blk.new z 30 (net 0 zz zz (.slice none 0 0) false)) (net_length zz_sixteen zz_sixteen) hxl h1 fun w' hb hf =>
    h w' hb (below_only ((Below.refl _ _).alloc (Nat.le_refl _) _) hf.out (Nat.le_refl _) (by simp))

theorem told_0 {bs : List Int} {B : Value} : (toldV bs B)[0]? = some (.int .u8 (bs.getD 9 0)) := net_0
theorem told_33 {bs : List Int} {B : Value} (h : 20 ≤ bs.length) : (toldV bs B)[33]? = some B := net_33 (adr_sixteen (by omega) (by omega)) (adr_sixteen (by omega) (by omega))
theorem told_34 {bs : List Int} {B : Value} (h : 20 ≤ bs.length) : (toldV bs B)[34]? = some (.bool (first bs)) := net_34 (adr_sixteen (by omega) (by omega)) (adr_sixteen (by omega) (by omega))
theorem why_nil : why [] = 1 := rfl
theorem text12 : strOfNums [1, 2] = ⟨#[1, 2]⟩ := rfl

set_option maxRecDepth 100000 in
set_option maxHeartbeats 2000000 in
theorem awake_any (w : World) : Calls Try.prog 7 #[] w fun e w' => e = .returned (.bool true) ∧ Below w.heap.size w w' := by
  have W0 : Hid (Below w.heap.size w (w.alloc (.cells #[.int .u8 1, .int .u8 2] 5))) := (Below.refl _ _).alloc (Nat.le_refl _) _
  have B0 : Hid (Blk (w.alloc (.cells #[.int .u8 1, .int .u8 2] 5)) w.heap.size 5 (cel [1, 2])) := Blk.new w 5 (cel [1, 2])
  obtain ⟨r1, r2, r3, r4, r5⟩ := right_why (p := 17) (ds := [1, 2]) (ms := []) (m := 2) (by omega) (by omega) (by omega) rfl
  rw [List.append_nil] at r1 r2 r3 r4 r5
  have HOR : Hid (Octs (rhead 17 2 ++ [1, 2])) := (rhead_octs 2 (by omega) (by omega)).app (by unfold Octs; decide)
  have HLR : Hid ((rhead 17 2 ++ [1, 2]).length = 22) := (rfl : _ = _)
  have HR1 := Lib.hid r1
  have HR2 := Lib.hid r2
  have HR3 := Lib.hid r3
  have HR5 := Lib.hid r5
  have HN := Lib.hid (fun W => parse_no none 0 0 1 [] W Byts.none_ Octs.nil (by omega) (Nat.le_refl _) why_nil (by omega))
  have H0 := Lib.hid (head_any 17 (some ⟨w.heap.size, 0, none⟩) 2 2 [1, 2] _ (Byts.of_all B0.out rfl) (by omega) (by omega) (by omega))
  clear r1 r2 r3 r4 r5
  obtain ⟨bs, hbs⟩ : ∃ bs, rhead 17 2 ++ [1, 2] = bs := ⟨_, rfl⟩
  have HBS := Lib.hid hbs
  rw [hbs] at HOR HLR HR1 HR2 HR3 HR5
  clear hbs
  go_enter Try.func7, Try.ntmps7
  go_upto_region 2 with (first | (go_at_call 11; (with_reducible refine H0.out.mono ?_); rintro e x1 ⟨A1, c1, rfl, ho1, hb1⟩; rw [HBS.out] at ho1; have HY1 : Hid (Byts x1 A1 22 bs) := Byts.of_own ho1; have hc1 : 22 ≤ c1 := own_cap ho1; have W1 : Hid (Below w.heap.size w x1) := W0.out.trans (hb1.mono W0.out.size); clear ho1 hb1) | (go_at_call 8; (with_reducible refine (parse_ok A1 22 c1 bs x1 HY1.out HOR.out (by omega) hc1 HR1.out).mono ?_); rintro e x2 ⟨g, rfl, hb2, hg, hbk⟩; have W2 : Hid (Below w.heap.size w x2) := W1.out.trans (hb2.mono W1.out.size); have BB2 := Lib.hid hbk; clear hb2 hg hbk) | (refine wpList_var26 rfl (.tmp 1) (.tmp 9) rfl x2 (toldV bs (.slice (some ⟨g, 0, none⟩) (much bs) (much bs))) rfl rfl (told_length (by have := HLR.out; omega)) (net_one rfl) ?_; intro x3 B3 hb3; have W3 : Hid (Below w.heap.size w x3) := W2.out.trans (hb3.out.mono W2.out.size); have BB3 := Lib.hid (BB2.out.far (Far.of_below hb3.out nobody) (fun e => e)); clear hb3))
  go_upto_region 3 with (first | (go_at_call 8; (with_reducible refine (HN.out _).mono ?_); rintro e x4 ⟨rfl, hb4⟩; have W4 : Hid (Below w.heap.size w x4) := W3.out.trans (hb4.mono W3.out.size); have B4 := Lib.hid (B3.out.far (Far.of_below hb4 nobody) (fun e => e)); have BB4 := Lib.hid (BB3.out.far (Far.of_below hb4 nobody) (fun e => e)); clear hb4) | (refine wpList_var26 rfl (.tmp 3) (.tmp 13) rfl x4 (net 0 zz zz (.slice none 0 0) false) rfl rfl (net_length zz_sixteen zz_sixteen) (net_one rfl) ?_; intro x5 _ hb5; have W5 : Hid (Below w.heap.size w x5) := W4.out.trans (hb5.out.mono W4.out.size); have B5 := Lib.hid (B4.out.far (Far.of_below hb5.out nobody) (fun e => e)); have BB5 := Lib.hid (BB4.out.far (Far.of_below hb5.out nobody) (fun e => e)); clear hb5))
  have k0 : x5.cell? ⟨x2.heap.size, 0, none⟩ = some (.int .u8 17) := ((B5.out.cell 0).trans told_0).trans (by rw [HR3.out])
  have k3 : x5.cell? ⟨x2.heap.size, 33, none⟩ = some (.slice (some ⟨g, 0, none⟩) 2 2) := ((B5.out.cell 33).trans (told_33 (by have := HLR.out; omega))).trans (by rw [HR5.out])
  have t1 := run_text (P := Try.prog) x5 22 5 9 (some ⟨g, 0, none⟩) 2 2 [1, 2] Try.underlying22 Try.underlying5 Try.underlying9 (Byts.of_all (by rw [← HR2.out]; exact BB5.out) rfl)
  rw [text12] at t1
  go_wp2
  go_ret
  exact ⟨rfl, W5.out⟩
end Go.Proofs.Ytebbpipokdmkkaa
