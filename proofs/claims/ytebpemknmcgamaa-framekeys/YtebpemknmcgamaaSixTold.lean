/- Words for a struct that is written whole, or a part of it; what a packet tells as a struct's cells; the leaves again. Conditions: those of each theorem. -/
import Derived.Test.YtebpemknmcgamaaNet
import Derived.Test.YtebpemknmcgamaaSixCalls
import Derived.Deep.RegionHeld3
namespace Go.Proofs.Ytebpemknmcgamaa.six
open Go.RowKit

def nobody : Nat → Prop := fun _ => False
def only (g : Nat) : Nat → Prop := fun k => k = g
/-- The first k bytes from p on, noughts behind. -/
def adr (bs : List Int) (p k : Nat) : List Int := (bs.drop p).take k ++ List.replicate (16 - k) 0
theorem adr_sixteen {bs : List Int} {p k : Nat} (h : p + k ≤ bs.length) (hk : k ≤ 16) : Sixteen (adr bs p k) := by
  unfold Sixteen adr
  simp
  omega
theorem adr_none (bs : List Int) (p : Nat) : adr bs p 0 = zz := rfl
theorem adr_set {bs : List Int} {p k : Nat} (h : p + k < bs.length) (hk : k < 16) : (adr bs p k).set k (bs.getD (p + k) 0) = adr bs p (k + 1) := by
  unfold adr
  have hl : ((bs.drop p).take k).length = k := by simp; omega
  rw [List.set_append_right _ _ (by omega), hl, Nat.sub_self, show 16 - k = (16 - (k + 1)) + 1 by omega, List.replicate_succ, List.set_cons_zero, List.take_add_one, List.getElem?_drop, List.append_assoc]
  rw [List.getD_eq_getElem?_getD, List.getElem?_eq_getElem h]
  rfl
theorem setRow_far (w : World) (g : Nat) (cs : Array Value) : Far (only g) w (w.setRow g cs) :=
  ⟨rfl, rfl, rfl, by simp [World.setRow], fun k _ hn => by
    have : ¬ g = k := fun e => hn e.symm
    simp [World.setRow, Array.getElem?_modify, this]⟩
theorem setRow_blk {w : World} {g : Nat} {t : TypeId} {cs : List Value} (h : Blk w g t cs) (xs : List Value) : Blk (w.setRow g xs.toArray) g t xs := by
  unfold Blk at h ⊢
  simp [World.setRow, Array.getElem?_modify, h]

/-- A struct of 35 cells into a variable. -/
theorem wpList_put {ops : Array Oper} {rest : List Oper} {o : Oper} {a : Act} {w : World} {Q : Exit → Act → World → Prop} (hgd : o.guard = none) (ty : TypeId) (hty : (Try.prog.info? ty).map (·.size) = some 35) (x y : Operand) (ho : o.op = .store ty x y)
    (g : Nat) (xs : List Value) (hx : a.eval x = .pointer (some ⟨g, 0, none⟩)) (hy : a.eval y = .agg xs.toArray) (t : TypeId) (old : List Value) (hb : Blk w g t old) (hl : old.length = 35) (hxl : xs.length = 35) (h1 : xs.toArray.all (·.oneCell') = true)
    (h : ∀ w', Hid (Blk w' g t xs) → Hid (Far (only g) w w') → wpList Try.prog ops Q rest (a.put o.dst undef) w') : wpList Try.prog ops Q (o :: rest) a w :=
  wpList_store_row hgd ty x y ho g xs.toArray hx hy t old.toArray hb (by rw [List.size_toArray, hxl]; exact hty) (by rw [List.size_toArray, List.size_toArray, hl, hxl]) h1 (h _ (setRow_blk hb xs) (setRow_far w g _))
/-- The same as an operation of a region that draws. -/
theorem step_put {ops : Array Oper} {o : Oper} {a : Act} {w : World} {K : Act → World → Prop} {Q : Exit → Act → World → Prop} {E : Prop} (hgd : o.guard = none) (ty : TypeId) (hty : (Try.prog.info? ty).map (·.size) = some 35) (x y : Operand) (ho : o.op = .store ty x y)
    (g : Nat) (xs : List Value) (hx : a.eval x = .pointer (some ⟨g, 0, none⟩)) (hy : a.eval y = .agg xs.toArray) (t : TypeId) (old : List Value) (hb : Blk w g t old) (hl : old.length = 35) (hxl : xs.length = 35) (h1 : xs.toArray.all (·.oneCell') = true)
    (h : ∀ w', Hid (Blk w' g t xs) → Hid (Far (only g) w w') → K (a.put o.dst undef) w') : if Region.wanted o (yielded ops a.tmps) = true then Oper.wp Try.prog o a w K Q else E := by
  have hw : Region.wanted o (yielded ops a.tmps) = true := by simp [Region.wanted, hgd]
  rw [if_pos hw]
  exact wp_store_row ty x y ho g xs.toArray hx hy t old.toArray hb (by rw [List.size_toArray, hxl]; exact hty) (by rw [List.size_toArray, List.size_toArray, hl, hxl]) h1 (h _ (setRow_blk hb xs) (setRow_far w g _))
/-- Sixteen bytes into a part of it. -/
theorem step_copy {ops : Array Oper} {o : Oper} {a : Act} {w : World} {K : Act → World → Prop} {Q : Exit → Act → World → Prop} {E : Prop} (hgd : o.guard = none) (x y : Operand)
    (ho : o.op = .call { callee := .builtin .copy, args := #[x, y], argTypes := #[22, 22] }) (g off : Nat) (hx : a.eval x = .slice (some ⟨g, off, none⟩) 16 16) (Z : Option Addr) (c : Nat) (hy : a.eval y = .slice Z 16 c)
    (t : TypeId) (cs : List Value) (l : List Int) (hb : Blk w g t cs) (hz : Byts w Z 16 l) (hl : off + 16 ≤ cs.length)
    (h : ∀ w', Hid (Blk w' g t (cs.take off ++ (cel l ++ cs.drop (off + 16)))) → Hid (Far (only g) w w') → K (a.put o.dst (goInt 16)) w') : if Region.wanted o (yielded ops a.tmps) = true then Oper.wp Try.prog o a w K Q else E := by
  have hw : Region.wanted o (yielded ops a.tmps) = true := by simp [Region.wanted, hgd]
  rw [if_pos hw]
  obtain ⟨ad, rfl, hc⟩ := hz.2 (by omega)
  have hr := run_copy_row (P := Try.prog) w 22 22 o.type 5 g off 16 16 ad 16 c cs.toArray t (cel l) Try.underlying22 size5 hb (by rw [cel_length, hz.1]; rfl) (hz.news rfl) (by rw [cel_length, hz.1]; simpa using hl) (cel_one l)
  rw [cel_length, hz.1] at hr
  unfold Oper.wp
  simp [execOp, ho, resolve, invoke, builtin, hx, hy, hr, Result.andThen]
  exact h _ (setRow_blk hb _) (setRow_far w g _)
theorem below_only {B g : Nat} {w0 w w' : World} (h : Below B w0 w) (hf : Far (only g) w w') (hg : B ≤ g) (hB : B ≤ w.heap.size) : Below B w0 w' :=
  h.trans (hf.below hB (fun k hk e => by have : k = g := e; omega))
theorem load30 {w : World} {g : Nat} {t : TypeId} {xs : List Value} (h : Blk w g t xs) (hl : xs.length = 35) : (loadVar 54 ⟨g, 0, none⟩).run Try.prog w = .ok (.agg xs.toArray) w :=
  run_loadVar_row w g t 54 xs.toArray (0, 0) _ h Try.underlying54 rfl (by rw [List.size_toArray, hl]; exact size30)
theorem load26 {w : World} {g : Nat} {t : TypeId} {xs : List Value} (h : Blk w g t xs) (hl : xs.length = 35) : (loadVar 72 ⟨g, 0, none⟩).run Try.prog w = .ok (.agg xs.toArray) w :=
  run_loadVar_row w g t 72 xs.toArray (0, 0) _ h Try.underlying72 rfl (by rw [List.size_toArray, hl]; exact size26)
theorem keep9 {wr W : World} {q : Addr} {v : Value} (h : Below wr.heap.size wr W) (hc : wr.cell? q = some v) : W.cell? q = some v := (h.cell (World.block_lt_of_cell? wr _ hc)).trans hc
theorem net_set1 {p : Int} {s d : List Int} {B : Value} {f : Bool} (hs : Sixteen s) {i : Nat} (hi : i < 16) (x : Int) : (net p s d B f).set (1 + i) (.int .u8 x) = net p (s.set i x) d B f := by
  unfold Sixteen at hs
  rw [net, net, Nat.add_comm, List.set_cons_succ, List.set_append_left _ _ (by rw [cel_length]; omega)]
  simp [cel, List.map_set]
theorem net_set2 {p : Int} {s d : List Int} {B : Value} {f : Bool} (hs : Sixteen s) (hd : Sixteen d) {i : Nat} (hi : i < 16) (x : Int) : (net p s d B f).set (17 + i) (.int .u8 x) = net p s (d.set i x) B f := by
  unfold Sixteen at hs hd
  rw [net, net, show 17 + i = (16 + i) + 1 by omega, List.set_cons_succ, List.set_append_right _ _ (by rw [cel_length]; omega), cel_length, hs, show 16 + i - 16 = i by omega, List.set_append_left _ _ (by rw [cel_length]; omega)]
  simp [cel, List.map_set]

theorem wpList_var26 {ops : Array Oper} {rest : List Oper} {o : Oper} {a : Act} {Q : Exit → Act → World → Prop} (hgd : o.guard = none) (x y : Operand) (ho : o.op = .store 72 x y) (z : World) (xs : List Value)
    (hx : a.eval x = .pointer (some ⟨z.heap.size, 0, none⟩)) (hy : a.eval y = .agg xs.toArray) (hxl : xs.length = 35) (h1 : xs.toArray.all (·.oneCell') = true)
    (h : ∀ w', Hid (Blk w' z.heap.size 72 xs) → Hid (Below z.heap.size z w') → wpList Try.prog ops Q rest (a.put o.dst undef) w') : wpList Try.prog ops Q (o :: rest) a (z.alloc (.cells #[.int .u8 0, .int .u8 0, .int .u8 0, .int .u8 0, .int .u8 0, .int .u8 0, .int .u8 0, .int .u8 0, .int .u8 0, .int .u8 0, .int .u8 0, .int .u8 0, .int .u8 0, .int .u8 0, .int .u8 0, .int .u8 0, .int .u8 0, .int .u8 0, .int .u8 0, .int .u8 0, .int .u8 0, .int .u8 0, .int .u8 0, .int .u8 0, .int .u8 0, .int .u8 0, .int .u8 0, .int .u8 0, .int .u8 0, .int .u8 0, .int .u8 0, .int .u8 0, .int .u8 0, .slice none 0 0, .bool false] 72)) :=
  wpList_put hgd 72 size26 x y ho z.heap.size xs hx hy 72 (net 0 zz zz (.slice none 0 0) false) (Blk.new z 72 (net 0 zz zz (.slice none 0 0) false)) (net_length zz_sixteen zz_sixteen) hxl h1 fun w' hb hf =>
    h w' hb (below_only ((Below.refl _ _).alloc (Nat.le_refl _) _) hf.out (Nat.le_refl _) (by simp))
theorem wpList_var30 {ops : Array Oper} {rest : List Oper} {o : Oper} {a : Act} {Q : Exit → Act → World → Prop} (hgd : o.guard = none) (x y : Operand) (ho : o.op = .store 54 x y) (z : World) (xs : List Value)
    (hx : a.eval x = .pointer (some ⟨z.heap.size, 0, none⟩)) (hy : a.eval y = .agg xs.toArray) (hxl : xs.length = 35) (h1 : xs.toArray.all (·.oneCell') = true)
    (h : ∀ w', Hid (Blk w' z.heap.size 54 xs) → Hid (Below z.heap.size z w') → wpList Try.prog ops Q rest (a.put o.dst undef) w') : wpList Try.prog ops Q (o :: rest) a (z.alloc (.cells #[.int .u8 0, .int .u8 0, .int .u8 0, .int .u8 0, .int .u8 0, .int .u8 0, .int .u8 0, .int .u8 0, .int .u8 0, .int .u8 0, .int .u8 0, .int .u8 0, .int .u8 0, .int .u8 0, .int .u8 0, .int .u8 0, .int .u8 0, .int .u8 0, .int .u8 0, .int .u8 0, .int .u8 0, .int .u8 0, .int .u8 0, .int .u8 0, .int .u8 0, .int .u8 0, .int .u8 0, .int .u8 0, .int .u8 0, .int .u8 0, .int .u8 0, .int .u8 0, .int .u8 0, .slice none 0 0, .bool false] 54)) :=
  wpList_put hgd 54 size30 x y ho z.heap.size xs hx hy 54 (net 0 zz zz (.slice none 0 0) false) (Blk.new z 54 (net 0 zz zz (.slice none 0 0) false)) (net_length zz_sixteen zz_sixteen) hxl h1 fun w' hb hf =>
    h w' hb (below_only ((Below.refl _ _).alloc (Nat.le_refl _) _) hf.out (Nat.le_refl _) (by simp))

theorem wpList_whole26 {ops : Array Oper} {rest : List Oper} {op : Oper} {a : Act} {w : World} {Q : Exit → Act → World → Prop} (hw : Region.wanted op (yielded ops a.tmps) = true) (x : Operand) (ho : op.op = .load 72 x)
    (g : Nat) (hx : a.eval x = .pointer (some ⟨g, 0, none⟩)) {t : TypeId} (xs : List Value) (hb : Blk w g t xs) (hl : xs.length = 35)
    (h : wpList Try.prog ops Q rest (a.put op.dst (.agg xs.toArray)) w) : wpList Try.prog ops Q (op :: rest) a w := by
  unfold wpList
  rw [if_pos hw]
  exact .inl (wp_load_row 72 x ho g hx t xs.toArray (0, 0) _ hb Try.underlying72 rfl (by rw [List.size_toArray, hl]; exact size26) h)
theorem wpList_whole30 {ops : Array Oper} {rest : List Oper} {op : Oper} {a : Act} {w : World} {Q : Exit → Act → World → Prop} (hw : Region.wanted op (yielded ops a.tmps) = true) (x : Operand) (ho : op.op = .load 54 x)
    (g : Nat) (hx : a.eval x = .pointer (some ⟨g, 0, none⟩)) {t : TypeId} (xs : List Value) (hb : Blk w g t xs) (hl : xs.length = 35)
    (h : wpList Try.prog ops Q rest (a.put op.dst (.agg xs.toArray)) w) : wpList Try.prog ops Q (op :: rest) a w := by
  unfold wpList
  rw [if_pos hw]
  exact .inl (wp_load_row 54 x ho g hx t xs.toArray (0, 0) _ hb Try.underlying54 rfl (by rw [List.size_toArray, hl]; exact size30) h)

/-- Whence and whither: of a packet that is fine, its own. -/
def sr (bs : List Int) (r : Nat) : List Int := if r = 0 then adr bs 8 16 else zz
def ds (bs : List Int) (r : Nat) : List Int := if r = 0 then adr bs 24 16 else zz
theorem sr_sixteen {bs : List Int} {r : Nat} (h : r = 0 → 40 ≤ bs.length) : Sixteen (sr bs r) := by
  unfold sr
  split
  · next e => have := h e; exact adr_sixteen (by omega) (by omega)
  · exact zz_sixteen
theorem ds_sixteen {bs : List Int} {r : Nat} (h : r = 0 → 40 ≤ bs.length) : Sixteen (ds bs r) := by
  unfold ds
  split
  · next e => have := h e; exact adr_sixteen (by omega) (by omega)
  · exact zz_sixteen

/-- The leaves again: what they answer, and that they turn nothing. -/
theorem number_b (A : Option Addr) (n c : Nat) (bs : List Int) (w : World) (h : Byts w A n bs) (ho : Octs bs) (hn : 2 ≤ n) (hm : n ≤ 9223372036854775807) :
    Calls Try.prog 47 #[.slice A n c] w fun e w' => e = .returned (.int .i64 ((wd bs 0 : Nat) : Int)) ∧ Below w.heap.size w w' :=
  (number_any A n c bs w h ho hn hm).mono (by rintro e w' ⟨rfl, rfl⟩; exact ⟨rfl, (Below.refl _ _).drew⟩)
theorem place_b (A : Option Addr) (n c : Nat) (ls : List Int) (w : World) (h : Byts w A n ls) (ho : Octs ls) (hn : 8 ≤ n) (hm : n ≤ 9223372036854775807) (hc : n ≤ c) :
    Calls Try.prog 55 #[.slice A n c] w fun e w' => e = .returned (.int .i64 ((wd ls 2 / 8 : Nat) : Int)) ∧ Below w.heap.size w w' :=
  (place_any A n c ls w h ho hn hm hc).mono (by rintro e w' ⟨rfl, rfl⟩; exact ⟨rfl, (Below.refl _ _).drew⟩)
theorem copied_b (A : Option Addr) (n c : Nat) (bs : List Int) (w : World) (hn : n ≤ 1000000) (h : Byts w A n bs) :
    Calls Try.prog 56 #[.slice A n c] w fun e w' => ∃ g, e = .returned (.slice (some ⟨g, 0, none⟩) n n) ∧ Below w.heap.size w w' ∧ w.heap.size ≤ g ∧ Blk w' g 5 (cel bs) :=
  (copied_any A n c bs w hn h).mono (by rintro e w' ⟨rfl, rfl⟩; exact ⟨_, rfl, (Below.refl _ _).alloc (Nat.le_refl _) _, Nat.le_refl _, Blk.new w 5 (cel bs)⟩)
theorem Byts.of_all {w : World} {g n : Nat} {t : TypeId} {bs : List Int} (h : Blk w g t (cel bs)) (hl : bs.length = n) : Byts w (some ⟨g, 0, none⟩) n bs := by
  have := Byts.of_blk h 0 (Nat.zero_le _)
  rw [Nat.sub_zero, hl, List.drop_zero] at this
  exact this

set_option maxHeartbeats 1000000 in
theorem fault_any (A : Option Addr) (n c r : Nat) (bs : List Int) (w : World) (h : Byts w A n bs) (ho : Octs bs) (hm : n ≤ 9223372036854775807) (hc : n ≤ c) (hr : why bs = r) :
    Calls Try.prog 45 #[.slice A n c] w fun e w' => e = .returned (.int .i64 ((r : Nat) : Int)) ∧ Below w.heap.size w w' := by
  have hbn := h.1
  have H := Lib.hid h
  have HO := Lib.hid ho
  have b0 := ho.at_ 0
  unfold why at hr
  rw [hbn] at hr
  clear h ho
  by_cases h40 : n < 40
  · rw [if_pos h40] at hr
    subst hr
    go_enter Try.func45, Try.ntmps45
    go_wp2
    go_ret
    exact ⟨rfl, Below.refl _ _⟩
  · rw [if_neg h40] at hr
    obtain ⟨ad, rfl, hcell⟩ := H.out.2 (by omega)
    have hc0 : w.cell? ad = some (.int .u8 (bs.getD 0 0)) := by simpa [Addr.add] using hcell 0 (by omega)
    clear hcell
    by_cases h6 : (bs.getD 0 0).toNat / 16 ≠ 6
    · rw [if_pos h6] at hr
      subst hr
      have hh : bs.getD 0 0 / 16 = ((bs.getD 0 0).toNat / 16 : Nat) := by omega
      generalize (bs.getD 0 0).toNat / 16 = v at *
      generalize bs.getD 0 0 = u at *
      have hne : ((v : Int) != 6) = true := by simp; omega
      go_enter Try.func45, Try.ntmps45
      go_wp2
      go_ret
      exact ⟨rfl, Below.refl _ _⟩
    · rw [if_neg h6] at hr
      have hh : bs.getD 0 0 / 16 = 6 := by omega
      obtain ⟨Z, hcut, hz⟩ := from_z (A := some ad) (bs := bs) (show 4 ≤ n by omega) hc
      have hcut2 : ∀ W, (Instr.slice 22 (.slice (some ad) n c) (some (.int .i64 4)) none none).run Try.prog W = .ok (.slice Z (n - 4) (c - 4)) W := hcut
      have HT := Lib.hid (number_b Z (n - 4) (c - 4) (bs.drop 4) w (hz _ H.out) (HO.out.drop 4) (by omega) (by omega))
      rw [wd_drop, Nat.add_zero] at HT
      have hwb := wd_bd HO.out 4
      clear hcut hz h6
      generalize wd bs 4 = t at *
      generalize bs.getD 0 0 = u at *
      by_cases hl : n < 40 + t
      · rw [if_pos hl] at hr
        subst hr
        go_enter Try.func45, Try.ntmps45
        go_wp2_with (go_at_call 47; (with_reducible refine HT.out.mono ?_); rintro e w1 ⟨rfl, hb⟩)
        go_ret
        exact ⟨rfl, hb⟩
      · rw [if_neg hl] at hr
        subst hr
        go_enter Try.func45, Try.ntmps45
        go_wp2_with (go_at_call 47; (with_reducible refine HT.out.mono ?_); rintro e w1 ⟨rfl, hb⟩)
        go_ret
        exact ⟨rfl, hb⟩
end Go.Proofs.Ytebpemknmcgamaa.six
