/- What a packet tells, as the cells of a struct; the contract of the document's Same for two that are alike. Conditions: those of each theorem. -/
import Derived.Test.YtmpkbggnopcajaaCalls
import Derived.Deep.MidRow
import Derived.Deep.WholeRow
import Derived.Laws.Rows
import Derived.Deep.CutBlock
import Derived.ChangeKeysEq
import Derived.Deep.DeepCutAuto
namespace Go.Proofs.Ytmpkbggnopcajaa
open Go.RowKit

/-- A struct's cells. -/
def net (p : Int) (s d : List Int) (B : Value) (f : Bool) : List Value := .int .u8 p :: (cel s ++ (cel d ++ [B, .bool f]))
/-- An address. -/
def Sixteen (s : List Int) : Prop := s.length = 16
/-- All zero. -/
def zz : List Int := List.replicate 16 0
theorem zz_sixteen : Sixteen zz := rfl
section
variable {p : Int} {s d : List Int} {B : Value} {f : Bool}
theorem net_length (hs : Sixteen s) (hd : Sixteen d) : (net p s d B f).length = 35 := by
  unfold Sixteen at *
  simp [net, cel_length, hs, hd]
theorem net_0 : (net p s d B f)[0]? = some (.int .u8 p) := rfl
theorem net_33 (hs : Sixteen s) (hd : Sixteen d) : (net p s d B f)[33]? = some B := by
  unfold Sixteen at *
  simp [net, cel, hs, hd]
theorem net_34 (hs : Sixteen s) (hd : Sixteen d) : (net p s d B f)[34]? = some (.bool f) := by
  unfold Sixteen at *
  simp [net, cel, hs, hd]
theorem net_src {w : World} {g : Nat} {t : TypeId} (h : Blk w g t (net p s d B f)) : w.rangeAt g 1 (cel s) := by
  intro j v hv
  have hj := (List.getElem?_eq_some_iff.1 hv).1
  rw [h.cell, net, Nat.add_comm, List.getElem?_cons_succ, List.getElem?_append_left hj]
  exact hv
theorem net_dst (hs : Sixteen s) {w : World} {g : Nat} {t : TypeId} (h : Blk w g t (net p s d B f)) : w.rangeAt g 17 (cel d) := by
  intro j v hv
  have hj := (List.getElem?_eq_some_iff.1 hv).1
  unfold Sixteen at hs
  rw [h.cell, net, show 17 + j = (16 + j) + 1 by omega, List.getElem?_cons_succ, List.getElem?_append_right (by rw [cel_length, hs]; omega), cel_length, hs, show 16 + j - 16 = j by omega, List.getElem?_append_left hj]
  exact hv
theorem net_one (hB : B.oneCell' = true) : (net p s d B f).toArray.all (·.oneCell') = true := by
  rw [Array.all_eq_true_iff_forall_mem]
  intro x hx
  rcases List.mem_cons.1 (List.mem_toArray.1 hx) with rfl | hx
  · rfl
  · rcases List.mem_append.1 hx with hx | hx
    · exact cel_one s x hx
    · rcases List.mem_append.1 hx with hx | hx
      · exact cel_one d x hx
      · rcases List.mem_cons.1 hx with rfl | hx
        · exact hB
        · rcases List.mem_cons.1 hx with rfl | hx
          · rfl
          · cases hx
end
theorem net_zero : net 0 zz zz (.slice none 0 0) false = [.int .u8 0, .int .u8 0, .int .u8 0, .int .u8 0, .int .u8 0, .int .u8 0, .int .u8 0, .int .u8 0, .int .u8 0, .int .u8 0, .int .u8 0, .int .u8 0, .int .u8 0, .int .u8 0, .int .u8 0, .int .u8 0, .int .u8 0, .int .u8 0, .int .u8 0, .int .u8 0, .int .u8 0, .int .u8 0, .int .u8 0, .int .u8 0, .int .u8 0, .int .u8 0, .int .u8 0, .int .u8 0, .int .u8 0, .int .u8 0, .int .u8 0, .int .u8 0, .int .u8 0, .slice none 0 0, .bool false] := rfl
theorem size26 : (Try.prog.info? 26).map (·.size) = some 35 := by kernel_rfl
theorem size30 : (Try.prog.info? 30).map (·.size) = some 35 := by kernel_rfl
theorem size24 : (Try.prog.info? 24).map (·.size) = some 16 := by kernel_rfl
/-- Into a new variable. -/
theorem store26 (p : Int) (s d : List Int) (A : Option Addr) (n c : Nat) (f : Bool) (hs : Sixteen s) (hd : Sixteen d) (x : World) : (storeCells ⟨x.heap.size, 0, none⟩ (net p s d (.slice A n c) f)).run Try.prog (x.alloc (.cells #[.int .u8 0, .int .u8 0, .int .u8 0, .int .u8 0, .int .u8 0, .int .u8 0, .int .u8 0, .int .u8 0, .int .u8 0, .int .u8 0, .int .u8 0, .int .u8 0, .int .u8 0, .int .u8 0, .int .u8 0, .int .u8 0, .int .u8 0, .int .u8 0, .int .u8 0, .int .u8 0, .int .u8 0, .int .u8 0, .int .u8 0, .int .u8 0, .int .u8 0, .int .u8 0, .int .u8 0, .int .u8 0, .int .u8 0, .int .u8 0, .int .u8 0, .int .u8 0, .int .u8 0, .slice none 0 0, .bool false] 26)) = .ok () (x.alloc (.cells (net p s d (.slice A n c) f).toArray 26)) :=
  run_storeCells_new (P := Try.prog) x 26 _ (net p s d (.slice A n c) f).toArray (by rw [List.size_toArray, net_length hs hd]; exact size26) (by rw [show (net p s d (.slice A n c) f).toArray.size = 35 from net_length hs hd]; rfl) (net_one rfl)
theorem store30 (p : Int) (s d : List Int) (A : Option Addr) (n c : Nat) (f : Bool) (hs : Sixteen s) (hd : Sixteen d) (x : World) : (storeCells ⟨x.heap.size, 0, none⟩ (net p s d (.slice A n c) f)).run Try.prog (x.alloc (.cells #[.int .u8 0, .int .u8 0, .int .u8 0, .int .u8 0, .int .u8 0, .int .u8 0, .int .u8 0, .int .u8 0, .int .u8 0, .int .u8 0, .int .u8 0, .int .u8 0, .int .u8 0, .int .u8 0, .int .u8 0, .int .u8 0, .int .u8 0, .int .u8 0, .int .u8 0, .int .u8 0, .int .u8 0, .int .u8 0, .int .u8 0, .int .u8 0, .int .u8 0, .int .u8 0, .int .u8 0, .int .u8 0, .int .u8 0, .int .u8 0, .int .u8 0, .int .u8 0, .int .u8 0, .slice none 0 0, .bool false] 30)) = .ok () (x.alloc (.cells (net p s d (.slice A n c) f).toArray 30)) :=
  run_storeCells_new (P := Try.prog) x 30 _ (net p s d (.slice A n c) f).toArray (by rw [List.size_toArray, net_length hs hd]; exact size30) (by rw [show (net p s d (.slice A n c) f).toArray.size = 35 from net_length hs hd]; rfl) (net_one rfl)

theorem cel_size {s : List Int} (hs : Sixteen s) : (Try.prog.info? 24).map (·.size) = some (cel s).length := by
  unfold Sixteen at hs
  rw [cel_length, hs]
  exact size24
/-- An address out of a struct. -/
theorem wpList_addr {ops : Array Oper} {rest : List Oper} {op : Oper} {a : Act} {w : World} {Q : Exit → Act → World → Prop} (hw : Region.wanted op (yielded ops a.tmps) = true) (x : Operand) (ho : op.op = .load 24 x)
    (b o : Nat) (hx : a.eval x = .pointer (some ⟨b, o, none⟩)) (s : List Int) (hc : w.rangeAt b o (cel s)) (hs : Sixteen s)
    (h : wpList Try.prog ops Q rest (a.put op.dst (.agg (cel s).toArray)) w) : wpList Try.prog ops Q (op :: rest) a w := by
  unfold wpList
  rw [if_pos hw]
  exact .inl (wp_load_mid 24 x ho b o hx (cel s) _ hc Try.underlying24 rfl (cel_size hs) h)

/-- An address is itself. -/
theorem items_self (s : List Int) (W : World) : ∀ is : List Nat, (∀ i ∈ is, i < s.length) → (Op.eqItems 9999 5 1 (cel s).toArray (cel s).toArray is).run Try.prog W = .ok true W
  | [], _ => by simp [Op.eqItems]
  | i :: is, h => by
    have hi : i < s.length := h i (by simp)
    have hp : (part 5 (cel s).toArray (i * 1)).run Try.prog W = .ok (.int .u8 (s.getD i 0)) W := by
      simp [part, isAgg, run_underlying Try.underlying5, cel, List.getD_eq_getElem?_getD, List.getElem?_eq_getElem hi]
    have he : (Op.equalIn 9999 5 (.int .u8 (s.getD i 0)) (.int .u8 (s.getD i 0))).run Try.prog W = .ok true W := by
      rw [run_equalIn_int W 9998 5 .u8 .u8 _ _ Try.underlying5]
      simp
    have ih := items_self s W is (fun j hj => h j (by simp [hj]))
    simp only [Op.eqItems, Sem.run_bind, hp, he, Result.andThen_ok]
    simpa using ih
theorem cells5 : Try.prog.cellsOf 5 = 1 := by kernel_rfl
theorem addr_self {s : List Int} (hs : Sixteen s) (W : World) : (Op.equalIn 10000 24 (.agg (cel s).toArray) (.agg (cel s).toArray)).run Try.prog W = .ok true W := by
  obtain ⟨i, hi, _⟩ := info_parts info5
  have := run_equalIn_array (P := Try.prog) W 9999 (cel s).toArray (cel s).toArray Try.underlying24 hi
  rw [this, cells5]
  unfold Sixteen at hs
  exact items_self s W _ (fun j hj => by have := List.mem_range.1 hj; omega)

set_option maxHeartbeats 1000000 in
theorem same_any (p : Int) (s d bs : List Int) (A A' : Option Addr) (n c c' : Nat) (f : Bool) (w : World) (hs : Sixteen s) (hd : Sixteen d) (h : Byts w A n bs) (h' : Byts w A' n bs) :
    Calls Try.prog 10 #[.agg (net p s d (.slice A n c) f).toArray, .agg (net p s d (.slice A' n c') f).toArray] w fun e w' => e = .returned (.bool true) ∧ Below w.heap.size w w' := by
  have L0 : Hid (Blk ((w.alloc (.cells (net p s d (.slice A n c) f).toArray 30)).alloc (.cells (net p s d (.slice A' n c') f).toArray 30)) w.heap.size 30 (net p s d (.slice A n c) f)) := (Blk.new w 30 _).alloc _
  have L1 : Hid (Blk ((w.alloc (.cells (net p s d (.slice A n c) f).toArray 30)).alloc (.cells (net p s d (.slice A' n c') f).toArray 30)) (w.heap.size + 1) 30 (net p s d (.slice A' n c') f)) := by
    have := Blk.new (w.alloc (.cells (net p s d (.slice A n c) f).toArray 30)) 30 (net p s d (.slice A' n c') f)
    rwa [show (w.alloc (.cells (net p s d (.slice A n c) f).toArray 30)).heap.size = w.heap.size + 1 by simp] at this
  have W1 : Hid (Below w.heap.size w ((w.alloc (.cells (net p s d (.slice A n c) f).toArray 30)).alloc (.cells (net p s d (.slice A' n c') f).toArray 30))) := ((Below.refl _ w).alloc (Nat.le_refl _) _).alloc (by simp) _
  have HA : Hid (Byts _ A n bs) := h.below W1.out
  have HB : Hid (Byts _ A' n bs) := h'.below W1.out
  have HS := Lib.hid hs
  have HD := Lib.hid hd
  clear h h' hs hd
  go_enter Try.func10, Try.ntmps10
  go_upto_region 1 with (fail)
  generalize ((w.alloc (.cells (net p s d (.slice A n c) f).toArray 30)).alloc (.cells (net p s d (.slice A' n c') f).toArray 30)) = w1 at *
  have c0 : w1.cell? ⟨w.heap.size, 0, none⟩ = some (.int .u8 p) := (L0.out.cell 0).trans net_0
  have d0 : w1.cell? ⟨w.heap.size + 1, 0, none⟩ = some (.int .u8 p) := (L1.out.cell 0).trans net_0
  have c3 : w1.cell? ⟨w.heap.size, 33, none⟩ = some (.slice A n c) := (L0.out.cell 33).trans (net_33 HS.out HD.out)
  have d3 : w1.cell? ⟨w.heap.size + 1, 33, none⟩ = some (.slice A' n c') := (L1.out.cell 33).trans (net_33 HS.out HD.out)
  have c4 : w1.cell? ⟨w.heap.size, 34, none⟩ = some (.bool f) := (L0.out.cell 34).trans (net_34 HS.out HD.out)
  have d4 : w1.cell? ⟨w.heap.size + 1, 34, none⟩ = some (.bool f) := (L1.out.cell 34).trans (net_34 HS.out HD.out)
  have R1 := Lib.hid (net_src L0.out)
  have R2 := Lib.hid (net_src L1.out)
  have R3 := Lib.hid (net_dst HS.out L0.out)
  have R4 := Lib.hid (net_dst HS.out L1.out)
  have q1 := addr_self HS.out w1
  have q2 := addr_self HD.out w1
  have t1 := run_text (P := Try.prog) w1 22 5 9 A n c bs Try.underlying22 Try.underlying5 Try.underlying9 HA.out
  have t2 := run_text (P := Try.prog) w1 22 5 9 A' n c' bs Try.underlying22 Try.underlying5 Try.underlying9 HB.out
  go_wp2_with (first | (refine wpList_addr (by rfl) (.tmp 11) rfl w.heap.size 1 rfl s R1.out HS.out ?_) | (refine wpList_addr (by rfl) (.tmp 13) rfl (w.heap.size + 1) 1 rfl s R2.out HS.out ?_) | (refine wpList_addr (by rfl) (.tmp 18) rfl w.heap.size 17 rfl d R3.out HD.out ?_) | (refine wpList_addr (by rfl) (.tmp 20) rfl (w.heap.size + 1) 17 rfl d R4.out HD.out ?_))
  go_ret
  exact ⟨rfl, W1.out⟩
end Go.Proofs.Ytmpkbggnopcajaa
