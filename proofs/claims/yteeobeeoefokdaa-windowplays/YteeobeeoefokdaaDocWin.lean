/- The contracts of the document's window: New and Add. Conditions: those of each theorem. -/
import Derived.Test.YteeobeeoefokdaaOnes
namespace Go.Proofs.Yteeobeeoefokdaa
open Go.RowKit

/-- The document's window, as cells. -/
abbrev dw (A : Option Addr) (n c : Nat) (V : Wn) : List Value := [.slice A n c, .int .i64 (V.M : Nat), .int .i64 V.T, .int .i64 V.ns, .int .i64 V.th, .int .i64 V.no]
abbrev docw (A : Option Addr) (n c : Nat) (V : Wn) : Value := .agg (dw A n c V).toArray
def wn0 : Wn := ⟨0, 0, 0, 0, 0, []⟩
theorem size40 : (Try.prog.info? 40).map (·.size) = some 6 := by kernel_rfl
theorem dw_one (A : Option Addr) (n c : Nat) (V : Wn) : (dw A n c V).toArray.all (·.oneCell') = true := all_oneCell_toArray (fun u hu => by
  simp only [dw, List.mem_cons, List.not_mem_nil, or_false] at hu
  rcases hu with rfl | rfl | rfl | rfl | rfl | rfl <;> rfl)
theorem load_dw {w : World} {g : Nat} {t : TypeId} {xs : List Value} (h : Blk w g t xs) (hl : xs.length = 6) : (loadVar 40 ⟨g, 0, none⟩).run Try.prog w = .ok (.agg xs.toArray) w :=
  run_loadVar_row w g t 40 xs.toArray (0, 0) _ h Try.underlying40 rfl (by rw [List.size_toArray, hl]; exact size40)
theorem run_bsk (M : Int) (w : World) : (Instr.build 38 #[(1, .int .i64 M)]).run Try.prog w = .ok (.agg #[.slice none 0 0, .int .i64 M, .int .i64 0]) w := run_build w 38 _ _ (by kernel_rfl)
theorem run_bdw (M T ns th no : Int) (A : Option Addr) (n c : Nat) (w : World) : (Instr.build 40 #[(0, .agg #[.slice A n c, .int .i64 M, .int .i64 T]), (1, .int .i64 ns), (2, .int .i64 th), (3, .int .i64 no)]).run Try.prog w = .ok (.agg #[.slice A n c, .int .i64 M, .int .i64 T, .int .i64 ns, .int .i64 th, .int .i64 no]) w := run_build w 40 _ _ (by kernel_rfl)
set_option maxHeartbeats 400000 in
theorem dnew_ (M : Nat) (x ns th : Int) (w : World) (hx : x = (M : Int)) : Calls Try.prog 13 #[.int .i64 x, .int .i64 ns, .int .i64 th] w fun e w' => e = .returned (docw none 0 0 ⟨ns, th, 0, 0, M, []⟩) ∧ Below w.heap.size w w' := by
  subst hx
  have N1 := Lib.hid (Blk.new w 40 (dw none 0 0 wn0))
  have B1 : Hid (Below w.heap.size w (w.alloc (.cells (dw none 0 0 wn0).toArray 40))) := (Below.refl _ w).alloc (Nat.le_refl _) _
  go_enter Try.func13, Try.ntmps13
  go_upto_region 1 with fail
  go_wp2_with (first | (refine wpList_build rfl 38 [(1, .tmp 7)] rfl [(1, .int .i64 (M : Int))] rfl (dcs none 0 0 M 0) (run_bsk M _) ?_) | (refine wpList_build rfl 40 [(0, .tmp 8), (1, .tmp 9), (2, .tmp 10), (3, .const (.int .i64 0))] rfl [(0, .agg (dcs none 0 0 M 0).toArray), (1, .int .i64 ns), (2, .int .i64 th), (3, .int .i64 0)] rfl (dw none 0 0 ⟨ns, th, 0, 0, M, []⟩) (run_bdw M 0 ns th 0 none 0 0 _) ?_) | (refine wpList_lay rfl 40 6 size40 (.tmp 6) (.tmp 11) rfl w.heap.size (dw none 0 0 ⟨ns, th, 0, 0, M, []⟩) rfl rfl 40 (dw none 0 0 wn0) N1.out rfl rfl (dw_one _ _ _ _) ?_; intro x2 K2 F2; have hv := load_dw K2.out rfl))
  refine bodyPost_ret (v := docw none 0 0 ⟨ns, th, 0, 0, M, []⟩) (by simp [results, Try.results13, Act.put, asAddr, hv]) rfl ?_
  exact ⟨rfl, below_only B1.out F2.out (Nat.le_refl _) B1.out.size⟩

/-- The three blocks that Add makes first, behind which all is new. -/
def DWin (w : World) (A : Option Addr) (n c : Nat) (V : Wn) (p : Pre) (W : World) : Prop :=
  Blk W w.heap.size 40 (dw A n c V) ∧ Blk W (w.heap.size + 1) 31 p.cs ∧ Blk W (w.heap.size + 2) 40 (dw none 0 0 wn0) ∧ Below w.heap.size w W
section
variable {w W W' : World} {A : Option Addr} {n c : Nat} {V : Wn} {p : Pre}
theorem DWin.one (h : DWin w A n c V p W) : Blk W w.heap.size 40 (dw A n c V) := h.1
theorem DWin.pre (h : DWin w A n c V p W) : Blk W (w.heap.size + 1) 31 p.cs := h.2.1
theorem DWin.res (h : DWin w A n c V p W) : Blk W (w.heap.size + 2) 40 (dw none 0 0 wn0) := h.2.2.1
theorem DWin.be (h : DWin w A n c V p W) : Below w.heap.size w W := h.2.2.2
theorem DWin.drew (h : DWin w A n c V p W) : DWin w A n c V p W.drew := ⟨h.1, h.2.1, h.2.2.1, below_drewN h.2.2.2 1⟩
theorem DWin.lt (h : DWin w A n c V p W) : w.heap.size + 3 ≤ W.heap.size := by have := h.res.lt; omega
theorem DWin.below (h : DWin w A n c V p W) (hb : Below W.heap.size W W') : DWin w A n c V p W' := ⟨h.1.below hb, h.2.1.below hb, h.2.2.1.below hb, h.be.trans (hb.mono h.be.size)⟩
theorem DWin.new (w : World) (A : Option Addr) (n c : Nat) (V : Wn) (p : Pre) : DWin w A n c V p (((w.alloc (.cells (dw A n c V).toArray 40)).alloc (.cells p.cs.toArray 31)).alloc (.cells #[.slice none 0 0, .int .i64 0, .int .i64 0, .int .i64 0, .int .i64 0, .int .i64 0] 40)) := by
  have h1 := Blk.new w 40 (dw A n c V)
  have h2 := Blk.new (w.alloc (.cells (dw A n c V).toArray 40)) 31 p.cs
  rw [show (w.alloc (.cells (dw A n c V).toArray 40)).heap.size = w.heap.size + 1 by simp] at h2
  have h3 := Blk.new ((w.alloc (.cells (dw A n c V).toArray 40)).alloc (.cells p.cs.toArray 31)) 40 (dw none 0 0 wn0)
  rw [show ((w.alloc (.cells (dw A n c V).toArray 40)).alloc (.cells p.cs.toArray 31)).heap.size = w.heap.size + 2 by simp] at h3
  exact ⟨(h1.alloc _).alloc _, h2.alloc _, h3, (((Below.refl _ w).alloc (Nat.le_refl _) _).alloc (by simp) _).alloc (by simp; omega) _⟩
/-- Another number. -/
theorem DWin.num (h : DWin w A n c V p W) (k : Int) : DWin w A n c ⟨V.ns, V.th, k, V.T, V.M, V.L⟩ p (W.setCell ⟨w.heap.size, 5, none⟩ (.int .i64 k)) :=
  ⟨by simpa using h.1.set_ 5 (.int .i64 k), h.2.1.other (p := ⟨w.heap.size, 5, none⟩) (by show w.heap.size + 1 ≠ w.heap.size; omega) _, h.2.2.1.other (p := ⟨w.heap.size, 5, none⟩) (by show w.heap.size + 2 ≠ w.heap.size; omega) _, h.be.setCell (Nat.le_refl _) _⟩
/-- Another sketch. -/
theorem DWin.put (h : DWin w A n c V p W) (A' : Option Addr) (n' c' : Nat) (T : Int) (L : List Slo) : DWin w A' n' c' ⟨V.ns, V.th, V.no, T, V.M, L⟩ p (W.setCells w.heap.size 0 (dcs A' n' c' V.M T)) := by
  have hf := far_setCells (S := only w.heap.size) (g := w.heap.size) (dcs A' n' c' V.M T) 0 W W (Far.refl _ _) (fun _ => rfl)
  refine ⟨?_, h.2.1.far hf (fun e => by have h1 : w.heap.size + 1 = w.heap.size := e; omega), h.2.2.1.far hf (fun e => by have h1 : w.heap.size + 2 = w.heap.size := e; omega), below_only h.be hf (Nat.le_refl _) h.be.size⟩
  exact Blk.setCells (dcs A' n' c' V.M T) (dw A n c V) 0 W h.1 (show 0 + 3 ≤ 6 by decide)
/-- What Add answers. -/
def DWOut (U : Wn) (b : Bool) (w : World) (e : Ending) (w' : World) : Prop :=
  ∃ A' c', e = .returned (.tuple #[docw A' U.L.length c' U, .bool b]) ∧ LAt A' U.L w' ∧ (∃ q, A' = some ⟨q, 0, none⟩ ∧ w.heap.size ≤ q) ∧ Below w.heap.size w w'
theorem stp_pos {L : List Slo} {M : Nat} {n : Int} (h : 1 ≤ M) : pos M L p < (stp M L p n).length := by unfold stp; rw [inc_length]; exact pos_lt h
theorem LAt.far_ {A : Option Addr} {L : List Slo} {S : Nat → Prop} (h : LAt A L W) (hf : Far S W W') (hn : ∀ b, A = some ⟨b, 0, none⟩ → ¬ S b) : LAt A L W' := fun k s hk => by
  obtain ⟨q, e, hr⟩ := h k s hk
  exact ⟨q, e, fun j v hv => (World.cell?_of_block (hf.block _ (World.block_lt_of_cell? _ _ (hr j v hv)) (hn q e))).trans (hr j v hv)⟩
theorem dw_sk {g : Nat} {t : TypeId} (h : Blk W g t (dw A n c V)) : W.rangeAt g 0 (dcs A n c V.M V.T) := fun j v hv => by
  have hj := (List.getElem?_eq_some_iff.1 hv).1
  rw [Nat.zero_add, h.cell]
  match j, hj, hv with
  | 0, _, hv => exact hv
  | 1, _, hv => exact hv
  | 2, _, hv => exact hv
theorem dw_there {g : Nat} {t : TypeId} (h : Blk W g t (dw A n c V)) : W.there g 0 3 := fun j hj => ⟨by
  rw [Nat.zero_add, h.cell]
  match j, hj with
  | 0, _ => rfl
  | 1, _ => rfl
  | 2, _ => rfl, h.frozen _⟩
end
set_option maxHeartbeats 2000000 in
theorem dwadd_moved (A : Option Addr) (c : Nat) (V : Wn) (p : Pre) (x y : Int) (w : World) (h : LAt A V.L w) (ho : Oks V.L) (hp : p.Ok) (hl : V.L.length ≤ V.M) (h1 : 1 ≤ V.M) (h64 : V.M ≤ 64) (hns : 1 ≤ V.ns) (hc : x ≤ 4611686018427387903) (hx : 0 < x) (hm : V.no < x / V.ns) :
    Calls Try.prog 14 #[docw A V.L.length c V, .int .i64 x, .agg p.cs.toArray, .int .i64 y] w (DWOut ((⟨V.ns, V.th, x / V.ns, 0, V.M, []⟩ : Wn).cnt p y) ((⟨V.ns, V.th, x / V.ns, 0, V.M, []⟩ : Wn).hvy p y) w) := by
  obtain ⟨U, hU⟩ : ∃ U : Wn, (⟨V.ns, V.th, x / V.ns, 0, V.M, []⟩ : Wn) = U := ⟨_, rfl⟩
  rw [hU]
  have hcd : decide (4611686018427387903 < x) = false := by simp; omega
  have D0 := Lib.hid (DWin.new w A V.L.length c V p)
  have H := Lib.hid (fun W (hW : Below w.heap.size w W) => h.below hW)
  have HO := Lib.hid ho
  have HP := Lib.hid hp
  have HL := Lib.hid (And.intro hl (And.intro h1 h64))
  have HZ : Hid (¬ V.ns = 0) := by show ¬ _; omega
  have hq : 0 ≤ x / V.ns ∧ x / V.ns ≤ x := ediv_bd (by omega) (by omega)
  have HW : Hid (IntKind.i64.wrap (Int.tdiv x V.ns) = x / V.ns) := by
    show _ = _
    rw [Int.tdiv_eq_ediv_of_nonneg (by omega), IntKind.wrap_i64] <;> omega
  have hmd : decide (V.no < x / V.ns) = true := by simp; omega
  have hxd : decide (0 < x) = true := by simp; omega
  clear h ho hp hl h1 h64
  go_enter Try.func14, Try.ntmps14
  go_upto_region 1 with fail
  generalize (((w.alloc (.cells (dw A V.L.length c V).toArray 40)).alloc (.cells p.cs.toArray 31)).alloc (.cells #[.slice none 0 0, .int .i64 0, .int .i64 0, .int .i64 0, .int .i64 0, .int .i64 0] 40)) = x1 at *
  obtain ⟨n, hn⟩ : ∃ n, V.L.length = n := ⟨_, rfl⟩
  rw [hn] at D0
  have HN := Lib.hid hn
  rw [hn]
  clear hn
  go_upto_region 3 with fail
  have D1 := D0
  clear D0
  refine wp_region_held_drew (S := fun W => Blk W w.heap.size 40 (dw A n c V)) (by kernel_rfl) ?_ (fun _ => ?_)
  · exact D1.out.one.drew
  have HS0 : Hid (Blk x1.drew w.heap.size 40 (dw A n c V)) := D1.out.one.drew
  refine wpAnyH_take (i := 0) (oi := ⟨some 13, _, _, _, _, _⟩) (v := ?_) rfl (by kernel_rfl) (by kernel_rfl) (by kernel_rfl) (fun _ _ _ h => h) (Or.inl ⟨by rfl, ?_⟩) HS0.out ?_
  rotate_left
  · (intro W hSW; clear hSW; go_simp)
    first | done | (with_reducible rfl)
  try simp only [Act.put, List.setIfInBounds_toArray, List.set_cons_zero, List.set_cons_succ]
  refine wpAnyH_take (i := 1) (oi := ⟨some 14, _, _, _, _, _⟩) (v := .bool true) rfl (by kernel_rfl) (by kernel_rfl) (by kernel_rfl) (fun _ _ _ h => h) (Or.inl ⟨by rfl, ?_⟩) HS0.out ?_
  · (intro W hSW; clear hSW; go_simp)
  try simp only [Act.put, List.setIfInBounds_toArray, List.set_cons_zero, List.set_cons_succ]
  refine wpAnyH_take (i := 2) (oi := ⟨some 15, _, _, _, _, _⟩) (v := ?_) rfl (by kernel_rfl) (by kernel_rfl) (by kernel_rfl) (fun _ _ _ h => h) (Or.inl ⟨by rfl, ?_⟩) HS0.out ?_
  rotate_left
  · (intro W hSW; clear hSW; go_simp)
    first | done | (with_reducible rfl)
  try simp only [Act.put, List.setIfInBounds_toArray, List.set_cons_zero, List.set_cons_succ]
  refine wpAnyH_take (i := 3) (oi := ⟨some 16, _, _, _, _, _⟩) (v := ?_) rfl (by kernel_rfl) (by kernel_rfl) (by kernel_rfl) (fun _ _ _ h => h) (Or.inl ⟨by rfl, ?_⟩) HS0.out ?_
  rotate_left
  · (intro W hSW; clear hSW; go_simp)
    first | done | (with_reducible rfl)
  try simp only [Act.put, List.setIfInBounds_toArray, List.set_cons_zero, List.set_cons_succ]
  refine wpAnyH_take (i := 4) (oi := ⟨some 17, _, _, _, _, _⟩) (v := ?_) rfl (by kernel_rfl) (by kernel_rfl) (by kernel_rfl) (fun _ _ _ h => h) (Or.inl ⟨by rfl, ?_⟩) HS0.out ?_
  rotate_left
  · (intro W hSW; clear hSW; go_simp)
    first | done | (with_reducible rfl)
  try simp only [Act.put, List.setIfInBounds_toArray, List.set_cons_zero, List.set_cons_succ]
  refine wpAnyH_take (i := 5) (oi := ⟨some 18, _, _, _, _, _⟩) (v := .int .i64 V.ns) rfl (by kernel_rfl) (by kernel_rfl) (by kernel_rfl) (fun _ _ _ h => h) (Or.inl ⟨by rfl, ?_⟩) HS0.out ?_
  · (intro W hSW; have hc := hSW.cell 3; clear hSW; go_simp)
  try simp only [Act.put, List.setIfInBounds_toArray, List.set_cons_zero, List.set_cons_succ]
  refine wpAnyH_take (i := 6) (oi := ⟨some 19, _, _, _, _, _⟩) (v := .int .i64 (x / V.ns)) rfl (by kernel_rfl) (by kernel_rfl) (by kernel_rfl) (fun _ _ _ h => h) (Or.inl ⟨by rfl, ?_⟩) HS0.out ?_
  · (intro W hSW; clear hSW; go_simp)
    rw [if_neg HZ.out, HW.out]
  try simp only [Act.put, List.setIfInBounds_toArray, List.set_cons_zero, List.set_cons_succ]
  refine wpAnyH_take (i := 7) (oi := ⟨some 20, _, _, _, _, _⟩) (v := ?_) rfl (by kernel_rfl) (by kernel_rfl) (by kernel_rfl) (fun _ _ _ h => h) (Or.inl ⟨by rfl, ?_⟩) HS0.out ?_
  rotate_left
  · (intro W hSW; clear hSW; go_simp)
    first | done | (with_reducible rfl)
  try simp only [Act.put, List.setIfInBounds_toArray, List.set_cons_zero, List.set_cons_succ]
  refine wpAnyH_take (i := 8) (oi := ⟨some 21, _, _, _, _, _⟩) (v := .int .i64 V.no) rfl (by kernel_rfl) (by kernel_rfl) (by kernel_rfl) (fun _ _ _ h => h) (Or.inl ⟨by rfl, ?_⟩) HS0.out ?_
  · (intro W hSW; have hc := hSW.cell 5; clear hSW; go_simp)
  try simp only [Act.put, List.setIfInBounds_toArray, List.set_cons_zero, List.set_cons_succ]
  refine wpAnyH_take (i := 9) (oi := ⟨some 22, _, _, _, _, _⟩) (v := .bool true) rfl (by kernel_rfl) (by kernel_rfl) (by kernel_rfl) (fun _ _ _ h => h) (Or.inl ⟨by rfl, ?_⟩) HS0.out ?_
  · (intro W hSW; clear hSW; go_simp)
  try simp only [Act.put, List.setIfInBounds_toArray, List.set_cons_zero, List.set_cons_succ]
  refine wpAnyH_take (i := 10) (oi := ⟨some 23, _, _, _, _, _⟩) (v := .bool true) rfl (by kernel_rfl) (by kernel_rfl) (by kernel_rfl) (fun _ _ _ h => h) (Or.inl ⟨by rfl, ?_⟩) HS0.out ?_
  · (intro W hSW; clear hSW; go_simp)
  try simp only [Act.put, List.setIfInBounds_toArray, List.set_cons_zero, List.set_cons_succ]
  refine wpAnyH_done (by kernel_rfl) ?_ _
  have D1 : Hid (DWin w A n c V p x1.drew) := D1.out.drew
  clear HS0
  generalize x1.drew = x2 at *
  have a5 := D1.out.one.cell 5
  have f5 := D1.out.one.frozen 5
  have a3 := D1.out.one.cell 3
  have D2 := Lib.hid (D1.out.num (x / V.ns))
  go_upto_region 5 with fail
  clear a5 f5 a3 D1
  generalize x2.setCell ⟨w.heap.size, 5, none⟩ (.int .i64 (x / V.ns)) = x6 at *
  have a1 := D2.out.one.cell 1
  go_upto_region 6 with (first | (refine wpList_build rfl 38 [(1, .tmp 31)] rfl [(1, .int .i64 (V.M : Int))] rfl (dcs none 0 0 V.M 0) (run_bsk V.M _) ?_) | (refine wpList_store_mid rfl 38 (.tmp 33) (.tmp 32) rfl w.heap.size 0 (dcs none 0 0 V.M 0).toArray rfl rfl (dw_there D2.out.one) size39 (dcs_one _ _ _ _ _) ?_))
  have D3 : Hid (DWin w none 0 0 U p (x6.setCells w.heap.size 0 (dcs none 0 0 V.M 0))) := hU ▸ D2.out.put none 0 0 0 []
  clear a1 D2
  have D2 := D3
  clear D3
  generalize x6.setCells w.heap.size 0 (dcs none 0 0 V.M 0) = x2' at *
  have HA : Hid (Calls Try.prog 22 #[.agg (dcs none 0 0 U.M U.T).toArray, .agg p.cs.toArray, .int .i64 y] x2' (DocOut U.M (stp U.M U.L p y) (addK U.T y) (pos U.M U.L p) x2')) := by
    rw [← hU]
    exact dadd_ none 0 V.M 0 [] p y x2' (fun k s hk => by simp at hk) (fun _ h => absurd h (by simp)) HP.out (Nat.zero_le _) HL.out.2.1 HL.out.2.2
  have HOU : Hid (Oks U.L) := by rw [← hU]; exact fun _ h => absurd h (by simp)
  have HM1 : Hid (1 ≤ U.M) := by rw [← hU]; exact HL.out.2.1
  have hlt2 := D2.out.lt
  have HSL := Lib.hid (slo_bd (HOU.out.stp_ (M := U.M) (n := y) HP.out) (pos U.M U.L p))
  have HJ := Lib.hid (stp_pos (p := p) (L := U.L) (n := y) HM1.out)
  have HSP : Hid (U.hvy p y = decide (U.th ≤ (at_ (stp U.M U.L p y) (pos U.M U.L p)).c - (at_ (stp U.M U.L p y) (pos U.M U.L p)).e)) := rfl
  have HCL : Hid ((U.cnt p y).L = stp U.M U.L p y) := rfl
  have HDP := Lib.hid (fun (A' : Option Addr) (n' c' : Nat) W (hW : DWin w none 0 0 U p W) => (hW.put A' n' c' (addK U.T y) (stp U.M U.L p y)).drew)
  change Hid (∀ (A' : Option Addr) (n' c' : Nat) W, DWin w none 0 0 U p W → DWin w A' n' c' (U.cnt p y) p (W.setCells w.heap.size 0 (dcs A' n' c' U.M (addK U.T y))).drew) at HDP
  obtain ⟨L3, hL3⟩ : ∃ L3, stp U.M U.L p y = L3 := ⟨_, rfl⟩
  obtain ⟨j3, hj3⟩ : ∃ j3, pos U.M U.L p = j3 := ⟨_, rfl⟩
  rw [hL3, hj3] at HSL HJ HSP HA
  rw [hL3] at HCL
  obtain ⟨m3, hm3⟩ : ∃ m3, L3.length = m3 := ⟨_, rfl⟩
  have HM3 := Lib.hid hm3
  obtain ⟨sl, hsl⟩ : ∃ sl, at_ L3 j3 = sl := ⟨_, rfl⟩
  rw [hsl] at HSL HSP
  have hj := HJ.out
  rw [hm3] at hj
  have HSA := Lib.hid (at_some HJ.out)
  rw [hsl] at HSA
  have HB : Hid (IntKind.i64.wrap (sl.c - sl.e) = sl.c - sl.e) := by
    have := HSL.out
    show _ = _
    rw [IntKind.wrap_i64] <;> omega
  clear hL3 hj3 hm3 hsl HSL HJ
  go_upto_region 8 with (first | (refine wpList_load_mid rfl 38 (.tmp 35) rfl w.heap.size 0 rfl (dcs none 0 0 U.M U.T) _ (dw_sk D2.out.one) Try.underlying38 rfl size39 ?_) | (refine wpList_pre (by rfl) (.tmp 6) rfl _ _ rfl p (whole_at D2.out.pre) ?_) | (go_at_call 22; (with_reducible refine HA.out.mono ?_); rintro e x3 ⟨A3, c3, rfl, hl, ⟨b3, rfl, hb3⟩, hb⟩; rw [HM3.out]; have L3' := Lib.hid hl; have D3 := Lib.hid (D2.out.below hb); clear hl hb) | (refine wpList_store_mid rfl 38 (.tmp 42) (.tmp 40) rfl w.heap.size 0 (dcs (some ⟨b3, 0, none⟩) m3 c3 U.M (addK U.T y)).toArray rfl rfl (dw_there D3.out.one) size39 (dcs_one _ _ _ _ _) ?_))
  have D4 := Lib.hid (HDP.out (some ⟨b3, 0, none⟩) m3 c3 _ D3.out)
  have hfs := far_setCells (S := only w.heap.size) (g := w.heap.size) (dcs (some ⟨b3, 0, none⟩) m3 c3 U.M (addK U.T y)) 0 x3 x3 (Far.refl _ _) (fun _ => rfl)
  have hb4 : b3 ≠ w.heap.size := by omega
  have hb5 : b3 ≠ w.heap.size + 2 := by omega
  have L4 : Hid (LAt (some ⟨b3, 0, none⟩) L3 (x3.setCells w.heap.size 0 (dcs (some ⟨b3, 0, none⟩) m3 c3 U.M (addK U.T y))).drew) := L3'.out.far_ (S := only w.heap.size) hfs.drew (fun b e k => by cases e; exact hb4 k)
  clear D2 D3 L3' hfs HDP HA hb4
  generalize (x3.setCells w.heap.size 0 (dcs (some ⟨b3, 0, none⟩) m3 c3 U.M (addK U.T y))) = x4 at *
  have R4 : Hid (x4.drew.rangeAt b3 (j3 * 10) sl.cs) := by
    obtain ⟨q, e, hr⟩ := L4.out j3 sl HSA.out
    cases e
    exact hr
  refine wp_region_held_drew (S := fun W => Blk W w.heap.size 40 (dw (some ⟨b3, 0, none⟩) m3 c3 (U.cnt p y)) ∧ W.rangeAt b3 (j3 * 10) sl.cs) (by kernel_rfl) ?_ (fun _ => ?_)
  · exact ⟨D4.out.one, R4.out⟩
  have HS0 : Hid (Blk x4.drew w.heap.size 40 (dw (some ⟨b3, 0, none⟩) m3 c3 (U.cnt p y)) ∧ x4.drew.rangeAt b3 (j3 * 10) sl.cs) := ⟨D4.out.one, R4.out⟩
  refine wpAnyH_take (i := 0) (oi := ⟨some 43, _, _, _, _, _⟩) (v := .agg (dw (some ⟨b3, 0, none⟩) m3 c3 (U.cnt p y)).toArray) rfl (by kernel_rfl) (by kernel_rfl) (by kernel_rfl) (fun _ _ _ h => h) (yieldsIf_load_mid (by rfl) 40 (.tmp 4) rfl w.heap.size 0 rfl _ _ (fun _ h => whole_at h.1) Try.underlying40 rfl size40) HS0.out ?_
  try simp only [Act.put, List.setIfInBounds_toArray, List.set_cons_zero, List.set_cons_succ]
  refine wpAnyH_take (i := 1) (oi := ⟨some 44, _, _, _, _, _⟩) (v := ?_) rfl (by kernel_rfl) (by kernel_rfl) (by kernel_rfl) (fun _ _ _ h => h) (Or.inl ⟨by rfl, ?_⟩) HS0.out ?_
  rotate_left
  · (intro W hSW; clear hSW; go_simp)
    first | done | (with_reducible rfl)
  try simp only [Act.put, List.setIfInBounds_toArray, List.set_cons_zero, List.set_cons_succ]
  refine wpAnyH_take (i := 2) (oi := ⟨some 45, _, _, _, _, _⟩) (v := ?_) rfl (by kernel_rfl) (by kernel_rfl) (by kernel_rfl) (fun _ _ _ h => h) (Or.inl ⟨by rfl, ?_⟩) HS0.out ?_
  rotate_left
  · (intro W hSW; clear hSW; go_simp)
    first | done | (with_reducible rfl)
  try simp only [Act.put, List.setIfInBounds_toArray, List.set_cons_zero, List.set_cons_succ]
  refine wpAnyH_take (i := 3) (oi := ⟨some 46, _, _, _, _, _⟩) (v := .slice (some ⟨b3, 0, none⟩) m3 c3) rfl (by kernel_rfl) (by kernel_rfl) (by kernel_rfl) (fun _ _ _ h => h) (Or.inl ⟨by rfl, ?_⟩) HS0.out ?_
  · (intro W hSW; have hc := hSW.1.cell 0; clear hSW; go_simp)
  try simp only [Act.put, List.setIfInBounds_toArray, List.set_cons_zero, List.set_cons_succ]
  refine wpAnyH_take (i := 4) (oi := ⟨some 47, _, _, _, _, _⟩) (v := ?_) rfl (by kernel_rfl) (by kernel_rfl) (by kernel_rfl) (fun _ _ _ h => h) (Or.inl ⟨by rfl, ?_⟩) HS0.out ?_
  rotate_left
  · (intro W hSW; clear hSW; go_simp)
    first | done | (with_reducible rfl)
  try simp only [Act.put, List.setIfInBounds_toArray, List.set_cons_zero, List.set_cons_succ]
  refine wpAnyH_take (i := 5) (oi := ⟨some 48, _, _, _, _, _⟩) (v := ?_) rfl (by kernel_rfl) (by kernel_rfl) (by kernel_rfl) (fun _ _ _ h => h) (Or.inl ⟨by rfl, ?_⟩) HS0.out ?_
  rotate_left
  · (intro W hSW; clear hSW; go_simp)
    first | done | (with_reducible rfl)
  try simp only [Act.put, List.setIfInBounds_toArray, List.set_cons_zero, List.set_cons_succ]
  refine wpAnyH_take (i := 6) (oi := ⟨some 49, _, _, _, _, _⟩) (v := ?_) rfl (by kernel_rfl) (by kernel_rfl) (by kernel_rfl) (fun _ _ _ h => h) (Or.inl ⟨by rfl, ?_⟩) HS0.out ?_
  rotate_left
  · (intro W hSW; clear hSW; go_simp)
    first | done | (with_reducible rfl)
  try simp only [Act.put, List.setIfInBounds_toArray, List.set_cons_zero, List.set_cons_succ]
  refine wpAnyH_take (i := 7) (oi := ⟨some 50, _, _, _, _, _⟩) (v := .int .i64 sl.c) rfl (by kernel_rfl) (by kernel_rfl) (by kernel_rfl) (fun _ _ _ h => h) (Or.inl ⟨by rfl, ?_⟩) HS0.out ?_
  · (intro W hSW; have hc := hSW.2 8 _ rfl; clear hSW; go_simp)
  try simp only [Act.put, List.setIfInBounds_toArray, List.set_cons_zero, List.set_cons_succ]
  refine wpAnyH_take (i := 8) (oi := ⟨some 51, _, _, _, _, _⟩) (v := ?_) rfl (by kernel_rfl) (by kernel_rfl) (by kernel_rfl) (fun _ _ _ h => h) (Or.inl ⟨by rfl, ?_⟩) HS0.out ?_
  rotate_left
  · (intro W hSW; clear hSW; go_simp)
    first | done | (with_reducible rfl)
  try simp only [Act.put, List.setIfInBounds_toArray, List.set_cons_zero, List.set_cons_succ]
  refine wpAnyH_take (i := 9) (oi := ⟨some 52, _, _, _, _, _⟩) (v := ?_) rfl (by kernel_rfl) (by kernel_rfl) (by kernel_rfl) (fun _ _ _ h => h) (Or.inl ⟨by rfl, ?_⟩) HS0.out ?_
  rotate_left
  · (intro W hSW; clear hSW; go_simp)
    first | done | (with_reducible rfl)
  try simp only [Act.put, List.setIfInBounds_toArray, List.set_cons_zero, List.set_cons_succ]
  refine wpAnyH_take (i := 10) (oi := ⟨some 53, _, _, _, _, _⟩) (v := .slice (some ⟨b3, 0, none⟩) m3 c3) rfl (by kernel_rfl) (by kernel_rfl) (by kernel_rfl) (fun _ _ _ h => h) (Or.inl ⟨by rfl, ?_⟩) HS0.out ?_
  · (intro W hSW; have hc := hSW.1.cell 0; clear hSW; go_simp)
  try simp only [Act.put, List.setIfInBounds_toArray, List.set_cons_zero, List.set_cons_succ]
  refine wpAnyH_take (i := 11) (oi := ⟨some 54, _, _, _, _, _⟩) (v := ?_) rfl (by kernel_rfl) (by kernel_rfl) (by kernel_rfl) (fun _ _ _ h => h) (Or.inl ⟨by rfl, ?_⟩) HS0.out ?_
  rotate_left
  · (intro W hSW; clear hSW; go_simp)
    first | done | (with_reducible rfl)
  try simp only [Act.put, List.setIfInBounds_toArray, List.set_cons_zero, List.set_cons_succ]
  refine wpAnyH_take (i := 12) (oi := ⟨some 55, _, _, _, _, _⟩) (v := ?_) rfl (by kernel_rfl) (by kernel_rfl) (by kernel_rfl) (fun _ _ _ h => h) (Or.inl ⟨by rfl, ?_⟩) HS0.out ?_
  rotate_left
  · (intro W hSW; clear hSW; go_simp)
    first | done | (with_reducible rfl)
  try simp only [Act.put, List.setIfInBounds_toArray, List.set_cons_zero, List.set_cons_succ]
  refine wpAnyH_take (i := 13) (oi := ⟨some 56, _, _, _, _, _⟩) (v := ?_) rfl (by kernel_rfl) (by kernel_rfl) (by kernel_rfl) (fun _ _ _ h => h) (Or.inl ⟨by rfl, ?_⟩) HS0.out ?_
  rotate_left
  · (intro W hSW; clear hSW; go_simp)
    first | done | (with_reducible rfl)
  try simp only [Act.put, List.setIfInBounds_toArray, List.set_cons_zero, List.set_cons_succ]
  refine wpAnyH_take (i := 14) (oi := ⟨some 57, _, _, _, _, _⟩) (v := .int .i64 sl.e) rfl (by kernel_rfl) (by kernel_rfl) (by kernel_rfl) (fun _ _ _ h => h) (Or.inl ⟨by rfl, ?_⟩) HS0.out ?_
  · (intro W hSW; have hc := hSW.2 9 _ rfl; clear hSW; go_simp)
  try simp only [Act.put, List.setIfInBounds_toArray, List.set_cons_zero, List.set_cons_succ]
  refine wpAnyH_take (i := 15) (oi := ⟨some 58, _, _, _, _, _⟩) (v := .int .i64 (sl.c - sl.e)) rfl (by kernel_rfl) (by kernel_rfl) (by kernel_rfl) (fun _ _ _ h => h) (Or.inl ⟨by rfl, ?_⟩) HS0.out ?_
  · (intro W hSW; clear hSW; go_simp)
    rw [HB.out]
  try simp only [Act.put, List.setIfInBounds_toArray, List.set_cons_zero, List.set_cons_succ]
  refine wpAnyH_take (i := 16) (oi := ⟨some 59, _, _, _, _, _⟩) (v := ?_) rfl (by kernel_rfl) (by kernel_rfl) (by kernel_rfl) (fun _ _ _ h => h) (Or.inl ⟨by rfl, ?_⟩) HS0.out ?_
  rotate_left
  · (intro W hSW; clear hSW; go_simp)
    first | done | (with_reducible rfl)
  try simp only [Act.put, List.setIfInBounds_toArray, List.set_cons_zero, List.set_cons_succ]
  refine wpAnyH_take (i := 17) (oi := ⟨some 60, _, _, _, _, _⟩) (v := .int .i64 U.th) rfl (by kernel_rfl) (by kernel_rfl) (by kernel_rfl) (fun _ _ _ h => h) (Or.inl ⟨by rfl, ?_⟩) HS0.out ?_
  · (intro W hSW; have hc := hSW.1.cell 4; clear hSW; go_simp)
    rfl
  try simp only [Act.put, List.setIfInBounds_toArray, List.set_cons_zero, List.set_cons_succ]
  refine wpAnyH_take (i := 18) (oi := ⟨some 61, _, _, _, _, _⟩) (v := .bool (decide (U.th ≤ sl.c - sl.e))) rfl (by kernel_rfl) (by kernel_rfl) (by kernel_rfl) (fun _ _ _ h => h) (Or.inl ⟨by rfl, ?_⟩) HS0.out ?_
  · (intro W hSW; clear hSW; go_simp)
  try simp only [Act.put, List.setIfInBounds_toArray, List.set_cons_zero, List.set_cons_succ]
  refine wpAnyH_ready (rs := [19]) (by kernel_rfl) (by simp) ?_
  refine AllReadyH.cons (o := ⟨none, _, _, _, _, _⟩) rfl (fun K hK => ?_) AllReadyH.nil
  refine step_lay (by rfl) 40 6 size40 (.tmp 8) (.tmp 43) (by rfl) (w.heap.size + 2) (dw (some ⟨b3, 0, none⟩) m3 c3 (U.cnt p y)) (by rfl) (by rfl) 40 (dw none 0 0 wn0) D4.out.res rfl rfl (dw_one _ _ _ _) ?_
  intro x5 K5 F5
  have HS1 : Hid (Blk x5 w.heap.size 40 (dw (some ⟨b3, 0, none⟩) m3 c3 (U.cnt p y)) ∧ x5.rangeAt b3 (j3 * 10) sl.cs) := ⟨D4.out.one.far F5.out (fun e => by have h1 : w.heap.size = w.heap.size + 2 := e; omega), fun j v hv => (World.cell?_of_block (F5.out.block _ (World.block_lt_of_cell? _ _ (R4.out j v hv)) (fun e => hb5 e))).trans (R4.out j v hv)⟩
  refine hK.out _ _ ?_ (fun _ => ?_)
  · exact HS1.out
  clear hK K
  try simp only [Act.put]
  refine wpAnyH_take (i := 20) (oi := ⟨some 9, _, _, _, _, _⟩) (v := ?_) rfl (by kernel_rfl) (by kernel_rfl) (by kernel_rfl) (fun _ _ _ h => h) (Or.inl ⟨by rfl, ?_⟩) HS1.out ?_
  rotate_left
  · (intro W hSW; clear hSW; go_simp)
    first | done | (with_reducible rfl)
  try simp only [Act.put, List.setIfInBounds_toArray, List.set_cons_zero, List.set_cons_succ]
  refine wpAnyH_done (by kernel_rfl) ?_ _
  have L5 := L4.out.far_ (S := only (w.heap.size + 2)) F5.out (fun b e k => by cases e; exact hb5 k)
  have hv := load_dw K5.out rfl
  have HBE := below_only D4.out.be F5.out (by omega) D4.out.be.size
  go_wp2_with fail
  refine bodyPost_ret (v := .tuple #[docw (some ⟨b3, 0, none⟩) m3 c3 (U.cnt p y), .bool (decide (U.th ≤ sl.c - sl.e))]) (by simp [results, Try.results14, asAddr, hv]) rfl ?_
  refine ⟨some ⟨b3, 0, none⟩, c3, by rw [HCL.out, HM3.out, HSP.out], by rw [HCL.out]; exact L5, ⟨b3, rfl, by omega⟩, HBE⟩
set_option maxHeartbeats 2000000 in
theorem dwadd_stays (A : Option Addr) (c : Nat) (V : Wn) (p : Pre) (x y : Int) (w : World) (h : LAt A V.L w) (ho : Oks V.L) (hp : p.Ok) (hl : V.L.length ≤ V.M) (h1 : 1 ≤ V.M) (h64 : V.M ≤ 64) (hns : 1 ≤ V.ns) (hc : x ≤ 4611686018427387903) (hx : 0 < x) (hm : x / V.ns ≤ V.no) :
    Calls Try.prog 14 #[docw A V.L.length c V, .int .i64 x, .agg p.cs.toArray, .int .i64 y] w (DWOut (V.cnt p y) (V.hvy p y) w) := by
  have hcd : decide (4611686018427387903 < x) = false := by simp; omega
  have D0 := Lib.hid (DWin.new w A V.L.length c V p)
  have H := Lib.hid (fun W (hW : Below w.heap.size w W) => h.below hW)
  have HO := Lib.hid ho
  have HP := Lib.hid hp
  have HL := Lib.hid (And.intro hl (And.intro h1 h64))
  have HZ : Hid (¬ V.ns = 0) := by show ¬ _; omega
  have hq : 0 ≤ x / V.ns ∧ x / V.ns ≤ x := ediv_bd (by omega) (by omega)
  have HW : Hid (IntKind.i64.wrap (Int.tdiv x V.ns) = x / V.ns) := by
    show _ = _
    rw [Int.tdiv_eq_ediv_of_nonneg (by omega), IntKind.wrap_i64] <;> omega
  have hmd : decide (V.no < x / V.ns) = false := by simp; omega
  have hxd : decide (0 < x) = true := by simp; omega
  clear h ho hp hl h1 h64
  go_enter Try.func14, Try.ntmps14
  go_upto_region 1 with fail
  generalize (((w.alloc (.cells (dw A V.L.length c V).toArray 40)).alloc (.cells p.cs.toArray 31)).alloc (.cells #[.slice none 0 0, .int .i64 0, .int .i64 0, .int .i64 0, .int .i64 0, .int .i64 0] 40)) = x1 at *
  obtain ⟨n, hn⟩ : ∃ n, V.L.length = n := ⟨_, rfl⟩
  rw [hn] at D0
  have HN := Lib.hid hn
  rw [hn]
  clear hn
  go_upto_region 3 with fail
  have D1 := D0
  clear D0
  refine wp_region_held_drew (S := fun W => Blk W w.heap.size 40 (dw A n c V)) (by kernel_rfl) ?_ (fun _ => ?_)
  · exact D1.out.one.drew
  have HS0 : Hid (Blk x1.drew w.heap.size 40 (dw A n c V)) := D1.out.one.drew
  refine wpAnyH_take (i := 0) (oi := ⟨some 13, _, _, _, _, _⟩) (v := ?_) rfl (by kernel_rfl) (by kernel_rfl) (by kernel_rfl) (fun _ _ _ h => h) (Or.inl ⟨by rfl, ?_⟩) HS0.out ?_
  rotate_left
  · (intro W hSW; clear hSW; go_simp)
    first | done | (with_reducible rfl)
  try simp only [Act.put, List.setIfInBounds_toArray, List.set_cons_zero, List.set_cons_succ]
  refine wpAnyH_take (i := 1) (oi := ⟨some 14, _, _, _, _, _⟩) (v := .bool true) rfl (by kernel_rfl) (by kernel_rfl) (by kernel_rfl) (fun _ _ _ h => h) (Or.inl ⟨by rfl, ?_⟩) HS0.out ?_
  · (intro W hSW; clear hSW; go_simp)
  try simp only [Act.put, List.setIfInBounds_toArray, List.set_cons_zero, List.set_cons_succ]
  refine wpAnyH_take (i := 2) (oi := ⟨some 15, _, _, _, _, _⟩) (v := ?_) rfl (by kernel_rfl) (by kernel_rfl) (by kernel_rfl) (fun _ _ _ h => h) (Or.inl ⟨by rfl, ?_⟩) HS0.out ?_
  rotate_left
  · (intro W hSW; clear hSW; go_simp)
    first | done | (with_reducible rfl)
  try simp only [Act.put, List.setIfInBounds_toArray, List.set_cons_zero, List.set_cons_succ]
  refine wpAnyH_take (i := 3) (oi := ⟨some 16, _, _, _, _, _⟩) (v := ?_) rfl (by kernel_rfl) (by kernel_rfl) (by kernel_rfl) (fun _ _ _ h => h) (Or.inl ⟨by rfl, ?_⟩) HS0.out ?_
  rotate_left
  · (intro W hSW; clear hSW; go_simp)
    first | done | (with_reducible rfl)
  try simp only [Act.put, List.setIfInBounds_toArray, List.set_cons_zero, List.set_cons_succ]
  refine wpAnyH_take (i := 4) (oi := ⟨some 17, _, _, _, _, _⟩) (v := ?_) rfl (by kernel_rfl) (by kernel_rfl) (by kernel_rfl) (fun _ _ _ h => h) (Or.inl ⟨by rfl, ?_⟩) HS0.out ?_
  rotate_left
  · (intro W hSW; clear hSW; go_simp)
    first | done | (with_reducible rfl)
  try simp only [Act.put, List.setIfInBounds_toArray, List.set_cons_zero, List.set_cons_succ]
  refine wpAnyH_take (i := 5) (oi := ⟨some 18, _, _, _, _, _⟩) (v := .int .i64 V.ns) rfl (by kernel_rfl) (by kernel_rfl) (by kernel_rfl) (fun _ _ _ h => h) (Or.inl ⟨by rfl, ?_⟩) HS0.out ?_
  · (intro W hSW; have hc := hSW.cell 3; clear hSW; go_simp)
  try simp only [Act.put, List.setIfInBounds_toArray, List.set_cons_zero, List.set_cons_succ]
  refine wpAnyH_take (i := 6) (oi := ⟨some 19, _, _, _, _, _⟩) (v := .int .i64 (x / V.ns)) rfl (by kernel_rfl) (by kernel_rfl) (by kernel_rfl) (fun _ _ _ h => h) (Or.inl ⟨by rfl, ?_⟩) HS0.out ?_
  · (intro W hSW; clear hSW; go_simp)
    rw [if_neg HZ.out, HW.out]
  try simp only [Act.put, List.setIfInBounds_toArray, List.set_cons_zero, List.set_cons_succ]
  refine wpAnyH_take (i := 7) (oi := ⟨some 20, _, _, _, _, _⟩) (v := ?_) rfl (by kernel_rfl) (by kernel_rfl) (by kernel_rfl) (fun _ _ _ h => h) (Or.inl ⟨by rfl, ?_⟩) HS0.out ?_
  rotate_left
  · (intro W hSW; clear hSW; go_simp)
    first | done | (with_reducible rfl)
  try simp only [Act.put, List.setIfInBounds_toArray, List.set_cons_zero, List.set_cons_succ]
  refine wpAnyH_take (i := 8) (oi := ⟨some 21, _, _, _, _, _⟩) (v := .int .i64 V.no) rfl (by kernel_rfl) (by kernel_rfl) (by kernel_rfl) (fun _ _ _ h => h) (Or.inl ⟨by rfl, ?_⟩) HS0.out ?_
  · (intro W hSW; have hc := hSW.cell 5; clear hSW; go_simp)
  try simp only [Act.put, List.setIfInBounds_toArray, List.set_cons_zero, List.set_cons_succ]
  refine wpAnyH_take (i := 9) (oi := ⟨some 22, _, _, _, _, _⟩) (v := .bool false) rfl (by kernel_rfl) (by kernel_rfl) (by kernel_rfl) (fun _ _ _ h => h) (Or.inl ⟨by rfl, ?_⟩) HS0.out ?_
  · (intro W hSW; clear hSW; go_simp)
  try simp only [Act.put, List.setIfInBounds_toArray, List.set_cons_zero, List.set_cons_succ]
  refine wpAnyH_take (i := 10) (oi := ⟨some 23, _, _, _, _, _⟩) (v := .bool false) rfl (by kernel_rfl) (by kernel_rfl) (by kernel_rfl) (fun _ _ _ h => h) (Or.inl ⟨by rfl, ?_⟩) HS0.out ?_
  · (intro W hSW; clear hSW; go_simp)
  try simp only [Act.put, List.setIfInBounds_toArray, List.set_cons_zero, List.set_cons_succ]
  refine wpAnyH_done (by kernel_rfl) ?_ _
  have D1 : Hid (DWin w A n c V p x1.drew) := D1.out.drew
  clear HS0
  generalize x1.drew = x2 at *
  have HA := Lib.hid (dadd_ A c V.M V.T V.L p y x2 (H.out _ D1.out.be) HO.out HP.out HL.out.1 HL.out.2.1 HL.out.2.2)
  rw [HN.out] at HA
  have HOU := HO
  have HM1 := Lib.hid HL.out.2.1
  have D2 := D1
  clear D1
  go_upto_region 6 with fail
  have hlt2 := D2.out.lt
  have HSL := Lib.hid (slo_bd (HOU.out.stp_ (M := V.M) (n := y) HP.out) (pos V.M V.L p))
  have HJ := Lib.hid (stp_pos (p := p) (L := V.L) (n := y) HM1.out)
  have HSP : Hid (V.hvy p y = decide (V.th ≤ (at_ (stp V.M V.L p y) (pos V.M V.L p)).c - (at_ (stp V.M V.L p y) (pos V.M V.L p)).e)) := rfl
  have HCL : Hid ((V.cnt p y).L = stp V.M V.L p y) := rfl
  have HDP := Lib.hid (fun (A' : Option Addr) (n' c' : Nat) W (hW : DWin w A n c V p W) => (hW.put A' n' c' (addK V.T y) (stp V.M V.L p y)).drew)
  change Hid (∀ (A' : Option Addr) (n' c' : Nat) W, DWin w A n c V p W → DWin w A' n' c' (V.cnt p y) p (W.setCells w.heap.size 0 (dcs A' n' c' V.M (addK V.T y))).drew) at HDP
  obtain ⟨L3, hL3⟩ : ∃ L3, stp V.M V.L p y = L3 := ⟨_, rfl⟩
  obtain ⟨j3, hj3⟩ : ∃ j3, pos V.M V.L p = j3 := ⟨_, rfl⟩
  rw [hL3, hj3] at HSL HJ HSP HA
  rw [hL3] at HCL
  obtain ⟨m3, hm3⟩ : ∃ m3, L3.length = m3 := ⟨_, rfl⟩
  have HM3 := Lib.hid hm3
  obtain ⟨sl, hsl⟩ : ∃ sl, at_ L3 j3 = sl := ⟨_, rfl⟩
  rw [hsl] at HSL HSP
  have hj := HJ.out
  rw [hm3] at hj
  have HSA := Lib.hid (at_some HJ.out)
  rw [hsl] at HSA
  have HB : Hid (IntKind.i64.wrap (sl.c - sl.e) = sl.c - sl.e) := by
    have := HSL.out
    show _ = _
    rw [IntKind.wrap_i64] <;> omega
  clear hL3 hj3 hm3 hsl HSL HJ
  go_upto_region 8 with (first | (refine wpList_load_mid rfl 38 (.tmp 35) rfl w.heap.size 0 rfl (dcs A n c V.M V.T) _ (dw_sk D2.out.one) Try.underlying38 rfl size39 ?_) | (refine wpList_pre (by rfl) (.tmp 6) rfl _ _ rfl p (whole_at D2.out.pre) ?_) | (go_at_call 22; (with_reducible refine HA.out.mono ?_); rintro e x3 ⟨A3, c3, rfl, hl, ⟨b3, rfl, hb3⟩, hb⟩; rw [HM3.out]; have L3' := Lib.hid hl; have D3 := Lib.hid (D2.out.below hb); clear hl hb) | (refine wpList_store_mid rfl 38 (.tmp 42) (.tmp 40) rfl w.heap.size 0 (dcs (some ⟨b3, 0, none⟩) m3 c3 V.M (addK V.T y)).toArray rfl rfl (dw_there D3.out.one) size39 (dcs_one _ _ _ _ _) ?_))
  have D4 := Lib.hid (HDP.out (some ⟨b3, 0, none⟩) m3 c3 _ D3.out)
  have hfs := far_setCells (S := only w.heap.size) (g := w.heap.size) (dcs (some ⟨b3, 0, none⟩) m3 c3 V.M (addK V.T y)) 0 x3 x3 (Far.refl _ _) (fun _ => rfl)
  have hb4 : b3 ≠ w.heap.size := by omega
  have hb5 : b3 ≠ w.heap.size + 2 := by omega
  have L4 : Hid (LAt (some ⟨b3, 0, none⟩) L3 (x3.setCells w.heap.size 0 (dcs (some ⟨b3, 0, none⟩) m3 c3 V.M (addK V.T y))).drew) := L3'.out.far_ (S := only w.heap.size) hfs.drew (fun b e k => by cases e; exact hb4 k)
  clear D2 D3 L3' hfs HDP HA hb4
  generalize (x3.setCells w.heap.size 0 (dcs (some ⟨b3, 0, none⟩) m3 c3 V.M (addK V.T y))) = x4 at *
  have R4 : Hid (x4.drew.rangeAt b3 (j3 * 10) sl.cs) := by
    obtain ⟨q, e, hr⟩ := L4.out j3 sl HSA.out
    cases e
    exact hr
  refine wp_region_held_drew (S := fun W => Blk W w.heap.size 40 (dw (some ⟨b3, 0, none⟩) m3 c3 (V.cnt p y)) ∧ W.rangeAt b3 (j3 * 10) sl.cs) (by kernel_rfl) ?_ (fun _ => ?_)
  · exact ⟨D4.out.one, R4.out⟩
  have HS0 : Hid (Blk x4.drew w.heap.size 40 (dw (some ⟨b3, 0, none⟩) m3 c3 (V.cnt p y)) ∧ x4.drew.rangeAt b3 (j3 * 10) sl.cs) := ⟨D4.out.one, R4.out⟩
  refine wpAnyH_take (i := 0) (oi := ⟨some 43, _, _, _, _, _⟩) (v := .agg (dw (some ⟨b3, 0, none⟩) m3 c3 (V.cnt p y)).toArray) rfl (by kernel_rfl) (by kernel_rfl) (by kernel_rfl) (fun _ _ _ h => h) (yieldsIf_load_mid (by rfl) 40 (.tmp 4) rfl w.heap.size 0 rfl _ _ (fun _ h => whole_at h.1) Try.underlying40 rfl size40) HS0.out ?_
  try simp only [Act.put, List.setIfInBounds_toArray, List.set_cons_zero, List.set_cons_succ]
  refine wpAnyH_take (i := 1) (oi := ⟨some 44, _, _, _, _, _⟩) (v := ?_) rfl (by kernel_rfl) (by kernel_rfl) (by kernel_rfl) (fun _ _ _ h => h) (Or.inl ⟨by rfl, ?_⟩) HS0.out ?_
  rotate_left
  · (intro W hSW; clear hSW; go_simp)
    first | done | (with_reducible rfl)
  try simp only [Act.put, List.setIfInBounds_toArray, List.set_cons_zero, List.set_cons_succ]
  refine wpAnyH_take (i := 2) (oi := ⟨some 45, _, _, _, _, _⟩) (v := ?_) rfl (by kernel_rfl) (by kernel_rfl) (by kernel_rfl) (fun _ _ _ h => h) (Or.inl ⟨by rfl, ?_⟩) HS0.out ?_
  rotate_left
  · (intro W hSW; clear hSW; go_simp)
    first | done | (with_reducible rfl)
  try simp only [Act.put, List.setIfInBounds_toArray, List.set_cons_zero, List.set_cons_succ]
  refine wpAnyH_take (i := 3) (oi := ⟨some 46, _, _, _, _, _⟩) (v := .slice (some ⟨b3, 0, none⟩) m3 c3) rfl (by kernel_rfl) (by kernel_rfl) (by kernel_rfl) (fun _ _ _ h => h) (Or.inl ⟨by rfl, ?_⟩) HS0.out ?_
  · (intro W hSW; have hc := hSW.1.cell 0; clear hSW; go_simp)
  try simp only [Act.put, List.setIfInBounds_toArray, List.set_cons_zero, List.set_cons_succ]
  refine wpAnyH_take (i := 4) (oi := ⟨some 47, _, _, _, _, _⟩) (v := ?_) rfl (by kernel_rfl) (by kernel_rfl) (by kernel_rfl) (fun _ _ _ h => h) (Or.inl ⟨by rfl, ?_⟩) HS0.out ?_
  rotate_left
  · (intro W hSW; clear hSW; go_simp)
    first | done | (with_reducible rfl)
  try simp only [Act.put, List.setIfInBounds_toArray, List.set_cons_zero, List.set_cons_succ]
  refine wpAnyH_take (i := 5) (oi := ⟨some 48, _, _, _, _, _⟩) (v := ?_) rfl (by kernel_rfl) (by kernel_rfl) (by kernel_rfl) (fun _ _ _ h => h) (Or.inl ⟨by rfl, ?_⟩) HS0.out ?_
  rotate_left
  · (intro W hSW; clear hSW; go_simp)
    first | done | (with_reducible rfl)
  try simp only [Act.put, List.setIfInBounds_toArray, List.set_cons_zero, List.set_cons_succ]
  refine wpAnyH_take (i := 6) (oi := ⟨some 49, _, _, _, _, _⟩) (v := ?_) rfl (by kernel_rfl) (by kernel_rfl) (by kernel_rfl) (fun _ _ _ h => h) (Or.inl ⟨by rfl, ?_⟩) HS0.out ?_
  rotate_left
  · (intro W hSW; clear hSW; go_simp)
    first | done | (with_reducible rfl)
  try simp only [Act.put, List.setIfInBounds_toArray, List.set_cons_zero, List.set_cons_succ]
  refine wpAnyH_take (i := 7) (oi := ⟨some 50, _, _, _, _, _⟩) (v := .int .i64 sl.c) rfl (by kernel_rfl) (by kernel_rfl) (by kernel_rfl) (fun _ _ _ h => h) (Or.inl ⟨by rfl, ?_⟩) HS0.out ?_
  · (intro W hSW; have hc := hSW.2 8 _ rfl; clear hSW; go_simp)
  try simp only [Act.put, List.setIfInBounds_toArray, List.set_cons_zero, List.set_cons_succ]
  refine wpAnyH_take (i := 8) (oi := ⟨some 51, _, _, _, _, _⟩) (v := ?_) rfl (by kernel_rfl) (by kernel_rfl) (by kernel_rfl) (fun _ _ _ h => h) (Or.inl ⟨by rfl, ?_⟩) HS0.out ?_
  rotate_left
  · (intro W hSW; clear hSW; go_simp)
    first | done | (with_reducible rfl)
  try simp only [Act.put, List.setIfInBounds_toArray, List.set_cons_zero, List.set_cons_succ]
  refine wpAnyH_take (i := 9) (oi := ⟨some 52, _, _, _, _, _⟩) (v := ?_) rfl (by kernel_rfl) (by kernel_rfl) (by kernel_rfl) (fun _ _ _ h => h) (Or.inl ⟨by rfl, ?_⟩) HS0.out ?_
  rotate_left
  · (intro W hSW; clear hSW; go_simp)
    first | done | (with_reducible rfl)
  try simp only [Act.put, List.setIfInBounds_toArray, List.set_cons_zero, List.set_cons_succ]
  refine wpAnyH_take (i := 10) (oi := ⟨some 53, _, _, _, _, _⟩) (v := .slice (some ⟨b3, 0, none⟩) m3 c3) rfl (by kernel_rfl) (by kernel_rfl) (by kernel_rfl) (fun _ _ _ h => h) (Or.inl ⟨by rfl, ?_⟩) HS0.out ?_
  · (intro W hSW; have hc := hSW.1.cell 0; clear hSW; go_simp)
  try simp only [Act.put, List.setIfInBounds_toArray, List.set_cons_zero, List.set_cons_succ]
  refine wpAnyH_take (i := 11) (oi := ⟨some 54, _, _, _, _, _⟩) (v := ?_) rfl (by kernel_rfl) (by kernel_rfl) (by kernel_rfl) (fun _ _ _ h => h) (Or.inl ⟨by rfl, ?_⟩) HS0.out ?_
  rotate_left
  · (intro W hSW; clear hSW; go_simp)
    first | done | (with_reducible rfl)
  try simp only [Act.put, List.setIfInBounds_toArray, List.set_cons_zero, List.set_cons_succ]
  refine wpAnyH_take (i := 12) (oi := ⟨some 55, _, _, _, _, _⟩) (v := ?_) rfl (by kernel_rfl) (by kernel_rfl) (by kernel_rfl) (fun _ _ _ h => h) (Or.inl ⟨by rfl, ?_⟩) HS0.out ?_
  rotate_left
  · (intro W hSW; clear hSW; go_simp)
    first | done | (with_reducible rfl)
  try simp only [Act.put, List.setIfInBounds_toArray, List.set_cons_zero, List.set_cons_succ]
  refine wpAnyH_take (i := 13) (oi := ⟨some 56, _, _, _, _, _⟩) (v := ?_) rfl (by kernel_rfl) (by kernel_rfl) (by kernel_rfl) (fun _ _ _ h => h) (Or.inl ⟨by rfl, ?_⟩) HS0.out ?_
  rotate_left
  · (intro W hSW; clear hSW; go_simp)
    first | done | (with_reducible rfl)
  try simp only [Act.put, List.setIfInBounds_toArray, List.set_cons_zero, List.set_cons_succ]
  refine wpAnyH_take (i := 14) (oi := ⟨some 57, _, _, _, _, _⟩) (v := .int .i64 sl.e) rfl (by kernel_rfl) (by kernel_rfl) (by kernel_rfl) (fun _ _ _ h => h) (Or.inl ⟨by rfl, ?_⟩) HS0.out ?_
  · (intro W hSW; have hc := hSW.2 9 _ rfl; clear hSW; go_simp)
  try simp only [Act.put, List.setIfInBounds_toArray, List.set_cons_zero, List.set_cons_succ]
  refine wpAnyH_take (i := 15) (oi := ⟨some 58, _, _, _, _, _⟩) (v := .int .i64 (sl.c - sl.e)) rfl (by kernel_rfl) (by kernel_rfl) (by kernel_rfl) (fun _ _ _ h => h) (Or.inl ⟨by rfl, ?_⟩) HS0.out ?_
  · (intro W hSW; clear hSW; go_simp)
    rw [HB.out]
  try simp only [Act.put, List.setIfInBounds_toArray, List.set_cons_zero, List.set_cons_succ]
  refine wpAnyH_take (i := 16) (oi := ⟨some 59, _, _, _, _, _⟩) (v := ?_) rfl (by kernel_rfl) (by kernel_rfl) (by kernel_rfl) (fun _ _ _ h => h) (Or.inl ⟨by rfl, ?_⟩) HS0.out ?_
  rotate_left
  · (intro W hSW; clear hSW; go_simp)
    first | done | (with_reducible rfl)
  try simp only [Act.put, List.setIfInBounds_toArray, List.set_cons_zero, List.set_cons_succ]
  refine wpAnyH_take (i := 17) (oi := ⟨some 60, _, _, _, _, _⟩) (v := .int .i64 V.th) rfl (by kernel_rfl) (by kernel_rfl) (by kernel_rfl) (fun _ _ _ h => h) (Or.inl ⟨by rfl, ?_⟩) HS0.out ?_
  · (intro W hSW; have hc := hSW.1.cell 4; clear hSW; go_simp)
    rfl
  try simp only [Act.put, List.setIfInBounds_toArray, List.set_cons_zero, List.set_cons_succ]
  refine wpAnyH_take (i := 18) (oi := ⟨some 61, _, _, _, _, _⟩) (v := .bool (decide (V.th ≤ sl.c - sl.e))) rfl (by kernel_rfl) (by kernel_rfl) (by kernel_rfl) (fun _ _ _ h => h) (Or.inl ⟨by rfl, ?_⟩) HS0.out ?_
  · (intro W hSW; clear hSW; go_simp)
  try simp only [Act.put, List.setIfInBounds_toArray, List.set_cons_zero, List.set_cons_succ]
  refine wpAnyH_ready (rs := [19]) (by kernel_rfl) (by simp) ?_
  refine AllReadyH.cons (o := ⟨none, _, _, _, _, _⟩) rfl (fun K hK => ?_) AllReadyH.nil
  refine step_lay (by rfl) 40 6 size40 (.tmp 8) (.tmp 43) (by rfl) (w.heap.size + 2) (dw (some ⟨b3, 0, none⟩) m3 c3 (V.cnt p y)) (by rfl) (by rfl) 40 (dw none 0 0 wn0) D4.out.res rfl rfl (dw_one _ _ _ _) ?_
  intro x5 K5 F5
  have HS1 : Hid (Blk x5 w.heap.size 40 (dw (some ⟨b3, 0, none⟩) m3 c3 (V.cnt p y)) ∧ x5.rangeAt b3 (j3 * 10) sl.cs) := ⟨D4.out.one.far F5.out (fun e => by have h1 : w.heap.size = w.heap.size + 2 := e; omega), fun j v hv => (World.cell?_of_block (F5.out.block _ (World.block_lt_of_cell? _ _ (R4.out j v hv)) (fun e => hb5 e))).trans (R4.out j v hv)⟩
  refine hK.out _ _ ?_ (fun _ => ?_)
  · exact HS1.out
  clear hK K
  try simp only [Act.put]
  refine wpAnyH_take (i := 20) (oi := ⟨some 9, _, _, _, _, _⟩) (v := ?_) rfl (by kernel_rfl) (by kernel_rfl) (by kernel_rfl) (fun _ _ _ h => h) (Or.inl ⟨by rfl, ?_⟩) HS1.out ?_
  rotate_left
  · (intro W hSW; clear hSW; go_simp)
    first | done | (with_reducible rfl)
  try simp only [Act.put, List.setIfInBounds_toArray, List.set_cons_zero, List.set_cons_succ]
  refine wpAnyH_done (by kernel_rfl) ?_ _
  have L5 := L4.out.far_ (S := only (w.heap.size + 2)) F5.out (fun b e k => by cases e; exact hb5 k)
  have hv := load_dw K5.out rfl
  have HBE := below_only D4.out.be F5.out (by omega) D4.out.be.size
  go_wp2_with fail
  refine bodyPost_ret (v := .tuple #[docw (some ⟨b3, 0, none⟩) m3 c3 (V.cnt p y), .bool (decide (V.th ≤ sl.c - sl.e))]) (by simp [results, Try.results14, asAddr, hv]) rfl ?_
  refine ⟨some ⟨b3, 0, none⟩, c3, by rw [HCL.out, HM3.out, HSP.out], by rw [HCL.out]; exact L5, ⟨b3, rfl, by omega⟩, HBE⟩
set_option maxHeartbeats 2000000 in
theorem dwadd_early (A : Option Addr) (c : Nat) (V : Wn) (p : Pre) (x y : Int) (w : World) (h : LAt A V.L w) (ho : Oks V.L) (hp : p.Ok) (hl : V.L.length ≤ V.M) (h1 : 1 ≤ V.M) (h64 : V.M ≤ 64) (_hns : 1 ≤ V.ns) (hc : x ≤ 4611686018427387903) (hx : x ≤ 0) :
    Calls Try.prog 14 #[docw A V.L.length c V, .int .i64 x, .agg p.cs.toArray, .int .i64 y] w (DWOut (V.cnt p y) (V.hvy p y) w) := by
  have hcd : decide (4611686018427387903 < x) = false := by simp; omega
  have D0 := Lib.hid (DWin.new w A V.L.length c V p)
  have H := Lib.hid (fun W (hW : Below w.heap.size w W) => h.below hW)
  have HO := Lib.hid ho
  have HP := Lib.hid hp
  have HL := Lib.hid (And.intro hl (And.intro h1 h64))
  have hxd : decide (0 < x) = false := by simp; omega
  clear h ho hp hl h1 h64
  go_enter Try.func14, Try.ntmps14
  go_upto_region 1 with fail
  generalize (((w.alloc (.cells (dw A V.L.length c V).toArray 40)).alloc (.cells p.cs.toArray 31)).alloc (.cells #[.slice none 0 0, .int .i64 0, .int .i64 0, .int .i64 0, .int .i64 0, .int .i64 0] 40)) = x1 at *
  obtain ⟨n, hn⟩ : ∃ n, V.L.length = n := ⟨_, rfl⟩
  rw [hn] at D0
  have HN := Lib.hid hn
  rw [hn]
  clear hn
  go_upto_region 3 with fail
  have D1 := D0
  clear D0
  refine wp_region_held_drew (S := fun W => Blk W w.heap.size 40 (dw A n c V)) (by kernel_rfl) ?_ (fun _ => ?_)
  · exact D1.out.one.drew
  have HS0 : Hid (Blk x1.drew w.heap.size 40 (dw A n c V)) := D1.out.one.drew
  refine wpAnyH_take (i := 0) (oi := ⟨some 13, _, _, _, _, _⟩) (v := ?_) rfl (by kernel_rfl) (by kernel_rfl) (by kernel_rfl) (fun _ _ _ h => h) (Or.inl ⟨by rfl, ?_⟩) HS0.out ?_
  rotate_left
  · (intro W hSW; clear hSW; go_simp)
    first | done | (with_reducible rfl)
  try simp only [Act.put, List.setIfInBounds_toArray, List.set_cons_zero, List.set_cons_succ]
  refine wpAnyH_take (i := 1) (oi := ⟨some 14, _, _, _, _, _⟩) (v := .bool false) rfl (by kernel_rfl) (by kernel_rfl) (by kernel_rfl) (fun _ _ _ h => h) (Or.inl ⟨by rfl, ?_⟩) HS0.out ?_
  · (intro W hSW; clear hSW; go_simp)
  try simp only [Act.put, List.setIfInBounds_toArray, List.set_cons_zero, List.set_cons_succ]
  refine wpAnyH_take (i := 2) (oi := ⟨some 15, _, _, _, _, _⟩) (v := ?_) rfl (by kernel_rfl) (by kernel_rfl) (by kernel_rfl) (fun _ _ _ h => h) (Or.inl ⟨by rfl, ?_⟩) HS0.out ?_
  rotate_left
  · (intro W hSW; clear hSW; go_simp)
    first | done | (with_reducible rfl)
  try simp only [Act.put, List.setIfInBounds_toArray, List.set_cons_zero, List.set_cons_succ]
  refine wpAnyH_take (i := 3) (oi := ⟨some 16, _, _, _, _, _⟩) (v := undef) rfl (by kernel_rfl) (by kernel_rfl) (by kernel_rfl) (fun _ _ _ h => h) (Or.inr ⟨by rfl, rfl⟩) HS0.out ?_
  try simp only [Act.put, List.setIfInBounds_toArray, List.set_cons_zero, List.set_cons_succ]
  refine wpAnyH_take (i := 4) (oi := ⟨some 17, _, _, _, _, _⟩) (v := undef) rfl (by kernel_rfl) (by kernel_rfl) (by kernel_rfl) (fun _ _ _ h => h) (Or.inr ⟨by rfl, rfl⟩) HS0.out ?_
  try simp only [Act.put, List.setIfInBounds_toArray, List.set_cons_zero, List.set_cons_succ]
  refine wpAnyH_take (i := 5) (oi := ⟨some 18, _, _, _, _, _⟩) (v := undef) rfl (by kernel_rfl) (by kernel_rfl) (by kernel_rfl) (fun _ _ _ h => h) (Or.inr ⟨by rfl, rfl⟩) HS0.out ?_
  try simp only [Act.put, List.setIfInBounds_toArray, List.set_cons_zero, List.set_cons_succ]
  refine wpAnyH_take (i := 6) (oi := ⟨some 19, _, _, _, _, _⟩) (v := undef) rfl (by kernel_rfl) (by kernel_rfl) (by kernel_rfl) (fun _ _ _ h => h) (Or.inr ⟨by rfl, rfl⟩) HS0.out ?_
  try simp only [Act.put, List.setIfInBounds_toArray, List.set_cons_zero, List.set_cons_succ]
  refine wpAnyH_take (i := 7) (oi := ⟨some 20, _, _, _, _, _⟩) (v := undef) rfl (by kernel_rfl) (by kernel_rfl) (by kernel_rfl) (fun _ _ _ h => h) (Or.inr ⟨by rfl, rfl⟩) HS0.out ?_
  try simp only [Act.put, List.setIfInBounds_toArray, List.set_cons_zero, List.set_cons_succ]
  refine wpAnyH_take (i := 8) (oi := ⟨some 21, _, _, _, _, _⟩) (v := undef) rfl (by kernel_rfl) (by kernel_rfl) (by kernel_rfl) (fun _ _ _ h => h) (Or.inr ⟨by rfl, rfl⟩) HS0.out ?_
  try simp only [Act.put, List.setIfInBounds_toArray, List.set_cons_zero, List.set_cons_succ]
  refine wpAnyH_take (i := 9) (oi := ⟨some 22, _, _, _, _, _⟩) (v := undef) rfl (by kernel_rfl) (by kernel_rfl) (by kernel_rfl) (fun _ _ _ h => h) (Or.inr ⟨by rfl, rfl⟩) HS0.out ?_
  try simp only [Act.put, List.setIfInBounds_toArray, List.set_cons_zero, List.set_cons_succ]
  refine wpAnyH_take (i := 10) (oi := ⟨some 23, _, _, _, _, _⟩) (v := .bool false) rfl (by kernel_rfl) (by kernel_rfl) (by kernel_rfl) (fun _ _ _ h => h) (Or.inl ⟨by rfl, ?_⟩) HS0.out ?_
  · (intro W hSW; clear hSW; go_simp)
  try simp only [Act.put, List.setIfInBounds_toArray, List.set_cons_zero, List.set_cons_succ]
  refine wpAnyH_done (by kernel_rfl) ?_ _
  have D1 : Hid (DWin w A n c V p x1.drew) := D1.out.drew
  clear HS0
  generalize x1.drew = x2 at *
  have HA := Lib.hid (dadd_ A c V.M V.T V.L p y x2 (H.out _ D1.out.be) HO.out HP.out HL.out.1 HL.out.2.1 HL.out.2.2)
  rw [HN.out] at HA
  have HOU := HO
  have HM1 := Lib.hid HL.out.2.1
  have D2 := D1
  clear D1
  go_upto_region 6 with fail
  have hlt2 := D2.out.lt
  have HSL := Lib.hid (slo_bd (HOU.out.stp_ (M := V.M) (n := y) HP.out) (pos V.M V.L p))
  have HJ := Lib.hid (stp_pos (p := p) (L := V.L) (n := y) HM1.out)
  have HSP : Hid (V.hvy p y = decide (V.th ≤ (at_ (stp V.M V.L p y) (pos V.M V.L p)).c - (at_ (stp V.M V.L p y) (pos V.M V.L p)).e)) := rfl
  have HCL : Hid ((V.cnt p y).L = stp V.M V.L p y) := rfl
  have HDP := Lib.hid (fun (A' : Option Addr) (n' c' : Nat) W (hW : DWin w A n c V p W) => (hW.put A' n' c' (addK V.T y) (stp V.M V.L p y)).drew)
  change Hid (∀ (A' : Option Addr) (n' c' : Nat) W, DWin w A n c V p W → DWin w A' n' c' (V.cnt p y) p (W.setCells w.heap.size 0 (dcs A' n' c' V.M (addK V.T y))).drew) at HDP
  obtain ⟨L3, hL3⟩ : ∃ L3, stp V.M V.L p y = L3 := ⟨_, rfl⟩
  obtain ⟨j3, hj3⟩ : ∃ j3, pos V.M V.L p = j3 := ⟨_, rfl⟩
  rw [hL3, hj3] at HSL HJ HSP HA
  rw [hL3] at HCL
  obtain ⟨m3, hm3⟩ : ∃ m3, L3.length = m3 := ⟨_, rfl⟩
  have HM3 := Lib.hid hm3
  obtain ⟨sl, hsl⟩ : ∃ sl, at_ L3 j3 = sl := ⟨_, rfl⟩
  rw [hsl] at HSL HSP
  have hj := HJ.out
  rw [hm3] at hj
  have HSA := Lib.hid (at_some HJ.out)
  rw [hsl] at HSA
  have HB : Hid (IntKind.i64.wrap (sl.c - sl.e) = sl.c - sl.e) := by
    have := HSL.out
    show _ = _
    rw [IntKind.wrap_i64] <;> omega
  clear hL3 hj3 hm3 hsl HSL HJ
  go_upto_region 8 with (first | (refine wpList_load_mid rfl 38 (.tmp 35) rfl w.heap.size 0 rfl (dcs A n c V.M V.T) _ (dw_sk D2.out.one) Try.underlying38 rfl size39 ?_) | (refine wpList_pre (by rfl) (.tmp 6) rfl _ _ rfl p (whole_at D2.out.pre) ?_) | (go_at_call 22; (with_reducible refine HA.out.mono ?_); rintro e x3 ⟨A3, c3, rfl, hl, ⟨b3, rfl, hb3⟩, hb⟩; rw [HM3.out]; have L3' := Lib.hid hl; have D3 := Lib.hid (D2.out.below hb); clear hl hb) | (refine wpList_store_mid rfl 38 (.tmp 42) (.tmp 40) rfl w.heap.size 0 (dcs (some ⟨b3, 0, none⟩) m3 c3 V.M (addK V.T y)).toArray rfl rfl (dw_there D3.out.one) size39 (dcs_one _ _ _ _ _) ?_))
  have D4 := Lib.hid (HDP.out (some ⟨b3, 0, none⟩) m3 c3 _ D3.out)
  have hfs := far_setCells (S := only w.heap.size) (g := w.heap.size) (dcs (some ⟨b3, 0, none⟩) m3 c3 V.M (addK V.T y)) 0 x3 x3 (Far.refl _ _) (fun _ => rfl)
  have hb4 : b3 ≠ w.heap.size := by omega
  have hb5 : b3 ≠ w.heap.size + 2 := by omega
  have L4 : Hid (LAt (some ⟨b3, 0, none⟩) L3 (x3.setCells w.heap.size 0 (dcs (some ⟨b3, 0, none⟩) m3 c3 V.M (addK V.T y))).drew) := L3'.out.far_ (S := only w.heap.size) hfs.drew (fun b e k => by cases e; exact hb4 k)
  clear D2 D3 L3' hfs HDP HA hb4
  generalize (x3.setCells w.heap.size 0 (dcs (some ⟨b3, 0, none⟩) m3 c3 V.M (addK V.T y))) = x4 at *
  have R4 : Hid (x4.drew.rangeAt b3 (j3 * 10) sl.cs) := by
    obtain ⟨q, e, hr⟩ := L4.out j3 sl HSA.out
    cases e
    exact hr
  refine wp_region_held_drew (S := fun W => Blk W w.heap.size 40 (dw (some ⟨b3, 0, none⟩) m3 c3 (V.cnt p y)) ∧ W.rangeAt b3 (j3 * 10) sl.cs) (by kernel_rfl) ?_ (fun _ => ?_)
  · exact ⟨D4.out.one, R4.out⟩
  have HS0 : Hid (Blk x4.drew w.heap.size 40 (dw (some ⟨b3, 0, none⟩) m3 c3 (V.cnt p y)) ∧ x4.drew.rangeAt b3 (j3 * 10) sl.cs) := ⟨D4.out.one, R4.out⟩
  refine wpAnyH_take (i := 0) (oi := ⟨some 43, _, _, _, _, _⟩) (v := .agg (dw (some ⟨b3, 0, none⟩) m3 c3 (V.cnt p y)).toArray) rfl (by kernel_rfl) (by kernel_rfl) (by kernel_rfl) (fun _ _ _ h => h) (yieldsIf_load_mid (by rfl) 40 (.tmp 4) rfl w.heap.size 0 rfl _ _ (fun _ h => whole_at h.1) Try.underlying40 rfl size40) HS0.out ?_
  try simp only [Act.put, List.setIfInBounds_toArray, List.set_cons_zero, List.set_cons_succ]
  refine wpAnyH_take (i := 1) (oi := ⟨some 44, _, _, _, _, _⟩) (v := ?_) rfl (by kernel_rfl) (by kernel_rfl) (by kernel_rfl) (fun _ _ _ h => h) (Or.inl ⟨by rfl, ?_⟩) HS0.out ?_
  rotate_left
  · (intro W hSW; clear hSW; go_simp)
    first | done | (with_reducible rfl)
  try simp only [Act.put, List.setIfInBounds_toArray, List.set_cons_zero, List.set_cons_succ]
  refine wpAnyH_take (i := 2) (oi := ⟨some 45, _, _, _, _, _⟩) (v := ?_) rfl (by kernel_rfl) (by kernel_rfl) (by kernel_rfl) (fun _ _ _ h => h) (Or.inl ⟨by rfl, ?_⟩) HS0.out ?_
  rotate_left
  · (intro W hSW; clear hSW; go_simp)
    first | done | (with_reducible rfl)
  try simp only [Act.put, List.setIfInBounds_toArray, List.set_cons_zero, List.set_cons_succ]
  refine wpAnyH_take (i := 3) (oi := ⟨some 46, _, _, _, _, _⟩) (v := .slice (some ⟨b3, 0, none⟩) m3 c3) rfl (by kernel_rfl) (by kernel_rfl) (by kernel_rfl) (fun _ _ _ h => h) (Or.inl ⟨by rfl, ?_⟩) HS0.out ?_
  · (intro W hSW; have hc := hSW.1.cell 0; clear hSW; go_simp)
  try simp only [Act.put, List.setIfInBounds_toArray, List.set_cons_zero, List.set_cons_succ]
  refine wpAnyH_take (i := 4) (oi := ⟨some 47, _, _, _, _, _⟩) (v := ?_) rfl (by kernel_rfl) (by kernel_rfl) (by kernel_rfl) (fun _ _ _ h => h) (Or.inl ⟨by rfl, ?_⟩) HS0.out ?_
  rotate_left
  · (intro W hSW; clear hSW; go_simp)
    first | done | (with_reducible rfl)
  try simp only [Act.put, List.setIfInBounds_toArray, List.set_cons_zero, List.set_cons_succ]
  refine wpAnyH_take (i := 5) (oi := ⟨some 48, _, _, _, _, _⟩) (v := ?_) rfl (by kernel_rfl) (by kernel_rfl) (by kernel_rfl) (fun _ _ _ h => h) (Or.inl ⟨by rfl, ?_⟩) HS0.out ?_
  rotate_left
  · (intro W hSW; clear hSW; go_simp)
    first | done | (with_reducible rfl)
  try simp only [Act.put, List.setIfInBounds_toArray, List.set_cons_zero, List.set_cons_succ]
  refine wpAnyH_take (i := 6) (oi := ⟨some 49, _, _, _, _, _⟩) (v := ?_) rfl (by kernel_rfl) (by kernel_rfl) (by kernel_rfl) (fun _ _ _ h => h) (Or.inl ⟨by rfl, ?_⟩) HS0.out ?_
  rotate_left
  · (intro W hSW; clear hSW; go_simp)
    first | done | (with_reducible rfl)
  try simp only [Act.put, List.setIfInBounds_toArray, List.set_cons_zero, List.set_cons_succ]
  refine wpAnyH_take (i := 7) (oi := ⟨some 50, _, _, _, _, _⟩) (v := .int .i64 sl.c) rfl (by kernel_rfl) (by kernel_rfl) (by kernel_rfl) (fun _ _ _ h => h) (Or.inl ⟨by rfl, ?_⟩) HS0.out ?_
  · (intro W hSW; have hc := hSW.2 8 _ rfl; clear hSW; go_simp)
  try simp only [Act.put, List.setIfInBounds_toArray, List.set_cons_zero, List.set_cons_succ]
  refine wpAnyH_take (i := 8) (oi := ⟨some 51, _, _, _, _, _⟩) (v := ?_) rfl (by kernel_rfl) (by kernel_rfl) (by kernel_rfl) (fun _ _ _ h => h) (Or.inl ⟨by rfl, ?_⟩) HS0.out ?_
  rotate_left
  · (intro W hSW; clear hSW; go_simp)
    first | done | (with_reducible rfl)
  try simp only [Act.put, List.setIfInBounds_toArray, List.set_cons_zero, List.set_cons_succ]
  refine wpAnyH_take (i := 9) (oi := ⟨some 52, _, _, _, _, _⟩) (v := ?_) rfl (by kernel_rfl) (by kernel_rfl) (by kernel_rfl) (fun _ _ _ h => h) (Or.inl ⟨by rfl, ?_⟩) HS0.out ?_
  rotate_left
  · (intro W hSW; clear hSW; go_simp)
    first | done | (with_reducible rfl)
  try simp only [Act.put, List.setIfInBounds_toArray, List.set_cons_zero, List.set_cons_succ]
  refine wpAnyH_take (i := 10) (oi := ⟨some 53, _, _, _, _, _⟩) (v := .slice (some ⟨b3, 0, none⟩) m3 c3) rfl (by kernel_rfl) (by kernel_rfl) (by kernel_rfl) (fun _ _ _ h => h) (Or.inl ⟨by rfl, ?_⟩) HS0.out ?_
  · (intro W hSW; have hc := hSW.1.cell 0; clear hSW; go_simp)
  try simp only [Act.put, List.setIfInBounds_toArray, List.set_cons_zero, List.set_cons_succ]
  refine wpAnyH_take (i := 11) (oi := ⟨some 54, _, _, _, _, _⟩) (v := ?_) rfl (by kernel_rfl) (by kernel_rfl) (by kernel_rfl) (fun _ _ _ h => h) (Or.inl ⟨by rfl, ?_⟩) HS0.out ?_
  rotate_left
  · (intro W hSW; clear hSW; go_simp)
    first | done | (with_reducible rfl)
  try simp only [Act.put, List.setIfInBounds_toArray, List.set_cons_zero, List.set_cons_succ]
  refine wpAnyH_take (i := 12) (oi := ⟨some 55, _, _, _, _, _⟩) (v := ?_) rfl (by kernel_rfl) (by kernel_rfl) (by kernel_rfl) (fun _ _ _ h => h) (Or.inl ⟨by rfl, ?_⟩) HS0.out ?_
  rotate_left
  · (intro W hSW; clear hSW; go_simp)
    first | done | (with_reducible rfl)
  try simp only [Act.put, List.setIfInBounds_toArray, List.set_cons_zero, List.set_cons_succ]
  refine wpAnyH_take (i := 13) (oi := ⟨some 56, _, _, _, _, _⟩) (v := ?_) rfl (by kernel_rfl) (by kernel_rfl) (by kernel_rfl) (fun _ _ _ h => h) (Or.inl ⟨by rfl, ?_⟩) HS0.out ?_
  rotate_left
  · (intro W hSW; clear hSW; go_simp)
    first | done | (with_reducible rfl)
  try simp only [Act.put, List.setIfInBounds_toArray, List.set_cons_zero, List.set_cons_succ]
  refine wpAnyH_take (i := 14) (oi := ⟨some 57, _, _, _, _, _⟩) (v := .int .i64 sl.e) rfl (by kernel_rfl) (by kernel_rfl) (by kernel_rfl) (fun _ _ _ h => h) (Or.inl ⟨by rfl, ?_⟩) HS0.out ?_
  · (intro W hSW; have hc := hSW.2 9 _ rfl; clear hSW; go_simp)
  try simp only [Act.put, List.setIfInBounds_toArray, List.set_cons_zero, List.set_cons_succ]
  refine wpAnyH_take (i := 15) (oi := ⟨some 58, _, _, _, _, _⟩) (v := .int .i64 (sl.c - sl.e)) rfl (by kernel_rfl) (by kernel_rfl) (by kernel_rfl) (fun _ _ _ h => h) (Or.inl ⟨by rfl, ?_⟩) HS0.out ?_
  · (intro W hSW; clear hSW; go_simp)
    rw [HB.out]
  try simp only [Act.put, List.setIfInBounds_toArray, List.set_cons_zero, List.set_cons_succ]
  refine wpAnyH_take (i := 16) (oi := ⟨some 59, _, _, _, _, _⟩) (v := ?_) rfl (by kernel_rfl) (by kernel_rfl) (by kernel_rfl) (fun _ _ _ h => h) (Or.inl ⟨by rfl, ?_⟩) HS0.out ?_
  rotate_left
  · (intro W hSW; clear hSW; go_simp)
    first | done | (with_reducible rfl)
  try simp only [Act.put, List.setIfInBounds_toArray, List.set_cons_zero, List.set_cons_succ]
  refine wpAnyH_take (i := 17) (oi := ⟨some 60, _, _, _, _, _⟩) (v := .int .i64 V.th) rfl (by kernel_rfl) (by kernel_rfl) (by kernel_rfl) (fun _ _ _ h => h) (Or.inl ⟨by rfl, ?_⟩) HS0.out ?_
  · (intro W hSW; have hc := hSW.1.cell 4; clear hSW; go_simp)
    rfl
  try simp only [Act.put, List.setIfInBounds_toArray, List.set_cons_zero, List.set_cons_succ]
  refine wpAnyH_take (i := 18) (oi := ⟨some 61, _, _, _, _, _⟩) (v := .bool (decide (V.th ≤ sl.c - sl.e))) rfl (by kernel_rfl) (by kernel_rfl) (by kernel_rfl) (fun _ _ _ h => h) (Or.inl ⟨by rfl, ?_⟩) HS0.out ?_
  · (intro W hSW; clear hSW; go_simp)
  try simp only [Act.put, List.setIfInBounds_toArray, List.set_cons_zero, List.set_cons_succ]
  refine wpAnyH_ready (rs := [19]) (by kernel_rfl) (by simp) ?_
  refine AllReadyH.cons (o := ⟨none, _, _, _, _, _⟩) rfl (fun K hK => ?_) AllReadyH.nil
  refine step_lay (by rfl) 40 6 size40 (.tmp 8) (.tmp 43) (by rfl) (w.heap.size + 2) (dw (some ⟨b3, 0, none⟩) m3 c3 (V.cnt p y)) (by rfl) (by rfl) 40 (dw none 0 0 wn0) D4.out.res rfl rfl (dw_one _ _ _ _) ?_
  intro x5 K5 F5
  have HS1 : Hid (Blk x5 w.heap.size 40 (dw (some ⟨b3, 0, none⟩) m3 c3 (V.cnt p y)) ∧ x5.rangeAt b3 (j3 * 10) sl.cs) := ⟨D4.out.one.far F5.out (fun e => by have h1 : w.heap.size = w.heap.size + 2 := e; omega), fun j v hv => (World.cell?_of_block (F5.out.block _ (World.block_lt_of_cell? _ _ (R4.out j v hv)) (fun e => hb5 e))).trans (R4.out j v hv)⟩
  refine hK.out _ _ ?_ (fun _ => ?_)
  · exact HS1.out
  clear hK K
  try simp only [Act.put]
  refine wpAnyH_take (i := 20) (oi := ⟨some 9, _, _, _, _, _⟩) (v := ?_) rfl (by kernel_rfl) (by kernel_rfl) (by kernel_rfl) (fun _ _ _ h => h) (Or.inl ⟨by rfl, ?_⟩) HS1.out ?_
  rotate_left
  · (intro W hSW; clear hSW; go_simp)
    first | done | (with_reducible rfl)
  try simp only [Act.put, List.setIfInBounds_toArray, List.set_cons_zero, List.set_cons_succ]
  refine wpAnyH_done (by kernel_rfl) ?_ _
  have L5 := L4.out.far_ (S := only (w.heap.size + 2)) F5.out (fun b e k => by cases e; exact hb5 k)
  have hv := load_dw K5.out rfl
  have HBE := below_only D4.out.be F5.out (by omega) D4.out.be.size
  go_wp2_with fail
  refine bodyPost_ret (v := .tuple #[docw (some ⟨b3, 0, none⟩) m3 c3 (V.cnt p y), .bool (decide (V.th ≤ sl.c - sl.e))]) (by simp [results, Try.results14, asAddr, hv]) rfl ?_
  refine ⟨some ⟨b3, 0, none⟩, c3, by rw [HCL.out, HM3.out, HSP.out], by rw [HCL.out]; exact L5, ⟨b3, rfl, by omega⟩, HBE⟩
set_option maxHeartbeats 2000000 in
theorem dwadd_cmoved (A : Option Addr) (c : Nat) (V : Wn) (p : Pre) (x y : Int) (w : World) (h : LAt A V.L w) (ho : Oks V.L) (hp : p.Ok) (hl : V.L.length ≤ V.M) (h1 : 1 ≤ V.M) (h64 : V.M ≤ 64) (hns : 1 ≤ V.ns) (hc : 4611686018427387903 < x) (hm : V.no < 4611686018427387903 / V.ns) :
    Calls Try.prog 14 #[docw A V.L.length c V, .int .i64 x, .agg p.cs.toArray, .int .i64 y] w (DWOut ((⟨V.ns, V.th, 4611686018427387903 / V.ns, 0, V.M, []⟩ : Wn).cnt p y) ((⟨V.ns, V.th, 4611686018427387903 / V.ns, 0, V.M, []⟩ : Wn).hvy p y) w) := by
  obtain ⟨U, hU⟩ : ∃ U : Wn, (⟨V.ns, V.th, 4611686018427387903 / V.ns, 0, V.M, []⟩ : Wn) = U := ⟨_, rfl⟩
  rw [hU]
  have hcd : decide (4611686018427387903 < x) = true := by simp; omega
  have D0 := Lib.hid (DWin.new w A V.L.length c V p)
  have H := Lib.hid (fun W (hW : Below w.heap.size w W) => h.below hW)
  have HO := Lib.hid ho
  have HP := Lib.hid hp
  have HL := Lib.hid (And.intro hl (And.intro h1 h64))
  have HZ : Hid (¬ V.ns = 0) := by show ¬ _; omega
  have hq : 0 ≤ 4611686018427387903 / V.ns ∧ 4611686018427387903 / V.ns ≤ 4611686018427387903 := ediv_bd (by omega) (by omega)
  have HW : Hid (IntKind.i64.wrap (Int.tdiv 4611686018427387903 V.ns) = 4611686018427387903 / V.ns) := by
    show _ = _
    rw [Int.tdiv_eq_ediv_of_nonneg (by omega), IntKind.wrap_i64] <;> omega
  have hmd : decide (V.no < 4611686018427387903 / V.ns) = true := by simp; omega
  clear h ho hp hl h1 h64
  go_enter Try.func14, Try.ntmps14
  go_upto_region 1 with fail
  generalize (((w.alloc (.cells (dw A V.L.length c V).toArray 40)).alloc (.cells p.cs.toArray 31)).alloc (.cells #[.slice none 0 0, .int .i64 0, .int .i64 0, .int .i64 0, .int .i64 0, .int .i64 0] 40)) = x1 at *
  obtain ⟨n, hn⟩ : ∃ n, V.L.length = n := ⟨_, rfl⟩
  rw [hn] at D0
  have HN := Lib.hid hn
  rw [hn]
  clear hn
  go_upto_region 3 with fail
  have D1 := D0
  clear D0
  refine wp_region_held_drew (S := fun W => Blk W w.heap.size 40 (dw A n c V)) (by kernel_rfl) ?_ (fun _ => ?_)
  · exact D1.out.one.drew
  have HS0 : Hid (Blk x1.drew w.heap.size 40 (dw A n c V)) := D1.out.one.drew
  refine wpAnyH_take (i := 0) (oi := ⟨some 13, _, _, _, _, _⟩) (v := ?_) rfl (by kernel_rfl) (by kernel_rfl) (by kernel_rfl) (fun _ _ _ h => h) (Or.inl ⟨by rfl, ?_⟩) HS0.out ?_
  rotate_left
  · (intro W hSW; clear hSW; go_simp)
    first | done | (with_reducible rfl)
  try simp only [Act.put, List.setIfInBounds_toArray, List.set_cons_zero, List.set_cons_succ]
  refine wpAnyH_take (i := 1) (oi := ⟨some 14, _, _, _, _, _⟩) (v := .bool true) rfl (by kernel_rfl) (by kernel_rfl) (by kernel_rfl) (fun _ _ _ h => h) (Or.inl ⟨by rfl, ?_⟩) HS0.out ?_
  · (intro W hSW; clear hSW; go_simp)
  try simp only [Act.put, List.setIfInBounds_toArray, List.set_cons_zero, List.set_cons_succ]
  refine wpAnyH_take (i := 2) (oi := ⟨some 15, _, _, _, _, _⟩) (v := ?_) rfl (by kernel_rfl) (by kernel_rfl) (by kernel_rfl) (fun _ _ _ h => h) (Or.inl ⟨by rfl, ?_⟩) HS0.out ?_
  rotate_left
  · (intro W hSW; clear hSW; go_simp)
    first | done | (with_reducible rfl)
  try simp only [Act.put, List.setIfInBounds_toArray, List.set_cons_zero, List.set_cons_succ]
  refine wpAnyH_take (i := 3) (oi := ⟨some 16, _, _, _, _, _⟩) (v := ?_) rfl (by kernel_rfl) (by kernel_rfl) (by kernel_rfl) (fun _ _ _ h => h) (Or.inl ⟨by rfl, ?_⟩) HS0.out ?_
  rotate_left
  · (intro W hSW; clear hSW; go_simp)
    first | done | (with_reducible rfl)
  try simp only [Act.put, List.setIfInBounds_toArray, List.set_cons_zero, List.set_cons_succ]
  refine wpAnyH_take (i := 4) (oi := ⟨some 17, _, _, _, _, _⟩) (v := ?_) rfl (by kernel_rfl) (by kernel_rfl) (by kernel_rfl) (fun _ _ _ h => h) (Or.inl ⟨by rfl, ?_⟩) HS0.out ?_
  rotate_left
  · (intro W hSW; clear hSW; go_simp)
    first | done | (with_reducible rfl)
  try simp only [Act.put, List.setIfInBounds_toArray, List.set_cons_zero, List.set_cons_succ]
  refine wpAnyH_take (i := 5) (oi := ⟨some 18, _, _, _, _, _⟩) (v := .int .i64 V.ns) rfl (by kernel_rfl) (by kernel_rfl) (by kernel_rfl) (fun _ _ _ h => h) (Or.inl ⟨by rfl, ?_⟩) HS0.out ?_
  · (intro W hSW; have hc := hSW.cell 3; clear hSW; go_simp)
  try simp only [Act.put, List.setIfInBounds_toArray, List.set_cons_zero, List.set_cons_succ]
  refine wpAnyH_take (i := 6) (oi := ⟨some 19, _, _, _, _, _⟩) (v := .int .i64 (4611686018427387903 / V.ns)) rfl (by kernel_rfl) (by kernel_rfl) (by kernel_rfl) (fun _ _ _ h => h) (Or.inl ⟨by rfl, ?_⟩) HS0.out ?_
  · (intro W hSW; clear hSW; go_simp)
    rw [if_neg HZ.out, HW.out]
  try simp only [Act.put, List.setIfInBounds_toArray, List.set_cons_zero, List.set_cons_succ]
  refine wpAnyH_take (i := 7) (oi := ⟨some 20, _, _, _, _, _⟩) (v := ?_) rfl (by kernel_rfl) (by kernel_rfl) (by kernel_rfl) (fun _ _ _ h => h) (Or.inl ⟨by rfl, ?_⟩) HS0.out ?_
  rotate_left
  · (intro W hSW; clear hSW; go_simp)
    first | done | (with_reducible rfl)
  try simp only [Act.put, List.setIfInBounds_toArray, List.set_cons_zero, List.set_cons_succ]
  refine wpAnyH_take (i := 8) (oi := ⟨some 21, _, _, _, _, _⟩) (v := .int .i64 V.no) rfl (by kernel_rfl) (by kernel_rfl) (by kernel_rfl) (fun _ _ _ h => h) (Or.inl ⟨by rfl, ?_⟩) HS0.out ?_
  · (intro W hSW; have hc := hSW.cell 5; clear hSW; go_simp)
  try simp only [Act.put, List.setIfInBounds_toArray, List.set_cons_zero, List.set_cons_succ]
  refine wpAnyH_take (i := 9) (oi := ⟨some 22, _, _, _, _, _⟩) (v := .bool true) rfl (by kernel_rfl) (by kernel_rfl) (by kernel_rfl) (fun _ _ _ h => h) (Or.inl ⟨by rfl, ?_⟩) HS0.out ?_
  · (intro W hSW; clear hSW; go_simp)
  try simp only [Act.put, List.setIfInBounds_toArray, List.set_cons_zero, List.set_cons_succ]
  refine wpAnyH_take (i := 10) (oi := ⟨some 23, _, _, _, _, _⟩) (v := .bool true) rfl (by kernel_rfl) (by kernel_rfl) (by kernel_rfl) (fun _ _ _ h => h) (Or.inl ⟨by rfl, ?_⟩) HS0.out ?_
  · (intro W hSW; clear hSW; go_simp)
  try simp only [Act.put, List.setIfInBounds_toArray, List.set_cons_zero, List.set_cons_succ]
  refine wpAnyH_done (by kernel_rfl) ?_ _
  have D1 : Hid (DWin w A n c V p x1.drew) := D1.out.drew
  clear HS0
  generalize x1.drew = x2 at *
  have a5 := D1.out.one.cell 5
  have f5 := D1.out.one.frozen 5
  have a3 := D1.out.one.cell 3
  have D2 := Lib.hid (D1.out.num (4611686018427387903 / V.ns))
  go_upto_region 5 with fail
  clear a5 f5 a3 D1
  generalize x2.setCell ⟨w.heap.size, 5, none⟩ (.int .i64 (4611686018427387903 / V.ns)) = x6 at *
  have a1 := D2.out.one.cell 1
  go_upto_region 6 with (first | (refine wpList_build rfl 38 [(1, .tmp 31)] rfl [(1, .int .i64 (V.M : Int))] rfl (dcs none 0 0 V.M 0) (run_bsk V.M _) ?_) | (refine wpList_store_mid rfl 38 (.tmp 33) (.tmp 32) rfl w.heap.size 0 (dcs none 0 0 V.M 0).toArray rfl rfl (dw_there D2.out.one) size39 (dcs_one _ _ _ _ _) ?_))
  have D3 : Hid (DWin w none 0 0 U p (x6.setCells w.heap.size 0 (dcs none 0 0 V.M 0))) := hU ▸ D2.out.put none 0 0 0 []
  clear a1 D2
  have D2 := D3
  clear D3
  generalize x6.setCells w.heap.size 0 (dcs none 0 0 V.M 0) = x2' at *
  have HA : Hid (Calls Try.prog 22 #[.agg (dcs none 0 0 U.M U.T).toArray, .agg p.cs.toArray, .int .i64 y] x2' (DocOut U.M (stp U.M U.L p y) (addK U.T y) (pos U.M U.L p) x2')) := by
    rw [← hU]
    exact dadd_ none 0 V.M 0 [] p y x2' (fun k s hk => by simp at hk) (fun _ h => absurd h (by simp)) HP.out (Nat.zero_le _) HL.out.2.1 HL.out.2.2
  have HOU : Hid (Oks U.L) := by rw [← hU]; exact fun _ h => absurd h (by simp)
  have HM1 : Hid (1 ≤ U.M) := by rw [← hU]; exact HL.out.2.1
  have hlt2 := D2.out.lt
  have HSL := Lib.hid (slo_bd (HOU.out.stp_ (M := U.M) (n := y) HP.out) (pos U.M U.L p))
  have HJ := Lib.hid (stp_pos (p := p) (L := U.L) (n := y) HM1.out)
  have HSP : Hid (U.hvy p y = decide (U.th ≤ (at_ (stp U.M U.L p y) (pos U.M U.L p)).c - (at_ (stp U.M U.L p y) (pos U.M U.L p)).e)) := rfl
  have HCL : Hid ((U.cnt p y).L = stp U.M U.L p y) := rfl
  have HDP := Lib.hid (fun (A' : Option Addr) (n' c' : Nat) W (hW : DWin w none 0 0 U p W) => (hW.put A' n' c' (addK U.T y) (stp U.M U.L p y)).drew)
  change Hid (∀ (A' : Option Addr) (n' c' : Nat) W, DWin w none 0 0 U p W → DWin w A' n' c' (U.cnt p y) p (W.setCells w.heap.size 0 (dcs A' n' c' U.M (addK U.T y))).drew) at HDP
  obtain ⟨L3, hL3⟩ : ∃ L3, stp U.M U.L p y = L3 := ⟨_, rfl⟩
  obtain ⟨j3, hj3⟩ : ∃ j3, pos U.M U.L p = j3 := ⟨_, rfl⟩
  rw [hL3, hj3] at HSL HJ HSP HA
  rw [hL3] at HCL
  obtain ⟨m3, hm3⟩ : ∃ m3, L3.length = m3 := ⟨_, rfl⟩
  have HM3 := Lib.hid hm3
  obtain ⟨sl, hsl⟩ : ∃ sl, at_ L3 j3 = sl := ⟨_, rfl⟩
  rw [hsl] at HSL HSP
  have hj := HJ.out
  rw [hm3] at hj
  have HSA := Lib.hid (at_some HJ.out)
  rw [hsl] at HSA
  have HB : Hid (IntKind.i64.wrap (sl.c - sl.e) = sl.c - sl.e) := by
    have := HSL.out
    show _ = _
    rw [IntKind.wrap_i64] <;> omega
  clear hL3 hj3 hm3 hsl HSL HJ
  go_upto_region 8 with (first | (refine wpList_load_mid rfl 38 (.tmp 35) rfl w.heap.size 0 rfl (dcs none 0 0 U.M U.T) _ (dw_sk D2.out.one) Try.underlying38 rfl size39 ?_) | (refine wpList_pre (by rfl) (.tmp 6) rfl _ _ rfl p (whole_at D2.out.pre) ?_) | (go_at_call 22; (with_reducible refine HA.out.mono ?_); rintro e x3 ⟨A3, c3, rfl, hl, ⟨b3, rfl, hb3⟩, hb⟩; rw [HM3.out]; have L3' := Lib.hid hl; have D3 := Lib.hid (D2.out.below hb); clear hl hb) | (refine wpList_store_mid rfl 38 (.tmp 42) (.tmp 40) rfl w.heap.size 0 (dcs (some ⟨b3, 0, none⟩) m3 c3 U.M (addK U.T y)).toArray rfl rfl (dw_there D3.out.one) size39 (dcs_one _ _ _ _ _) ?_))
  have D4 := Lib.hid (HDP.out (some ⟨b3, 0, none⟩) m3 c3 _ D3.out)
  have hfs := far_setCells (S := only w.heap.size) (g := w.heap.size) (dcs (some ⟨b3, 0, none⟩) m3 c3 U.M (addK U.T y)) 0 x3 x3 (Far.refl _ _) (fun _ => rfl)
  have hb4 : b3 ≠ w.heap.size := by omega
  have hb5 : b3 ≠ w.heap.size + 2 := by omega
  have L4 : Hid (LAt (some ⟨b3, 0, none⟩) L3 (x3.setCells w.heap.size 0 (dcs (some ⟨b3, 0, none⟩) m3 c3 U.M (addK U.T y))).drew) := L3'.out.far_ (S := only w.heap.size) hfs.drew (fun b e k => by cases e; exact hb4 k)
  clear D2 D3 L3' hfs HDP HA hb4
  generalize (x3.setCells w.heap.size 0 (dcs (some ⟨b3, 0, none⟩) m3 c3 U.M (addK U.T y))) = x4 at *
  have R4 : Hid (x4.drew.rangeAt b3 (j3 * 10) sl.cs) := by
    obtain ⟨q, e, hr⟩ := L4.out j3 sl HSA.out
    cases e
    exact hr
  refine wp_region_held_drew (S := fun W => Blk W w.heap.size 40 (dw (some ⟨b3, 0, none⟩) m3 c3 (U.cnt p y)) ∧ W.rangeAt b3 (j3 * 10) sl.cs) (by kernel_rfl) ?_ (fun _ => ?_)
  · exact ⟨D4.out.one, R4.out⟩
  have HS0 : Hid (Blk x4.drew w.heap.size 40 (dw (some ⟨b3, 0, none⟩) m3 c3 (U.cnt p y)) ∧ x4.drew.rangeAt b3 (j3 * 10) sl.cs) := ⟨D4.out.one, R4.out⟩
  refine wpAnyH_take (i := 0) (oi := ⟨some 43, _, _, _, _, _⟩) (v := .agg (dw (some ⟨b3, 0, none⟩) m3 c3 (U.cnt p y)).toArray) rfl (by kernel_rfl) (by kernel_rfl) (by kernel_rfl) (fun _ _ _ h => h) (yieldsIf_load_mid (by rfl) 40 (.tmp 4) rfl w.heap.size 0 rfl _ _ (fun _ h => whole_at h.1) Try.underlying40 rfl size40) HS0.out ?_
  try simp only [Act.put, List.setIfInBounds_toArray, List.set_cons_zero, List.set_cons_succ]
  refine wpAnyH_take (i := 1) (oi := ⟨some 44, _, _, _, _, _⟩) (v := ?_) rfl (by kernel_rfl) (by kernel_rfl) (by kernel_rfl) (fun _ _ _ h => h) (Or.inl ⟨by rfl, ?_⟩) HS0.out ?_
  rotate_left
  · (intro W hSW; clear hSW; go_simp)
    first | done | (with_reducible rfl)
  try simp only [Act.put, List.setIfInBounds_toArray, List.set_cons_zero, List.set_cons_succ]
  refine wpAnyH_take (i := 2) (oi := ⟨some 45, _, _, _, _, _⟩) (v := ?_) rfl (by kernel_rfl) (by kernel_rfl) (by kernel_rfl) (fun _ _ _ h => h) (Or.inl ⟨by rfl, ?_⟩) HS0.out ?_
  rotate_left
  · (intro W hSW; clear hSW; go_simp)
    first | done | (with_reducible rfl)
  try simp only [Act.put, List.setIfInBounds_toArray, List.set_cons_zero, List.set_cons_succ]
  refine wpAnyH_take (i := 3) (oi := ⟨some 46, _, _, _, _, _⟩) (v := .slice (some ⟨b3, 0, none⟩) m3 c3) rfl (by kernel_rfl) (by kernel_rfl) (by kernel_rfl) (fun _ _ _ h => h) (Or.inl ⟨by rfl, ?_⟩) HS0.out ?_
  · (intro W hSW; have hc := hSW.1.cell 0; clear hSW; go_simp)
  try simp only [Act.put, List.setIfInBounds_toArray, List.set_cons_zero, List.set_cons_succ]
  refine wpAnyH_take (i := 4) (oi := ⟨some 47, _, _, _, _, _⟩) (v := ?_) rfl (by kernel_rfl) (by kernel_rfl) (by kernel_rfl) (fun _ _ _ h => h) (Or.inl ⟨by rfl, ?_⟩) HS0.out ?_
  rotate_left
  · (intro W hSW; clear hSW; go_simp)
    first | done | (with_reducible rfl)
  try simp only [Act.put, List.setIfInBounds_toArray, List.set_cons_zero, List.set_cons_succ]
  refine wpAnyH_take (i := 5) (oi := ⟨some 48, _, _, _, _, _⟩) (v := ?_) rfl (by kernel_rfl) (by kernel_rfl) (by kernel_rfl) (fun _ _ _ h => h) (Or.inl ⟨by rfl, ?_⟩) HS0.out ?_
  rotate_left
  · (intro W hSW; clear hSW; go_simp)
    first | done | (with_reducible rfl)
  try simp only [Act.put, List.setIfInBounds_toArray, List.set_cons_zero, List.set_cons_succ]
  refine wpAnyH_take (i := 6) (oi := ⟨some 49, _, _, _, _, _⟩) (v := ?_) rfl (by kernel_rfl) (by kernel_rfl) (by kernel_rfl) (fun _ _ _ h => h) (Or.inl ⟨by rfl, ?_⟩) HS0.out ?_
  rotate_left
  · (intro W hSW; clear hSW; go_simp)
    first | done | (with_reducible rfl)
  try simp only [Act.put, List.setIfInBounds_toArray, List.set_cons_zero, List.set_cons_succ]
  refine wpAnyH_take (i := 7) (oi := ⟨some 50, _, _, _, _, _⟩) (v := .int .i64 sl.c) rfl (by kernel_rfl) (by kernel_rfl) (by kernel_rfl) (fun _ _ _ h => h) (Or.inl ⟨by rfl, ?_⟩) HS0.out ?_
  · (intro W hSW; have hc := hSW.2 8 _ rfl; clear hSW; go_simp)
  try simp only [Act.put, List.setIfInBounds_toArray, List.set_cons_zero, List.set_cons_succ]
  refine wpAnyH_take (i := 8) (oi := ⟨some 51, _, _, _, _, _⟩) (v := ?_) rfl (by kernel_rfl) (by kernel_rfl) (by kernel_rfl) (fun _ _ _ h => h) (Or.inl ⟨by rfl, ?_⟩) HS0.out ?_
  rotate_left
  · (intro W hSW; clear hSW; go_simp)
    first | done | (with_reducible rfl)
  try simp only [Act.put, List.setIfInBounds_toArray, List.set_cons_zero, List.set_cons_succ]
  refine wpAnyH_take (i := 9) (oi := ⟨some 52, _, _, _, _, _⟩) (v := ?_) rfl (by kernel_rfl) (by kernel_rfl) (by kernel_rfl) (fun _ _ _ h => h) (Or.inl ⟨by rfl, ?_⟩) HS0.out ?_
  rotate_left
  · (intro W hSW; clear hSW; go_simp)
    first | done | (with_reducible rfl)
  try simp only [Act.put, List.setIfInBounds_toArray, List.set_cons_zero, List.set_cons_succ]
  refine wpAnyH_take (i := 10) (oi := ⟨some 53, _, _, _, _, _⟩) (v := .slice (some ⟨b3, 0, none⟩) m3 c3) rfl (by kernel_rfl) (by kernel_rfl) (by kernel_rfl) (fun _ _ _ h => h) (Or.inl ⟨by rfl, ?_⟩) HS0.out ?_
  · (intro W hSW; have hc := hSW.1.cell 0; clear hSW; go_simp)
  try simp only [Act.put, List.setIfInBounds_toArray, List.set_cons_zero, List.set_cons_succ]
  refine wpAnyH_take (i := 11) (oi := ⟨some 54, _, _, _, _, _⟩) (v := ?_) rfl (by kernel_rfl) (by kernel_rfl) (by kernel_rfl) (fun _ _ _ h => h) (Or.inl ⟨by rfl, ?_⟩) HS0.out ?_
  rotate_left
  · (intro W hSW; clear hSW; go_simp)
    first | done | (with_reducible rfl)
  try simp only [Act.put, List.setIfInBounds_toArray, List.set_cons_zero, List.set_cons_succ]
  refine wpAnyH_take (i := 12) (oi := ⟨some 55, _, _, _, _, _⟩) (v := ?_) rfl (by kernel_rfl) (by kernel_rfl) (by kernel_rfl) (fun _ _ _ h => h) (Or.inl ⟨by rfl, ?_⟩) HS0.out ?_
  rotate_left
  · (intro W hSW; clear hSW; go_simp)
    first | done | (with_reducible rfl)
  try simp only [Act.put, List.setIfInBounds_toArray, List.set_cons_zero, List.set_cons_succ]
  refine wpAnyH_take (i := 13) (oi := ⟨some 56, _, _, _, _, _⟩) (v := ?_) rfl (by kernel_rfl) (by kernel_rfl) (by kernel_rfl) (fun _ _ _ h => h) (Or.inl ⟨by rfl, ?_⟩) HS0.out ?_
  rotate_left
  · (intro W hSW; clear hSW; go_simp)
    first | done | (with_reducible rfl)
  try simp only [Act.put, List.setIfInBounds_toArray, List.set_cons_zero, List.set_cons_succ]
  refine wpAnyH_take (i := 14) (oi := ⟨some 57, _, _, _, _, _⟩) (v := .int .i64 sl.e) rfl (by kernel_rfl) (by kernel_rfl) (by kernel_rfl) (fun _ _ _ h => h) (Or.inl ⟨by rfl, ?_⟩) HS0.out ?_
  · (intro W hSW; have hc := hSW.2 9 _ rfl; clear hSW; go_simp)
  try simp only [Act.put, List.setIfInBounds_toArray, List.set_cons_zero, List.set_cons_succ]
  refine wpAnyH_take (i := 15) (oi := ⟨some 58, _, _, _, _, _⟩) (v := .int .i64 (sl.c - sl.e)) rfl (by kernel_rfl) (by kernel_rfl) (by kernel_rfl) (fun _ _ _ h => h) (Or.inl ⟨by rfl, ?_⟩) HS0.out ?_
  · (intro W hSW; clear hSW; go_simp)
    rw [HB.out]
  try simp only [Act.put, List.setIfInBounds_toArray, List.set_cons_zero, List.set_cons_succ]
  refine wpAnyH_take (i := 16) (oi := ⟨some 59, _, _, _, _, _⟩) (v := ?_) rfl (by kernel_rfl) (by kernel_rfl) (by kernel_rfl) (fun _ _ _ h => h) (Or.inl ⟨by rfl, ?_⟩) HS0.out ?_
  rotate_left
  · (intro W hSW; clear hSW; go_simp)
    first | done | (with_reducible rfl)
  try simp only [Act.put, List.setIfInBounds_toArray, List.set_cons_zero, List.set_cons_succ]
  refine wpAnyH_take (i := 17) (oi := ⟨some 60, _, _, _, _, _⟩) (v := .int .i64 U.th) rfl (by kernel_rfl) (by kernel_rfl) (by kernel_rfl) (fun _ _ _ h => h) (Or.inl ⟨by rfl, ?_⟩) HS0.out ?_
  · (intro W hSW; have hc := hSW.1.cell 4; clear hSW; go_simp)
    rfl
  try simp only [Act.put, List.setIfInBounds_toArray, List.set_cons_zero, List.set_cons_succ]
  refine wpAnyH_take (i := 18) (oi := ⟨some 61, _, _, _, _, _⟩) (v := .bool (decide (U.th ≤ sl.c - sl.e))) rfl (by kernel_rfl) (by kernel_rfl) (by kernel_rfl) (fun _ _ _ h => h) (Or.inl ⟨by rfl, ?_⟩) HS0.out ?_
  · (intro W hSW; clear hSW; go_simp)
  try simp only [Act.put, List.setIfInBounds_toArray, List.set_cons_zero, List.set_cons_succ]
  refine wpAnyH_ready (rs := [19]) (by kernel_rfl) (by simp) ?_
  refine AllReadyH.cons (o := ⟨none, _, _, _, _, _⟩) rfl (fun K hK => ?_) AllReadyH.nil
  refine step_lay (by rfl) 40 6 size40 (.tmp 8) (.tmp 43) (by rfl) (w.heap.size + 2) (dw (some ⟨b3, 0, none⟩) m3 c3 (U.cnt p y)) (by rfl) (by rfl) 40 (dw none 0 0 wn0) D4.out.res rfl rfl (dw_one _ _ _ _) ?_
  intro x5 K5 F5
  have HS1 : Hid (Blk x5 w.heap.size 40 (dw (some ⟨b3, 0, none⟩) m3 c3 (U.cnt p y)) ∧ x5.rangeAt b3 (j3 * 10) sl.cs) := ⟨D4.out.one.far F5.out (fun e => by have h1 : w.heap.size = w.heap.size + 2 := e; omega), fun j v hv => (World.cell?_of_block (F5.out.block _ (World.block_lt_of_cell? _ _ (R4.out j v hv)) (fun e => hb5 e))).trans (R4.out j v hv)⟩
  refine hK.out _ _ ?_ (fun _ => ?_)
  · exact HS1.out
  clear hK K
  try simp only [Act.put]
  refine wpAnyH_take (i := 20) (oi := ⟨some 9, _, _, _, _, _⟩) (v := ?_) rfl (by kernel_rfl) (by kernel_rfl) (by kernel_rfl) (fun _ _ _ h => h) (Or.inl ⟨by rfl, ?_⟩) HS1.out ?_
  rotate_left
  · (intro W hSW; clear hSW; go_simp)
    first | done | (with_reducible rfl)
  try simp only [Act.put, List.setIfInBounds_toArray, List.set_cons_zero, List.set_cons_succ]
  refine wpAnyH_done (by kernel_rfl) ?_ _
  have L5 := L4.out.far_ (S := only (w.heap.size + 2)) F5.out (fun b e k => by cases e; exact hb5 k)
  have hv := load_dw K5.out rfl
  have HBE := below_only D4.out.be F5.out (by omega) D4.out.be.size
  go_wp2_with fail
  refine bodyPost_ret (v := .tuple #[docw (some ⟨b3, 0, none⟩) m3 c3 (U.cnt p y), .bool (decide (U.th ≤ sl.c - sl.e))]) (by simp [results, Try.results14, asAddr, hv]) rfl ?_
  refine ⟨some ⟨b3, 0, none⟩, c3, by rw [HCL.out, HM3.out, HSP.out], by rw [HCL.out]; exact L5, ⟨b3, rfl, by omega⟩, HBE⟩
set_option maxHeartbeats 2000000 in
theorem dwadd_cstays (A : Option Addr) (c : Nat) (V : Wn) (p : Pre) (x y : Int) (w : World) (h : LAt A V.L w) (ho : Oks V.L) (hp : p.Ok) (hl : V.L.length ≤ V.M) (h1 : 1 ≤ V.M) (h64 : V.M ≤ 64) (hns : 1 ≤ V.ns) (hc : 4611686018427387903 < x) (hm : 4611686018427387903 / V.ns ≤ V.no) :
    Calls Try.prog 14 #[docw A V.L.length c V, .int .i64 x, .agg p.cs.toArray, .int .i64 y] w (DWOut (V.cnt p y) (V.hvy p y) w) := by
  have hcd : decide (4611686018427387903 < x) = true := by simp; omega
  have D0 := Lib.hid (DWin.new w A V.L.length c V p)
  have H := Lib.hid (fun W (hW : Below w.heap.size w W) => h.below hW)
  have HO := Lib.hid ho
  have HP := Lib.hid hp
  have HL := Lib.hid (And.intro hl (And.intro h1 h64))
  have HZ : Hid (¬ V.ns = 0) := by show ¬ _; omega
  have hq : 0 ≤ 4611686018427387903 / V.ns ∧ 4611686018427387903 / V.ns ≤ 4611686018427387903 := ediv_bd (by omega) (by omega)
  have HW : Hid (IntKind.i64.wrap (Int.tdiv 4611686018427387903 V.ns) = 4611686018427387903 / V.ns) := by
    show _ = _
    rw [Int.tdiv_eq_ediv_of_nonneg (by omega), IntKind.wrap_i64] <;> omega
  have hmd : decide (V.no < 4611686018427387903 / V.ns) = false := by simp; omega
  clear h ho hp hl h1 h64
  go_enter Try.func14, Try.ntmps14
  go_upto_region 1 with fail
  generalize (((w.alloc (.cells (dw A V.L.length c V).toArray 40)).alloc (.cells p.cs.toArray 31)).alloc (.cells #[.slice none 0 0, .int .i64 0, .int .i64 0, .int .i64 0, .int .i64 0, .int .i64 0] 40)) = x1 at *
  obtain ⟨n, hn⟩ : ∃ n, V.L.length = n := ⟨_, rfl⟩
  rw [hn] at D0
  have HN := Lib.hid hn
  rw [hn]
  clear hn
  go_upto_region 3 with fail
  have D1 := D0
  clear D0
  refine wp_region_held_drew (S := fun W => Blk W w.heap.size 40 (dw A n c V)) (by kernel_rfl) ?_ (fun _ => ?_)
  · exact D1.out.one.drew
  have HS0 : Hid (Blk x1.drew w.heap.size 40 (dw A n c V)) := D1.out.one.drew
  refine wpAnyH_take (i := 0) (oi := ⟨some 13, _, _, _, _, _⟩) (v := ?_) rfl (by kernel_rfl) (by kernel_rfl) (by kernel_rfl) (fun _ _ _ h => h) (Or.inl ⟨by rfl, ?_⟩) HS0.out ?_
  rotate_left
  · (intro W hSW; clear hSW; go_simp)
    first | done | (with_reducible rfl)
  try simp only [Act.put, List.setIfInBounds_toArray, List.set_cons_zero, List.set_cons_succ]
  refine wpAnyH_take (i := 1) (oi := ⟨some 14, _, _, _, _, _⟩) (v := .bool true) rfl (by kernel_rfl) (by kernel_rfl) (by kernel_rfl) (fun _ _ _ h => h) (Or.inl ⟨by rfl, ?_⟩) HS0.out ?_
  · (intro W hSW; clear hSW; go_simp)
  try simp only [Act.put, List.setIfInBounds_toArray, List.set_cons_zero, List.set_cons_succ]
  refine wpAnyH_take (i := 2) (oi := ⟨some 15, _, _, _, _, _⟩) (v := ?_) rfl (by kernel_rfl) (by kernel_rfl) (by kernel_rfl) (fun _ _ _ h => h) (Or.inl ⟨by rfl, ?_⟩) HS0.out ?_
  rotate_left
  · (intro W hSW; clear hSW; go_simp)
    first | done | (with_reducible rfl)
  try simp only [Act.put, List.setIfInBounds_toArray, List.set_cons_zero, List.set_cons_succ]
  refine wpAnyH_take (i := 3) (oi := ⟨some 16, _, _, _, _, _⟩) (v := ?_) rfl (by kernel_rfl) (by kernel_rfl) (by kernel_rfl) (fun _ _ _ h => h) (Or.inl ⟨by rfl, ?_⟩) HS0.out ?_
  rotate_left
  · (intro W hSW; clear hSW; go_simp)
    first | done | (with_reducible rfl)
  try simp only [Act.put, List.setIfInBounds_toArray, List.set_cons_zero, List.set_cons_succ]
  refine wpAnyH_take (i := 4) (oi := ⟨some 17, _, _, _, _, _⟩) (v := ?_) rfl (by kernel_rfl) (by kernel_rfl) (by kernel_rfl) (fun _ _ _ h => h) (Or.inl ⟨by rfl, ?_⟩) HS0.out ?_
  rotate_left
  · (intro W hSW; clear hSW; go_simp)
    first | done | (with_reducible rfl)
  try simp only [Act.put, List.setIfInBounds_toArray, List.set_cons_zero, List.set_cons_succ]
  refine wpAnyH_take (i := 5) (oi := ⟨some 18, _, _, _, _, _⟩) (v := .int .i64 V.ns) rfl (by kernel_rfl) (by kernel_rfl) (by kernel_rfl) (fun _ _ _ h => h) (Or.inl ⟨by rfl, ?_⟩) HS0.out ?_
  · (intro W hSW; have hc := hSW.cell 3; clear hSW; go_simp)
  try simp only [Act.put, List.setIfInBounds_toArray, List.set_cons_zero, List.set_cons_succ]
  refine wpAnyH_take (i := 6) (oi := ⟨some 19, _, _, _, _, _⟩) (v := .int .i64 (4611686018427387903 / V.ns)) rfl (by kernel_rfl) (by kernel_rfl) (by kernel_rfl) (fun _ _ _ h => h) (Or.inl ⟨by rfl, ?_⟩) HS0.out ?_
  · (intro W hSW; clear hSW; go_simp)
    rw [if_neg HZ.out, HW.out]
  try simp only [Act.put, List.setIfInBounds_toArray, List.set_cons_zero, List.set_cons_succ]
  refine wpAnyH_take (i := 7) (oi := ⟨some 20, _, _, _, _, _⟩) (v := ?_) rfl (by kernel_rfl) (by kernel_rfl) (by kernel_rfl) (fun _ _ _ h => h) (Or.inl ⟨by rfl, ?_⟩) HS0.out ?_
  rotate_left
  · (intro W hSW; clear hSW; go_simp)
    first | done | (with_reducible rfl)
  try simp only [Act.put, List.setIfInBounds_toArray, List.set_cons_zero, List.set_cons_succ]
  refine wpAnyH_take (i := 8) (oi := ⟨some 21, _, _, _, _, _⟩) (v := .int .i64 V.no) rfl (by kernel_rfl) (by kernel_rfl) (by kernel_rfl) (fun _ _ _ h => h) (Or.inl ⟨by rfl, ?_⟩) HS0.out ?_
  · (intro W hSW; have hc := hSW.cell 5; clear hSW; go_simp)
  try simp only [Act.put, List.setIfInBounds_toArray, List.set_cons_zero, List.set_cons_succ]
  refine wpAnyH_take (i := 9) (oi := ⟨some 22, _, _, _, _, _⟩) (v := .bool false) rfl (by kernel_rfl) (by kernel_rfl) (by kernel_rfl) (fun _ _ _ h => h) (Or.inl ⟨by rfl, ?_⟩) HS0.out ?_
  · (intro W hSW; clear hSW; go_simp)
  try simp only [Act.put, List.setIfInBounds_toArray, List.set_cons_zero, List.set_cons_succ]
  refine wpAnyH_take (i := 10) (oi := ⟨some 23, _, _, _, _, _⟩) (v := .bool false) rfl (by kernel_rfl) (by kernel_rfl) (by kernel_rfl) (fun _ _ _ h => h) (Or.inl ⟨by rfl, ?_⟩) HS0.out ?_
  · (intro W hSW; clear hSW; go_simp)
  try simp only [Act.put, List.setIfInBounds_toArray, List.set_cons_zero, List.set_cons_succ]
  refine wpAnyH_done (by kernel_rfl) ?_ _
  have D1 : Hid (DWin w A n c V p x1.drew) := D1.out.drew
  clear HS0
  generalize x1.drew = x2 at *
  have HA := Lib.hid (dadd_ A c V.M V.T V.L p y x2 (H.out _ D1.out.be) HO.out HP.out HL.out.1 HL.out.2.1 HL.out.2.2)
  rw [HN.out] at HA
  have HOU := HO
  have HM1 := Lib.hid HL.out.2.1
  have D2 := D1
  clear D1
  go_upto_region 6 with fail
  have hlt2 := D2.out.lt
  have HSL := Lib.hid (slo_bd (HOU.out.stp_ (M := V.M) (n := y) HP.out) (pos V.M V.L p))
  have HJ := Lib.hid (stp_pos (p := p) (L := V.L) (n := y) HM1.out)
  have HSP : Hid (V.hvy p y = decide (V.th ≤ (at_ (stp V.M V.L p y) (pos V.M V.L p)).c - (at_ (stp V.M V.L p y) (pos V.M V.L p)).e)) := rfl
  have HCL : Hid ((V.cnt p y).L = stp V.M V.L p y) := rfl
  have HDP := Lib.hid (fun (A' : Option Addr) (n' c' : Nat) W (hW : DWin w A n c V p W) => (hW.put A' n' c' (addK V.T y) (stp V.M V.L p y)).drew)
  change Hid (∀ (A' : Option Addr) (n' c' : Nat) W, DWin w A n c V p W → DWin w A' n' c' (V.cnt p y) p (W.setCells w.heap.size 0 (dcs A' n' c' V.M (addK V.T y))).drew) at HDP
  obtain ⟨L3, hL3⟩ : ∃ L3, stp V.M V.L p y = L3 := ⟨_, rfl⟩
  obtain ⟨j3, hj3⟩ : ∃ j3, pos V.M V.L p = j3 := ⟨_, rfl⟩
  rw [hL3, hj3] at HSL HJ HSP HA
  rw [hL3] at HCL
  obtain ⟨m3, hm3⟩ : ∃ m3, L3.length = m3 := ⟨_, rfl⟩
  have HM3 := Lib.hid hm3
  obtain ⟨sl, hsl⟩ : ∃ sl, at_ L3 j3 = sl := ⟨_, rfl⟩
  rw [hsl] at HSL HSP
  have hj := HJ.out
  rw [hm3] at hj
  have HSA := Lib.hid (at_some HJ.out)
  rw [hsl] at HSA
  have HB : Hid (IntKind.i64.wrap (sl.c - sl.e) = sl.c - sl.e) := by
    have := HSL.out
    show _ = _
    rw [IntKind.wrap_i64] <;> omega
  clear hL3 hj3 hm3 hsl HSL HJ
  go_upto_region 8 with (first | (refine wpList_load_mid rfl 38 (.tmp 35) rfl w.heap.size 0 rfl (dcs A n c V.M V.T) _ (dw_sk D2.out.one) Try.underlying38 rfl size39 ?_) | (refine wpList_pre (by rfl) (.tmp 6) rfl _ _ rfl p (whole_at D2.out.pre) ?_) | (go_at_call 22; (with_reducible refine HA.out.mono ?_); rintro e x3 ⟨A3, c3, rfl, hl, ⟨b3, rfl, hb3⟩, hb⟩; rw [HM3.out]; have L3' := Lib.hid hl; have D3 := Lib.hid (D2.out.below hb); clear hl hb) | (refine wpList_store_mid rfl 38 (.tmp 42) (.tmp 40) rfl w.heap.size 0 (dcs (some ⟨b3, 0, none⟩) m3 c3 V.M (addK V.T y)).toArray rfl rfl (dw_there D3.out.one) size39 (dcs_one _ _ _ _ _) ?_))
  have D4 := Lib.hid (HDP.out (some ⟨b3, 0, none⟩) m3 c3 _ D3.out)
  have hfs := far_setCells (S := only w.heap.size) (g := w.heap.size) (dcs (some ⟨b3, 0, none⟩) m3 c3 V.M (addK V.T y)) 0 x3 x3 (Far.refl _ _) (fun _ => rfl)
  have hb4 : b3 ≠ w.heap.size := by omega
  have hb5 : b3 ≠ w.heap.size + 2 := by omega
  have L4 : Hid (LAt (some ⟨b3, 0, none⟩) L3 (x3.setCells w.heap.size 0 (dcs (some ⟨b3, 0, none⟩) m3 c3 V.M (addK V.T y))).drew) := L3'.out.far_ (S := only w.heap.size) hfs.drew (fun b e k => by cases e; exact hb4 k)
  clear D2 D3 L3' hfs HDP HA hb4
  generalize (x3.setCells w.heap.size 0 (dcs (some ⟨b3, 0, none⟩) m3 c3 V.M (addK V.T y))) = x4 at *
  have R4 : Hid (x4.drew.rangeAt b3 (j3 * 10) sl.cs) := by
    obtain ⟨q, e, hr⟩ := L4.out j3 sl HSA.out
    cases e
    exact hr
  refine wp_region_held_drew (S := fun W => Blk W w.heap.size 40 (dw (some ⟨b3, 0, none⟩) m3 c3 (V.cnt p y)) ∧ W.rangeAt b3 (j3 * 10) sl.cs) (by kernel_rfl) ?_ (fun _ => ?_)
  · exact ⟨D4.out.one, R4.out⟩
  have HS0 : Hid (Blk x4.drew w.heap.size 40 (dw (some ⟨b3, 0, none⟩) m3 c3 (V.cnt p y)) ∧ x4.drew.rangeAt b3 (j3 * 10) sl.cs) := ⟨D4.out.one, R4.out⟩
  refine wpAnyH_take (i := 0) (oi := ⟨some 43, _, _, _, _, _⟩) (v := .agg (dw (some ⟨b3, 0, none⟩) m3 c3 (V.cnt p y)).toArray) rfl (by kernel_rfl) (by kernel_rfl) (by kernel_rfl) (fun _ _ _ h => h) (yieldsIf_load_mid (by rfl) 40 (.tmp 4) rfl w.heap.size 0 rfl _ _ (fun _ h => whole_at h.1) Try.underlying40 rfl size40) HS0.out ?_
  try simp only [Act.put, List.setIfInBounds_toArray, List.set_cons_zero, List.set_cons_succ]
  refine wpAnyH_take (i := 1) (oi := ⟨some 44, _, _, _, _, _⟩) (v := ?_) rfl (by kernel_rfl) (by kernel_rfl) (by kernel_rfl) (fun _ _ _ h => h) (Or.inl ⟨by rfl, ?_⟩) HS0.out ?_
  rotate_left
  · (intro W hSW; clear hSW; go_simp)
    first | done | (with_reducible rfl)
  try simp only [Act.put, List.setIfInBounds_toArray, List.set_cons_zero, List.set_cons_succ]
  refine wpAnyH_take (i := 2) (oi := ⟨some 45, _, _, _, _, _⟩) (v := ?_) rfl (by kernel_rfl) (by kernel_rfl) (by kernel_rfl) (fun _ _ _ h => h) (Or.inl ⟨by rfl, ?_⟩) HS0.out ?_
  rotate_left
  · (intro W hSW; clear hSW; go_simp)
    first | done | (with_reducible rfl)
  try simp only [Act.put, List.setIfInBounds_toArray, List.set_cons_zero, List.set_cons_succ]
  refine wpAnyH_take (i := 3) (oi := ⟨some 46, _, _, _, _, _⟩) (v := .slice (some ⟨b3, 0, none⟩) m3 c3) rfl (by kernel_rfl) (by kernel_rfl) (by kernel_rfl) (fun _ _ _ h => h) (Or.inl ⟨by rfl, ?_⟩) HS0.out ?_
  · (intro W hSW; have hc := hSW.1.cell 0; clear hSW; go_simp)
  try simp only [Act.put, List.setIfInBounds_toArray, List.set_cons_zero, List.set_cons_succ]
  refine wpAnyH_take (i := 4) (oi := ⟨some 47, _, _, _, _, _⟩) (v := ?_) rfl (by kernel_rfl) (by kernel_rfl) (by kernel_rfl) (fun _ _ _ h => h) (Or.inl ⟨by rfl, ?_⟩) HS0.out ?_
  rotate_left
  · (intro W hSW; clear hSW; go_simp)
    first | done | (with_reducible rfl)
  try simp only [Act.put, List.setIfInBounds_toArray, List.set_cons_zero, List.set_cons_succ]
  refine wpAnyH_take (i := 5) (oi := ⟨some 48, _, _, _, _, _⟩) (v := ?_) rfl (by kernel_rfl) (by kernel_rfl) (by kernel_rfl) (fun _ _ _ h => h) (Or.inl ⟨by rfl, ?_⟩) HS0.out ?_
  rotate_left
  · (intro W hSW; clear hSW; go_simp)
    first | done | (with_reducible rfl)
  try simp only [Act.put, List.setIfInBounds_toArray, List.set_cons_zero, List.set_cons_succ]
  refine wpAnyH_take (i := 6) (oi := ⟨some 49, _, _, _, _, _⟩) (v := ?_) rfl (by kernel_rfl) (by kernel_rfl) (by kernel_rfl) (fun _ _ _ h => h) (Or.inl ⟨by rfl, ?_⟩) HS0.out ?_
  rotate_left
  · (intro W hSW; clear hSW; go_simp)
    first | done | (with_reducible rfl)
  try simp only [Act.put, List.setIfInBounds_toArray, List.set_cons_zero, List.set_cons_succ]
  refine wpAnyH_take (i := 7) (oi := ⟨some 50, _, _, _, _, _⟩) (v := .int .i64 sl.c) rfl (by kernel_rfl) (by kernel_rfl) (by kernel_rfl) (fun _ _ _ h => h) (Or.inl ⟨by rfl, ?_⟩) HS0.out ?_
  · (intro W hSW; have hc := hSW.2 8 _ rfl; clear hSW; go_simp)
  try simp only [Act.put, List.setIfInBounds_toArray, List.set_cons_zero, List.set_cons_succ]
  refine wpAnyH_take (i := 8) (oi := ⟨some 51, _, _, _, _, _⟩) (v := ?_) rfl (by kernel_rfl) (by kernel_rfl) (by kernel_rfl) (fun _ _ _ h => h) (Or.inl ⟨by rfl, ?_⟩) HS0.out ?_
  rotate_left
  · (intro W hSW; clear hSW; go_simp)
    first | done | (with_reducible rfl)
  try simp only [Act.put, List.setIfInBounds_toArray, List.set_cons_zero, List.set_cons_succ]
  refine wpAnyH_take (i := 9) (oi := ⟨some 52, _, _, _, _, _⟩) (v := ?_) rfl (by kernel_rfl) (by kernel_rfl) (by kernel_rfl) (fun _ _ _ h => h) (Or.inl ⟨by rfl, ?_⟩) HS0.out ?_
  rotate_left
  · (intro W hSW; clear hSW; go_simp)
    first | done | (with_reducible rfl)
  try simp only [Act.put, List.setIfInBounds_toArray, List.set_cons_zero, List.set_cons_succ]
  refine wpAnyH_take (i := 10) (oi := ⟨some 53, _, _, _, _, _⟩) (v := .slice (some ⟨b3, 0, none⟩) m3 c3) rfl (by kernel_rfl) (by kernel_rfl) (by kernel_rfl) (fun _ _ _ h => h) (Or.inl ⟨by rfl, ?_⟩) HS0.out ?_
  · (intro W hSW; have hc := hSW.1.cell 0; clear hSW; go_simp)
  try simp only [Act.put, List.setIfInBounds_toArray, List.set_cons_zero, List.set_cons_succ]
  refine wpAnyH_take (i := 11) (oi := ⟨some 54, _, _, _, _, _⟩) (v := ?_) rfl (by kernel_rfl) (by kernel_rfl) (by kernel_rfl) (fun _ _ _ h => h) (Or.inl ⟨by rfl, ?_⟩) HS0.out ?_
  rotate_left
  · (intro W hSW; clear hSW; go_simp)
    first | done | (with_reducible rfl)
  try simp only [Act.put, List.setIfInBounds_toArray, List.set_cons_zero, List.set_cons_succ]
  refine wpAnyH_take (i := 12) (oi := ⟨some 55, _, _, _, _, _⟩) (v := ?_) rfl (by kernel_rfl) (by kernel_rfl) (by kernel_rfl) (fun _ _ _ h => h) (Or.inl ⟨by rfl, ?_⟩) HS0.out ?_
  rotate_left
  · (intro W hSW; clear hSW; go_simp)
    first | done | (with_reducible rfl)
  try simp only [Act.put, List.setIfInBounds_toArray, List.set_cons_zero, List.set_cons_succ]
  refine wpAnyH_take (i := 13) (oi := ⟨some 56, _, _, _, _, _⟩) (v := ?_) rfl (by kernel_rfl) (by kernel_rfl) (by kernel_rfl) (fun _ _ _ h => h) (Or.inl ⟨by rfl, ?_⟩) HS0.out ?_
  rotate_left
  · (intro W hSW; clear hSW; go_simp)
    first | done | (with_reducible rfl)
  try simp only [Act.put, List.setIfInBounds_toArray, List.set_cons_zero, List.set_cons_succ]
  refine wpAnyH_take (i := 14) (oi := ⟨some 57, _, _, _, _, _⟩) (v := .int .i64 sl.e) rfl (by kernel_rfl) (by kernel_rfl) (by kernel_rfl) (fun _ _ _ h => h) (Or.inl ⟨by rfl, ?_⟩) HS0.out ?_
  · (intro W hSW; have hc := hSW.2 9 _ rfl; clear hSW; go_simp)
  try simp only [Act.put, List.setIfInBounds_toArray, List.set_cons_zero, List.set_cons_succ]
  refine wpAnyH_take (i := 15) (oi := ⟨some 58, _, _, _, _, _⟩) (v := .int .i64 (sl.c - sl.e)) rfl (by kernel_rfl) (by kernel_rfl) (by kernel_rfl) (fun _ _ _ h => h) (Or.inl ⟨by rfl, ?_⟩) HS0.out ?_
  · (intro W hSW; clear hSW; go_simp)
    rw [HB.out]
  try simp only [Act.put, List.setIfInBounds_toArray, List.set_cons_zero, List.set_cons_succ]
  refine wpAnyH_take (i := 16) (oi := ⟨some 59, _, _, _, _, _⟩) (v := ?_) rfl (by kernel_rfl) (by kernel_rfl) (by kernel_rfl) (fun _ _ _ h => h) (Or.inl ⟨by rfl, ?_⟩) HS0.out ?_
  rotate_left
  · (intro W hSW; clear hSW; go_simp)
    first | done | (with_reducible rfl)
  try simp only [Act.put, List.setIfInBounds_toArray, List.set_cons_zero, List.set_cons_succ]
  refine wpAnyH_take (i := 17) (oi := ⟨some 60, _, _, _, _, _⟩) (v := .int .i64 V.th) rfl (by kernel_rfl) (by kernel_rfl) (by kernel_rfl) (fun _ _ _ h => h) (Or.inl ⟨by rfl, ?_⟩) HS0.out ?_
  · (intro W hSW; have hc := hSW.1.cell 4; clear hSW; go_simp)
    rfl
  try simp only [Act.put, List.setIfInBounds_toArray, List.set_cons_zero, List.set_cons_succ]
  refine wpAnyH_take (i := 18) (oi := ⟨some 61, _, _, _, _, _⟩) (v := .bool (decide (V.th ≤ sl.c - sl.e))) rfl (by kernel_rfl) (by kernel_rfl) (by kernel_rfl) (fun _ _ _ h => h) (Or.inl ⟨by rfl, ?_⟩) HS0.out ?_
  · (intro W hSW; clear hSW; go_simp)
  try simp only [Act.put, List.setIfInBounds_toArray, List.set_cons_zero, List.set_cons_succ]
  refine wpAnyH_ready (rs := [19]) (by kernel_rfl) (by simp) ?_
  refine AllReadyH.cons (o := ⟨none, _, _, _, _, _⟩) rfl (fun K hK => ?_) AllReadyH.nil
  refine step_lay (by rfl) 40 6 size40 (.tmp 8) (.tmp 43) (by rfl) (w.heap.size + 2) (dw (some ⟨b3, 0, none⟩) m3 c3 (V.cnt p y)) (by rfl) (by rfl) 40 (dw none 0 0 wn0) D4.out.res rfl rfl (dw_one _ _ _ _) ?_
  intro x5 K5 F5
  have HS1 : Hid (Blk x5 w.heap.size 40 (dw (some ⟨b3, 0, none⟩) m3 c3 (V.cnt p y)) ∧ x5.rangeAt b3 (j3 * 10) sl.cs) := ⟨D4.out.one.far F5.out (fun e => by have h1 : w.heap.size = w.heap.size + 2 := e; omega), fun j v hv => (World.cell?_of_block (F5.out.block _ (World.block_lt_of_cell? _ _ (R4.out j v hv)) (fun e => hb5 e))).trans (R4.out j v hv)⟩
  refine hK.out _ _ ?_ (fun _ => ?_)
  · exact HS1.out
  clear hK K
  try simp only [Act.put]
  refine wpAnyH_take (i := 20) (oi := ⟨some 9, _, _, _, _, _⟩) (v := ?_) rfl (by kernel_rfl) (by kernel_rfl) (by kernel_rfl) (fun _ _ _ h => h) (Or.inl ⟨by rfl, ?_⟩) HS1.out ?_
  rotate_left
  · (intro W hSW; clear hSW; go_simp)
    first | done | (with_reducible rfl)
  try simp only [Act.put, List.setIfInBounds_toArray, List.set_cons_zero, List.set_cons_succ]
  refine wpAnyH_done (by kernel_rfl) ?_ _
  have L5 := L4.out.far_ (S := only (w.heap.size + 2)) F5.out (fun b e k => by cases e; exact hb5 k)
  have hv := load_dw K5.out rfl
  have HBE := below_only D4.out.be F5.out (by omega) D4.out.be.size
  go_wp2_with fail
  refine bodyPost_ret (v := .tuple #[docw (some ⟨b3, 0, none⟩) m3 c3 (V.cnt p y), .bool (decide (V.th ≤ sl.c - sl.e))]) (by simp [results, Try.results14, asAddr, hv]) rfl ?_
  refine ⟨some ⟨b3, 0, none⟩, c3, by rw [HCL.out, HM3.out, HSP.out], by rw [HCL.out]; exact L5, ⟨b3, rfl, by omega⟩, HBE⟩
end Go.Proofs.Yteeobeeoefokdaa
