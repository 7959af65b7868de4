/- The program's box in memory: its head, its table, the tokens of each who is in it; what lets go leaves, on plain lists. Conditions: those of each theorem. -/
import Derived.Test.YtpjeeccgpnpokaaOutT
import Derived.Test.YtpjeeccgpnpokaaToks
import Derived.Test.YtpjeeccgpnpokaaAwake
namespace Go.Proofs.Ytpjeeccgpnpokaa
open Go.RowKit

theorem step_layT {ops : Array Oper} {o : Oper} {a : Act} {w : World} {K : Act → World → Prop} {Q : Exit → Act → World → Prop} {E : Prop} (hw : Region.wanted o (yielded ops a.tmps) = true) (ty : TypeId) (k : Nat) (hty : (Try.prog.info? ty).map (·.size) = some k) (x y : Operand) (ho : o.op = .store ty x y)
    (g : Nat) (xs : List Value) (hx : a.eval x = .pointer (some ⟨g, 0, none⟩)) (hy : a.eval y = .agg xs.toArray) (t : TypeId) (old : List Value) (hb : Blk w g t old) (hl : old.length = k) (hxl : xs.length = k) (h1 : xs.toArray.all (·.oneCell') = true)
    (h : ∀ w', Hid (Blk w' g t xs) → Hid (Far (only g) w w') → K (a.put o.dst undef) w') : if Region.wanted o (yielded ops a.tmps) = true then Oper.wp Try.prog o a w K Q else E := by
  rw [if_pos hw]
  exact wp_store_row ty x y ho g xs.toArray hx hy t old.toArray hb (by rw [List.size_toArray, hxl]; exact hty) (by rw [List.size_toArray, List.size_toArray, hl, hxl]) h1 (h _ (setRow_blk hb xs) (setRow_far w g _))

/-! Plain lists. -/
section
variable {L P R : List Ent} {e : Ent} {x : Int} {k : Nat}
theorem srt_idx (h : Srt (P ++ e :: R)) : idx (P ++ e :: R) e.p = P.length := by
  have hk : P.length < (P ++ e :: R).length := by simp
  have he : at_ (P ++ e :: R) P.length = e := at_of (by simp)
  refine idx_first (Nat.le_of_lt hk) (fun j hj hh => ?_) (fun _ => by rw [he])
  have h1 := h j P.length hj hk
  rw [he, hh, ltP_no] at h1
  cases h1
theorem srt_has : has (P ++ e :: R) e.p = true := has_mem.2 ⟨e, by simp, rfl⟩
theorem srt_at (h : Srt (P ++ e :: R)) : at_ (P ++ e :: R) (idx (P ++ e :: R) e.p) = e := by
  rw [srt_idx h]
  exact at_of (by simp)
theorem srt_del (h : Srt (P ++ e :: R)) : del (P ++ e :: R) e.p = P ++ R := by
  unfold del
  rw [if_pos srt_has, srt_idx h]
  simp
/-- The first k swept. -/
def mid (L : List Ent) (k : Nat) (x : Int) : List Ent := swp (L.take k) x ++ L.drop k
theorem mid_zero : mid L 0 x = L := by simp [mid, swp]
theorem mid_end (h : k = L.length) : mid L k x = swp L x := by subst h; simp [mid]
theorem mid_split (h : k < L.length) : mid L k x = swp (L.take k) x ++ at_ L k :: L.drop (k + 1) := by
  unfold mid
  rw [List.drop_eq_getElem_cons h]
  congr 2
  rw [at_of (s := L[k]) (by simp [h])]
theorem mid_next (h : k < L.length) : mid L (k + 1) x = swp (L.take k) x ++ (if clm x < (at_ L k).u then at_ L k :: L.drop (k + 1) else L.drop (k + 1)) := by
  unfold mid swp
  rw [List.take_add_one, at_some h, List.filter_append]
  by_cases e : clm x < (at_ L k).u
  · simp [e]
  · simp [e]
theorem mid_stay (h : k < L.length) (e : clm x < (at_ L k).u) : mid L (k + 1) x = mid L k x := by rw [mid_next h, if_pos e, mid_split h]
theorem mid_out (h : k < L.length) (e : ¬ clm x < (at_ L k).u) (hs : Srt (mid L k x)) : mid L (k + 1) x = del (mid L k x) (at_ L k).p := by
  rw [mid_next h, if_neg e]
  rw [mid_split h] at hs ⊢
  rw [srt_del hs]
theorem mid_has (h : k < L.length) : has (mid L k x) (at_ L k).p = true := by rw [mid_split h]; exact srt_has
theorem mid_at (h : k < L.length) (hs : Srt (mid L k x)) : at_ (mid L k x) (idx (mid L k x) (at_ L k).p) = at_ L k := by
  rw [mid_split h] at hs ⊢
  exact srt_at hs
theorem mid_mem : ∀ e ∈ mid L k x, e ∈ L := fun e he => by
  unfold mid swp at he
  rcases List.mem_append.1 he with h | h
  · exact List.mem_of_mem_take (List.mem_filter.1 h).1
  · exact List.mem_of_mem_drop h
theorem del_mem {p : Pre} : ∀ e ∈ del L p, e ∈ L := fun e he => by
  unfold del at he
  split at he
  · rcases List.mem_append.1 he with he | he
    · exact List.mem_of_mem_take he
    · exact List.mem_of_mem_drop he
  · exact he
theorem clm_le {x u : Int} (h : 0 < u) : (clm x < u) ↔ ¬ u ≤ x := by unfold clm; split <;> omega
theorem cnt_clm (x : Int) : cnt (clm x) = cnt x := by unfold clm cnt; split <;> (repeat' split) <;> omega
end
section
variable {r B L m x n : Int}
theorem lev_clm (h : 0 ≤ m) : lev r B L m x = lev r B L m (clm x) := by
  unfold clm
  split
  · rw [lev_old (by omega), lev_old (by omega)]
  · rfl
theorem okT_clm (h : 0 ≤ m) : okT r B L m x n = okT r B L m (clm x) n := by unfold okT; rw [lev_clm h]
theorem lef_clm (h : 0 ≤ m) : lef r B L m x n = lef r B L m (clm x) n := by unfold lef; rw [okT_clm h, lev_clm h]
theorem max_clm (h : 0 ≤ m) : max m x = max m (clm x) := by unfold clm; split <;> omega
/-- New tokens, of which none are taken. -/
theorem lev_full (h0 : 0 ≤ B) (h1 : B ≤ 1125899906842624) : lev r B B 0 x = B := by
  by_cases h : x ≤ 0
  · exact lev_old h
  · rw [lev_new (by omega)]
    have h2 := (mulC_bd r (x - 0)).1
    have : B ≤ addC B (mulC r (x - 0)) := by
      unfold addC
      split <;> omega
    omega
theorem lef_full (h0 : 0 ≤ B) (h1 : B ≤ 1125899906842624) : lef r B B 0 x 0 = B := by
  have := lev_full (r := r) (x := x) h0 h1
  unfold lef
  split <;> omega
end

/-! The box. -/
structure BoxAt (f : Pre → Nat) (h q n : Nat) (w : World) (g : Nat) (C : Cfg) (L : List Ent) : Prop where
  head : Blk w g 64 [.pointer (some ⟨h, 0, none⟩), .int .i64 C.term, .int .i64 C.r, .int .i64 C.b]
  tab : TbAt (kSt f) 85 91 w h q n L
  room : C.room = (n : Int)
  ng : g ≠ h ∧ g ≠ q
  pos : ∀ e ∈ L, 0 < e.u
  toks : ∀ e ∈ L, TAt w (f e.p) C.r (C.b * 1048576) e.l e.m
  nf : ∀ e ∈ L, f e.p ≠ g ∧ f e.p ≠ h ∧ f e.p ≠ q
  inj : ∀ e ∈ L, ∀ e' ∈ L, f e.p = f e'.p → e.p = e'.p
def boxB (f : Pre → Nat) (h q g : Nat) (L : List Ent) : Nat → Prop := fun k => k = g ∨ k = h ∨ k = q ∨ ∃ e ∈ L, k = f e.p
section
variable {f : Pre → Nat} {h q n g : Nat} {w w' : World} {C : Cfg} {L L' : List Ent}
theorem BoxAt.far {S : Nat → Prop} (b : BoxAt f h q n w g C L) (hf : Far S w w') (hS : ∀ k, boxB f h q g L k → ¬ S k) : BoxAt f h q n w' g C L :=
  ⟨b.head.far hf (hS g (.inl rfl)), b.tab.far hf (hS h (.inr (.inl rfl))) (hS q (.inr (.inr (.inl rfl)))), b.room, b.ng, b.pos, fun e he => (b.toks e he).far hf (hS _ (.inr (.inr (.inr ⟨e, he, rfl⟩)))), b.nf, b.inj⟩
theorem BoxAt.below (b : BoxAt f h q n w g C L) (hb : Below w.heap.size w w') : BoxAt f h q n w' g C L := b.far (Far.of_below hb nobody) (fun _ _ e => e)
theorem BoxAt.lt (b : BoxAt f h q n w g C L) : ∀ k, boxB f h q g L k → k < w.heap.size := fun k hk => by
  rcases hk with rfl | rfl | rfl | ⟨e, he, rfl⟩
  · exact b.head.lt
  · exact b.tab.lt.1
  · exact b.tab.lt.2
  · exact (b.toks e he).blk.lt
theorem BoxAt.turn (b : BoxAt f h q n w g C L) (ht : TbAt (kSt f) 85 91 w' h q n L') (hf : Far (two h q) w w') (hs : ∀ e ∈ L', e ∈ L) : BoxAt f h q n w' g C L' :=
  ⟨b.head.far hf (fun e => by rcases e with e | e; exact b.ng.1 e; exact b.ng.2 e), ht, b.room, b.ng, fun e he => b.pos e (hs e he), fun e he => (b.toks e (hs e he)).far hf (fun e' => by rcases e' with e' | e'; exact (b.nf e (hs e he)).2.1 e'; exact (b.nf e (hs e he)).2.2 e'),
    fun e he => b.nf e (hs e he), fun e he e' he' => b.inj e (hs e he) e' (hs e' he')⟩
theorem BoxAt.cells (b : BoxAt f h q n w g C L) : w.cell? ⟨g, 0, none⟩ = some (.pointer (some ⟨h, 0, none⟩)) ∧ w.cell? ⟨g, 1, none⟩ = some (.int .i64 C.term) ∧ w.cell? ⟨g, 2, none⟩ = some (.int .i64 C.r) ∧ w.cell? ⟨g, 3, none⟩ = some (.int .i64 C.b) :=
  ⟨b.head.cell 0, b.head.cell 1, b.head.cell 2, b.head.cell 3⟩
end
/-- In the loop that lets go: the box, the prefixes that were asked for, the one at hand. -/
structure Midst (w : World) (f : Pre → Nat) (h q n g : Nat) (C : Cfg) (L : List Ent) (A : Option Addr) (ps : List Pre) (W : World) : Prop where
  box : BoxAt f h q n W g C L
  els : Els kPre W A ps
  loc : ∀ ad, A = some ad → w.heap.size ≤ ad.block
  old : g < w.heap.size ∧ h < w.heap.size ∧ q < w.heap.size
  tk : ∀ e ∈ L, f e.p < w.heap.size
  far : Far (two h q) w W
section
variable {f : Pre → Nat} {h q n g : Nat} {w W W' : World} {C : Cfg} {L L' : List Ent} {A : Option Addr} {ps : List Pre}
theorem Midst.below (m : Midst w f h q n g C L A ps W) (hb : Below W.heap.size W W') : Midst w f h q n g C L A ps W' :=
  ⟨m.box.below hb, m.els.below hb, m.loc, m.old, m.tk, m.far.trans (Far.of_below hb (two h q)) (fun _ _ e => e)⟩
theorem Midst.drew (m : Midst w f h q n g C L A ps W) : Midst w f h q n g C L A ps W.drew := m.below (below_drewN (Below.refl _ _) 1)
theorem Midst.past {b : Nat} (m : Midst w f h q n g C L A ps W) (hf : Far (only b) W W') (hb : w.heap.size ≤ b) (hA : ∀ ad, A = some ad → ad.block ≠ b) : Midst w f h q n g C L A ps W' :=
  ⟨m.box.far hf (fun k hk e => by
      have e' : k = b := e
      have h3 := m.old
      rcases hk with rfl | rfl | rfl | ⟨e2, he, rfl⟩
      · omega
      · omega
      · omega
      · have := m.tk e2 he; omega), m.els.far hf (fun q' o e n => hA _ e n), m.loc, m.old, m.tk, m.far.trans hf (fun k hk e => by have e' : k = b := e; omega)⟩
theorem Midst.turn (m : Midst w f h q n g C L A ps W) (ht : TbAt (kSt f) 85 91 W' h q n L') (hf : Far (two h q) W W') (hs : ∀ e ∈ L', e ∈ L) : Midst w f h q n g C L' A ps W' :=
  ⟨m.box.turn ht hf hs, m.els.far hf (fun q' o e n => by
      have h1 := m.loc _ e
      have h2 := m.old
      rcases n with n | n <;> (simp at h1; omega)), m.loc, m.old, fun e he => m.tk e (hs e he), m.far.trans hf (fun _ _ e => e)⟩
end
/-- What letting go leaves. -/
def BAtOut (f : Pre → Nat) (h q n g : Nat) (C : Cfg) (L' : List Ent) (w : World) (e : Ending) (w' : World) : Prop := e = .returned (.pointer (some ⟨h, 0, none⟩)) ∧ BoxAt f h q n w' g C L' ∧ Far (two h q) w w'
end Go.Proofs.Ytpjeeccgpnpokaa
