/- What a round of BoxRoom keeps: the program's box, who is in, what each has taken, the act's copy. Conditions: those of each theorem. -/
import Derived.Test.YtpjeeccgpnpokaaActs
namespace Go.Proofs.Ytpjeeccgpnpokaa
open Go.RowKit

/-- Numbers, a cell each. -/
def kInt : Kin Int := ⟨fun z => [.int .i64 z], 1, by decide, fun _ => rfl, fun s u hu => by
  simp only [List.mem_singleton] at hu
  rw [hu]; rfl⟩
theorem info2 : (Try.prog.info? 2).map (fun i => (i.zero, i.size, i.bytes)) = some (some (.int .i64 0), kInt.n, 8) := by kernel_rfl
/-- The act's copy. -/
def ac (O : Int) (p : Pre) (x y : Int) : List Value := .int .u8 O :: (p.cs ++ [.int .i64 x, .int .i64 y])
theorem ac_each (O : Int) (p : Pre) (x y : Int) : ∀ u ∈ ac O p x y, u.oneCell' = true := by
  intro u hu
  unfold ac at hu
  rcases List.mem_cons.1 hu with rfl | h
  · rfl
  · rcases List.mem_append.1 h with h | h
    · exact pre_each _ u h
    · simp only [List.mem_cons, List.not_mem_nil, or_false] at h
      rcases h with h | h <;> (rw [h]; rfl)
theorem size39 (O : Int) (p : Pre) (x y : Int) : (Try.prog.info? 39).map (·.size) = some (ac O p x y).length := by kernel_rfl
theorem ac_pre {W : World} {bx : Nat} {O x y : Int} {p : Pre} (h : Blk W bx 39 (ac O p x y)) : W.rangeAt bx 1 p.cs := fun j v hv => by
  rw [h.cell, Nat.add_comm]
  show (p.cs ++ _)[j]? = _
  rw [List.getElem?_append_left (List.getElem?_eq_some_iff.1 hv).1]
  exact hv
theorem ac_now {W : World} {bx : Nat} {O x y : Int} {p : Pre} (h : Blk W bx 39 (ac O p x y)) : W.cell? ⟨bx, 9, none⟩ = some (.int .i64 x) := h.cell 9
theorem ac_num {W : World} {bx : Nat} {O x y : Int} {p : Pre} (h : Blk W bx 39 (ac O p x y)) : W.cell? ⟨bx, 10, none⟩ = some (.int .i64 y) := h.cell 10
theorem ac_kind {W : World} {bx : Nat} {O x y : Int} {p : Pre} (h : Blk W bx 39 (ac O p x y)) : W.cell? ⟨bx, 0, none⟩ = some (.int .u8 O) := h.cell 0
/-- The block of a row. -/
def ob (v : Value) : Nat → Prop := fun j => v.ownBlock = some j
theorem ow_blk {α : Type} {K : Kin α} {e : TypeId} {base g : Nat} {v : Value} {L : List α} {w : World} (h : Ow K e base v L w) (hb : v.ownBlock = some g) : ∃ cur : Array Value, w.heap[g]? = some (.cells cur e (0, 0)) := by
  rcases h.2 with ⟨rfl, _⟩ | ⟨g', cap, cur, rfl, _, hg, _⟩
  · simp [Value.ownBlock] at hb
  · simp [Value.ownBlock] at hb
    subst hb
    exact ⟨cur, hg⟩
/-- Rows of unlike things lie apart. -/
theorem ow_apart {α β : Type} {K : Kin α} {K' : Kin β} {e e' : TypeId} {base base' : Nat} {v v' : Value} {L : List α} {L' : List β} {w : World} (h : Ow K e base v L w) (h' : Ow K' e' base' v' L' w) (he : e ≠ e') (k : Nat) (hk : v.ownBlock = some k) : v'.ownBlock ≠ some k := fun hk' => by
  obtain ⟨c, hc⟩ := ow_blk h hk
  obtain ⟨c', hc'⟩ := ow_blk h' hk'
  rw [hc] at hc'
  injection hc' with hc'
  injection hc' with _ e2
  exact he e2
theorem flat_int : ∀ l : List Int, kInt.flat l = l.map (.int .i64)
  | [] => rfl
  | x :: r => by
    have : kInt.flat (x :: r) = kInt.cs x ++ kInt.flat r := rfl
    rw [this, flat_int r]
    rfl
/-- A number of a row, changed in its place. -/
theorem ow_set {base q c i : Nat} {L : List Int} {w : World} (h : Ow kInt 2 base (.slice (some ⟨q, 0, none⟩) L.length c) L w) (z : Int) : Ow kInt 2 base (.slice (some ⟨q, 0, none⟩) L.length c) (L.set i z) (w.setCell ⟨q, i, none⟩ (.int .i64 z)) := by
  have hfl : ∀ l : List Int, kInt.flat l = l.map (.int .i64) := flat_int
  obtain ⟨h1, h2⟩ := h
  unfold Ow
  refine ⟨by rw [Kin.flat_length, List.length_set], ?_⟩
  rcases h2 with ⟨h0, _⟩ | ⟨g, cap, cur, hv, hb, hg, hc, hm, hs, ht⟩
  · cases h0
  · cases hv
    refine .inr ⟨q, c, cur.setIfInBounds i (.int .i64 z), by simp, hb, ?_, by simpa using hc, hm, by simpa using hs, ?_⟩
    · simp [World.setCell, Array.getElem?_modify, hg]
    · rw [hfl] at ht ⊢
      simp only [Array.toList_setIfInBounds, List.length_set]
      rw [List.map_set, ← ht]
      exact List.take_set
theorem room_new {T : Tbl} {w W : World} {n m : Int} (P : ProgB T) (hb : Below w.heap.size w W) (hn : 1 ≤ n ∧ n ≤ 64) (hm : 1 ≤ m ∧ m ≤ 1073741824) :
    Calls Try.prog 7 #[.int .i64 n, .int .i64 1099511627776, .int .i64 0, .int .i64 m] W fun e W' => ∃ g, e = .returned (.tuple #[.pointer (some ⟨g, 0, none⟩), .int .i64 0]) ∧ At T w g (cfR n m) [] nobody W' := At.new P hb (cfR_ok hn hm)
/-- The program's box and both rows. -/
structure RR (T : Tbl) (w : World) (g : Nat) (n m : Int) (L : List Ent) (R : List Pre) (S : List Int) (vr vs : Value) (F : Nat → Prop) (W : World) : Prop where
  tab : At T w g (cfR n m) L (fun j => ob vr j ∨ ob vs j ∨ F j) W
  who : Ow kPre 31 w.heap.size vr R W
  tkn : Ow kInt 2 w.heap.size vs S W
structure RB (T : Tbl) (w : World) (g : Nat) (n m : Int) (L : List Ent) (R : List Pre) (S : List Int) (vr vs : Value) (F : Nat → Prop) (W : World) : Prop extends RR T w g n m L R S vr vs F W where
  rm : Rm n m L R S
section
variable {T : Tbl} {w W W' : World} {g bx : Nat} {n m y : Int} {L L' : List Ent} {R R' : List Pre} {S S' : List Int} {vr vs v : Value} {F F' : Nat → Prop} {p : Pre} {t : Int} {i : Nat}
theorem RB.below (P : ProgB T) (h : RB T w g n m L R S vr vs F W) (hb : Below W.heap.size W W') : RB T w g n m L R S vr vs F W' := ⟨⟨h.tab.below P hb, h.who.below hb, h.tkn.below hb⟩, h.rm⟩
/-- The act's copy is left alone too. -/
theorem RB.more (P : ProgB T) (h : RB T w g n m L R S vr vs nobody W) (hb : Below W.heap.size W W') (hx : W.heap.size < W'.heap.size) : RB T w g n m L R S vr vs (only W.heap.size) W' :=
  ⟨⟨(h.tab.grow P hb).less (fun j e => by
    rcases e with e | e | e
    · exact .inl (.inl e)
    · exact .inl (.inr (.inl e))
    · unfold only at e
      exact .inr (by omega)), h.who.below hb, h.tkn.below hb⟩, h.rm⟩
theorem RB.fewer (h : RB T w g n m L R S vr vs F W) : RB T w g n m L R S vr vs nobody W := ⟨⟨h.tab.less (fun j e => by
  rcases e with e | e | e
  · exact .inl e
  · exact .inr (.inl e)
  · exact False.elim e), h.who, h.tkn⟩, h.rm⟩
/-- Behind an act of the program's. -/
theorem RR.act {v : Value} {e : Ending} (h : RR T w g n m L R S vr vs F W) (ha : Act1 T w g (cfR n m) L' (fun j => ob vr j ∨ ob vs j ∨ F j) v W e W') : RR T w g n m L' R S vr vs F W' :=
  ⟨ha.2.1, h.who.far ha.2.2 (fun _ hk n => n.2 (.inl hk)), h.tkn.far ha.2.2 (fun _ hk n => n.2 (.inr (.inl hk)))⟩
theorem RR.blk {cs : List Value} {ty : TypeId} (h : Blk W bx ty cs) (hf : Far (free w (fun j => ob vr j ∨ ob vs j ∨ only bx j)) W W') : Blk W' bx ty cs := h.far hf (fun n => n.2 (.inr (.inr rfl)))
/-- The rows have turned, or grown. -/
theorem RR.turn {W2 : World} {vr' vs' : Value} (P : ProgB T) (h : RR T w g n m L R S vr vs F W)
    (h1 : Ow kPre 31 w.heap.size vr' R' W2) (h2 : Ow kInt 2 w.heap.size vs' S' W2) (hf : Far (fun j => ob vr j ∨ ob vs j ∨ (W.heap.size ≤ j)) W W2) (n1 : ∀ k, ob vr' k → ob vr k ∨ W.heap.size ≤ k) (n2 : ∀ k, ob vs' k → ob vs k ∨ W.heap.size ≤ k) : RR T w g n m L R' S' vr' vs' F W2 := by
  have hz := h.tab.be.size
  have hF := Far.mono (S' := fun j => (ob vr j ∨ ob vs j ∨ F j) ∧ w.heap.size ≤ j ∨ W.heap.size ≤ j) hf (fun i e => by
    rcases e with e | e | e
    · exact .inl ⟨.inl e, (h.who.lt i e).1⟩
    · exact .inl ⟨.inr (.inl e), (h.tkn.lt i e).1⟩
    · exact .inr e)
  obtain ⟨b, t1, t2, t3, t4⟩ := h.tab
  have hbW : ∀ j, b j → j < W.heap.size := P.lt _ _ _ _ _ t1
  have hno : ∀ j, b j → ¬ ((ob vr j ∨ ob vs j ∨ F j) ∧ w.heap.size ≤ j ∨ W.heap.size ≤ j) := fun j hj e => by
    rcases e with e | e
    · exact (t2 j hj).2 e.1
    · have := hbW j hj; omega
  refine ⟨⟨b, P.keep _ _ _ _ _ _ _ t1 hF hno, fun j hj => ⟨(t2 j hj).1, ?_⟩, ?_, t4.trans (hF.below t4.size (fun j hj e => by rcases e with e | e <;> omega))⟩, h1, h2⟩
  · rintro (e | e | e)
    · rcases n1 j e with e | e
      · exact (t2 j hj).2 (.inl e)
      · have := hbW j hj; omega
    · rcases n2 j e with e | e
      · exact (t2 j hj).2 (.inr (.inl e))
      · have := hbW j hj; omega
    · exact (t2 j hj).2 (.inr (.inr e))
  · rintro j (e | e | e)
    · exact (h1.lt j e).2
    · exact (h2.lt j e).2
    · exact Nat.lt_of_lt_of_le (t3 j (.inr (.inr e))) hf.size
/-- One more in both rows. -/
theorem RR.two (P : ProgB T) (h : RR T w g n m L R S vr vs F W) (hR : R.length ≤ 1000) (hS : S.length ≤ 1000) (p : Pre) : ∃ v1 w6 v2 w8,
    (Builtin.append_ #[33, 33] 33 #[vr, .slice (some ⟨W.heap.size, 0, none⟩) 1 1]).run Try.prog (W.alloc (.cells p.cs.toArray 31)) = .ok v1 w6 ∧
    (Builtin.append_ #[53, 53] 53 #[vs, .slice (some ⟨w6.heap.size, 0, none⟩) 1 1]).run Try.prog (w6.alloc (.cells #[.int .i64 0] 2)) = .ok v2 w8 ∧
    RR T w g n m L (R ++ [p]) (S ++ [0]) v1 v2 F w8 ∧ Far (fun j => ob vr j ∨ ob vs j ∨ (W.heap.size ≤ j)) W w8 := by
  have hz := h.tab.be.size
  have hbA : Below W.heap.size W (W.alloc (.cells p.cs.toArray 31)) := (Below.refl _ _).alloc (Nat.le_refl _) _
  obtain ⟨v1, w6, r1, o1, g1, b1⟩ := run_app (P := Try.prog) (R := [p]) (W.alloc (.cells p.cs.toArray 31)) 33 33 (.agg pre0.cs.toArray) 8 Try.underlying33 info31 rfl (by decide) (h.who.below hbA) (Els.of_blk (K := kPre) (Blk.new W 31 p.cs)) 1 (by simp; omega) (by simp; omega)
  have f1 : Far (fun j => ob vr j ∨ W.heap.size ≤ j) W w6 := (Far.of_below hbA _).trans (Far.grown (S := fun j => ob vr j ∨ W.heap.size ≤ j) (Far.refl _ _) g1 (fun k hk _ => .inl hk)) (fun _ _ e => e)
  have hbB : Below w6.heap.size w6 (w6.alloc (.cells #[.int .i64 0] 2)) := (Below.refl _ _).alloc (Nat.le_refl _) _
  have t6 : Ow kInt 2 w.heap.size vs S w6 := h.tkn.far f1 (fun k hk e => by
    rcases e with e | e
    · exact ow_apart h.who h.tkn (by decide) k e hk
    · have := (h.tkn.lt k hk).2; omega)
  have hz6 := f1.size
  obtain ⟨v2, w8, r2, o2, g2, b2⟩ := run_app (P := Try.prog) (R := [(0 : Int)]) (w6.alloc (.cells #[.int .i64 0] 2)) 53 53 (.int .i64 0) 8 Try.underlying53 info2 rfl (by decide) (t6.below hbB) (Els.of_blk (K := kInt) (Blk.new w6 2 [.int .i64 0])) 1 (by simp; omega) (by simp; omega)
  have f2 : Far (fun j => ob vs j ∨ w6.heap.size ≤ j) w6 w8 := (Far.of_below hbB _).trans (Far.grown (S := fun j => ob vs j ∨ w6.heap.size ≤ j) (Far.refl _ _) g2 (fun k hk _ => .inl hk)) (fun _ _ e => e)
  have hw8 : Ow kPre 31 w.heap.size v1 (R ++ [p]) w8 := o1.far f2 (fun k hk e => by
    rcases e with e | e
    · exact ow_apart o1 t6 (by decide) k hk e
    · have := (o1.lt k hk).2; omega)
  have ff : Far (fun j => ob vr j ∨ ob vs j ∨ (W.heap.size ≤ j)) W w8 := Far.trans (f1.mono (fun _ e => Or.elim e (fun e => .inl e) (fun e => .inr (.inr e)))) f2 (fun _ _ e => Or.elim e (fun e => .inr (.inl e)) (fun e => .inr (.inr (Nat.le_trans hz6 e))))
  refine ⟨v1, w6, v2, w8, r1, r2, h.turn P hw8 o2 ff (fun k hk => ?_) (fun k hk => ?_), ff⟩
  · rcases b1 with b | b
    · exact .inl (b.symm.trans hk)
    · have hk' : v1.ownBlock = some k := hk
      rw [b] at hk'
      injection hk' with hk'
      simp at hk'
      exact .inr (by omega)
  · rcases b2 with b | b
    · exact .inl (b.symm.trans hk)
    · have hk' : v2.ownBlock = some k := hk
      rw [b] at hk'
      injection hk' with hk'
      simp at hk'
      exact .inr (by omega)
/-- What Put and Take answer at 5. -/
def RAct (T : Tbl) (w : World) (g : Nat) (n m : Int) (R : List Pre) (S : List Int) (vr vs : Value) (F : Nat → Prop) (R' : List Pre) (S' : List Int) (v : Value) (W : World) (e : Ending) (W' : World) : Prop :=
  e = .returned v ∧ ∃ L', RR T w g n m L' R S vr vs F W' ∧ Rm n m L' R' S' ∧ Far (free w (fun j => ob vr j ∨ ob vs j ∨ F j)) W W'
theorem RB.put_ (P : ProgB T) (h : RB T w g n m L R S vr vs F W) (hn : 1 ≤ n ∧ n ≤ 64) (hm : 1 ≤ m ∧ m ≤ 1073741824) (hp : p.Ok) :
    Calls Try.prog 8 #[.pointer (some ⟨g, 0, none⟩), .agg p.cs.toArray, .int .i64 5] W (RAct T w g n m R S vr vs F (if p ∈ R then R else if n ≤ R.length then R else R ++ [p]) (if p ∈ R then S else if n ≤ R.length then S else S ++ [0]) (.int .i64 (if p ∈ R then 7 else if n ≤ R.length then 6 else 0)) W) := by
  have hc := h.tab.put P (cfR_ok hn hm) (h.rm.oks hm) hp (x := 5) ⟨by omega, by omega⟩
  rw [h.rm.swp] at hc
  refine hc.mono fun e W' ha => ?_
  by_cases h1 : p ∈ R
  · rw [if_pos h1, if_pos h1, if_pos h1]
    have ht := h.rm.twice h1
    rw [ht.1, ht.2] at ha
    exact ⟨ha.1, L, h.toRR.act ha, h.rm, ha.2.2⟩
  · rw [if_neg h1, if_neg h1, if_neg h1]
    by_cases h2 : n ≤ R.length
    · rw [if_pos h2, if_pos h2, if_pos h2]
      have ht := h.rm.full h1 h2
      rw [ht.1, ht.2] at ha
      exact ⟨ha.1, L, h.toRR.act ha, h.rm, ha.2.2⟩
    · rw [if_neg h2, if_neg h2, if_neg h2]
      have ht := h.rm.more h1 hp h2 hm.1
      rw [ht.1] at ha
      exact ⟨ha.1, _, h.toRR.act ha, ht.2, ha.2.2⟩
theorem RB.take_no (P : ProgB T) (h : RB T w g n m L R S vr vs F W) (hn : 1 ≤ n ∧ n ≤ 64) (hm : 1 ≤ m ∧ m ≤ 1073741824) (hp : p.Ok) (hy : i64 y) (h1 : p ∉ R) :
    Calls Try.prog 14 #[.pointer (some ⟨g, 0, none⟩), .agg p.cs.toArray, .int .i64 5, .int .i64 y] W (RAct T w g n m R S vr vs F R S (.bool false) W) := by
  have hc := h.tab.take P (cfR_ok hn hm) (h.rm.oks hm) hp (x := 5) ⟨by omega, by omega⟩ hy
  rw [h.rm.swp, (h.rm.none_take h1 y).1, (h.rm.none_take h1 y).2] at hc
  exact hc.mono fun e W' ha => ⟨ha.1, L, h.toRR.act ha, h.rm, ha.2.2⟩
theorem RB.take_ (P : ProgB T) (h : RB T w g n m L R S vr vs F W) (hn : 1 ≤ n ∧ n ≤ 64) (hm : 1 ≤ m ∧ m ≤ 1073741824) (hp : p.Ok) (hy : i64 y) (hi : R[i]? = some p) (ht : S[i]? = some t) :
    Calls Try.prog 14 #[.pointer (some ⟨g, 0, none⟩), .agg p.cs.toArray, .int .i64 5, .int .i64 y] W (RAct T w g n m R S vr vs F R (if 0 ≤ y ∧ y ≤ m - t then S.set i (t + y) else S) (.bool (decide (0 ≤ y ∧ y ≤ m - t))) W) := by
  have hc := h.tab.take P (cfR_ok hn hm) (h.rm.oks hm) hp (x := 5) ⟨by omega, by omega⟩ hy
  rw [h.rm.swp, (h.rm.some_take hm hi ht y).1] at hc
  exact hc.mono fun e W' ha => ⟨ha.1, _, h.toRR.act ha, (h.rm.some_take hm hi ht y).2, ha.2.2⟩
end
end Go.Proofs.Ytpjeeccgpnpokaa
