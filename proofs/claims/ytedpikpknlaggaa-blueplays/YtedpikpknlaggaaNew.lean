/- The contract of blue's New. Conditions: those of each theorem. -/
import Derived.Test.YtedpikpknlaggaaRest
import Derived.Test.YtedpikpknlaggaaUntil
import Derived.Deep.AppendLies
namespace Go.Proofs.Ytedpikpknlaggaa
open Go.RowKit

/-- append, its run known, in a region that draws. -/
theorem step_app {w w' : World} {ops : Array Oper} {o : Oper} {a : Act} {K : Act → World → Prop} {Q : Exit → Act → World → Prop} {E : Prop} (hw : Region.wanted o (yielded ops a.tmps) = true) (tt : TypeId) (s x : Operand)
    (ho : o.op = .call { callee := .builtin .append, args := #[s, x], argTypes := #[tt, tt] }) (S X V : Value) (hs : a.eval s = S) (hx : a.eval x = X) (hrun : (Builtin.append_ #[tt, tt] o.type #[S, X]).run Try.prog w = .ok V w')
    (hK : K (a.put o.dst V) w') : if Region.wanted o (yielded ops a.tmps) = true then Oper.wp Try.prog o a w K Q else E := by
  rw [if_pos hw]
  unfold Oper.wp
  simp [execOp, ho, resolve, invoke, builtin, hs, hx, hrun, Result.andThen]
  exact hK
theorem run_make_many {P : Program} (t e : TypeId) (z : Value) (cs : Array Value) (size bytes : Nat) (ht : P.underlying t = some (.slice e)) (hinfo : (P.info? e).map (fun i => (i.zero, i.size, i.bytes)) = some (some z, size, bytes)) (hz : z.cells = cs)
    (kl kc : IntKind) (n : Nat) (hbytes : bytes * n ≤ 281474976710656) (h63 : n ≤ 9223372036854775807) (w : World) :
    (Instr.makeSlice t (.int kl (n : Int)) (.int kc (n : Int))).run P w = .ok (.slice (some ⟨w.heap.size, 0, none⟩) n n) (w.alloc (.cells (madeCells cs (n * size)) e)) := by
  obtain ⟨i, hi, hzz⟩ := Option.map_eq_some_iff.1 hinfo
  simp only [Prod.mk.injEq] at hzz
  obtain ⟨hz0, hs, hb⟩ := hzz
  have hb' : (i.bytes : Int) * (n : Int) ≤ 281474976710656 := by
    have h : ((i.bytes * n : Nat) : Int) ≤ 281474976710656 := by rw [hb]; omega
    rwa [Int.natCast_mul] at h
  have hr := run_make (P := P) w t e i z ht hi hz0 kl kc n n (by omega) (Int.le_refl _) hb' (by omega)
  simp only [Int.toNat_natCast, hs, hz] at hr
  exact hr
theorem info54 : (Try.prog.info? 54).map (fun i => (i.zero, i.size, i.bytes)) = some (some (.slice none 0 0), 1, 24) := by kernel_rfl
theorem info60 : (Try.prog.info? 60).map (fun i => (i.zero, i.size, i.bytes)) = some (some (.agg #[.int .i64 0, .int .i64 0, .int .i64 0]), 3, 24) := by kernel_rfl
/-- Levels so far: k of them. -/
def heads (q : Nat → Nat) (m k : Nat) : List Value := (List.range k).map fun l => Value.slice (some ⟨q l, 0, none⟩) m m
theorem heads_congr {q q' : Nat → Nat} {m k : Nat} (h : ∀ l, l < k → q l = q' l) : heads q m k = heads q' m k := by
  unfold heads
  apply List.map_congr_left
  intro i hi
  rw [h i (List.mem_range.1 hi)]
theorem heads_snoc (q : Nat → Nat) (m k : Nat) : heads q m (k + 1) = heads q m k ++ [.slice (some ⟨q k, 0, none⟩) m m] := by simp [heads, List.range_succ]
structure Lev (w : World) (base : Nat) (v : Value) (q : Nat → Nat) (m k : Nat) : Prop where
  row : w.ownsRow base 54 1 v k (heads q m k)
  lev : ∀ l, l < k → base ≤ q l ∧ Blk w (q l) 60 (cel false (fun _ => bin0) m)
  inj : ∀ l l', l < k → l' < k → q l = q l' → l = l'
/-- Where New's loop stands. -/
def NewRel (g : Nat) (V : Blu) (w : World) (k : Nat) (W : World) : Prop :=
  ∃ v q, Blk W g 53 [v, .int .i64 (V.t : Nat), .int .i64 (V.h : Nat), .int .i64 (V.u : Nat), .int .i64 (V.d : Nat)] ∧ Lev W w.heap.size v q V.m k ∧ Below w.heap.size w W ∧ w.heap.size ≤ g
/-- What the append of one more leaves. -/
theorem Lev.more {w0 w w3 : World} {v v' : Value} {q : Nat → Nat} {m k : Nat} (h : Lev w w0.heap.size v q m k) (hb : w0.heap.size ≤ w.heap.size)
    (ho : w3.ownsRow w0.heap.size 54 1 v' (k + 1) (heads q m k ++ [.slice (some ⟨w.heap.size, 0, none⟩) m m]))
    (hg : (((w.drew.alloc (.cells (madeCells #[.int .i64 0, .int .i64 0, .int .i64 0] (m * 3)) 60)).alloc (.cells #[.slice (some ⟨w.heap.size, 0, none⟩) m m] 54))).grownBy w3 v.ownBlock) :
    ∃ q', Lev w3 w0.heap.size v' q' m (k + 1) := by
  have hq : ∀ l, l < k → q l < w.heap.size := fun l hl => (h.lev l hl).2.lt
  refine ⟨fun l => if l = k then w.heap.size else q l, ?_, fun l hl => ?_, fun l l' hl hl' e => ?_⟩
  · rw [heads_snoc, if_pos rfl, heads_congr (q' := q) (fun l hl => by rw [if_neg (by omega)])]
    exact ho
  · by_cases e : l = k
    · rw [if_pos e]
      refine ⟨hb, ?_⟩
      have hn := Blk.new w.drew 60 (cel false (fun _ => bin0) m)
      rw [← cel_zero] at hn
      have hn2 : Blk ((w.drew.alloc (.cells (madeCells #[.int .i64 0, .int .i64 0, .int .i64 0] (m * 3)) 60)).alloc (.cells #[.slice (some ⟨w.heap.size, 0, none⟩) m m] 54)) w.heap.size 60 (madeCells #[Value.int .i64 0, .int .i64 0, .int .i64 0] (m * 3)).toList := hn.alloc _
      rw [← cel_zero]
      refine hn2.grown hg (fun e => ?_)
      have hlt := h.row.lt w.heap.size e
      exact absurd hlt.2 (Nat.lt_irrefl _)
    · rw [if_neg e]
      obtain ⟨h1, h2⟩ := h.lev l (by omega)
      refine ⟨h1, (((show Blk w.drew (q l) 60 _ from h2).alloc _).alloc _).grown hg (h2.row_apart h.row (by decide))⟩
  · by_cases e1 : l = k
    · by_cases e2 : l' = k
      · omega
      · rw [if_pos e1, if_neg e2] at e
        have := hq l' (by omega)
        omega
    · by_cases e2 : l' = k
      · rw [if_neg e1, if_pos e2] at e
        have := hq l (by omega)
        omega
      · rw [if_neg e1, if_neg e2] at e
        exact h.inj l l' (by omega) (by omega) e
theorem Lev.far {w w' : World} {base : Nat} {v : Value} {q : Nat → Nat} {m k g : Nat} {t : TypeId} {cs : List Value} (h : Lev w base v q m k) (hb : Blk w g t cs) (h54 : t ≠ 54) (h60 : t ≠ 60) (hf : Far (only g) w w') : Lev w' base v q m k :=
  ⟨hf.row h.row (fun i e e' => hb.row_apart h.row h54 (by have : i = g := e'; rw [e, this])), fun l hl => ⟨(h.lev l hl).1, (h.lev l hl).2.far hf (fun e => hb.apart (h.lev l hl).2 h60 (Eq.symm e))⟩, h.inj⟩
/-- The new one as it is. -/
theorem Lev.blue {w : World} {base g : Nat} {v : Value} {q : Nat → Nat} {V : Blu} (h : Lev w base v q V.m V.n) (hV : V.Ok) (hz : V.B = fun _ _ => bin0) (hb : Blk w g 53 [v, .int .i64 (V.t : Nat), .int .i64 (V.h : Nat), .int .i64 (V.u : Nat), .int .i64 (V.d : Nat)]) :
    ∃ s, base ≤ s ∧ BAt w g s q V ∧ ∀ l, l < V.n → base ≤ q l := by
  have hn := hV.n1
  rcases h.row.2 with ⟨_, h0⟩ | ⟨s, cap, cur, rfl, hs, hg, _, _, _, ht⟩
  · omega
  · refine ⟨s, hs, ⟨⟨cap, hb⟩, ⟨cur.toList, by simpa [Blk] using hg, fun l hl => ?_⟩, fun l hl => ?_, h.inj, hV⟩, fun l hl => (h.lev l hl).1⟩
    · have h1 : (heads q V.m V.n)[l]? = some (.slice (some ⟨q l, 0, none⟩) V.m V.m) := by simp [heads, hl]
      rw [← ht, List.getElem?_take, Nat.mul_one, if_pos hl] at h1
      exact h1
    · rw [hz]
      exact (h.lev l hl).2
/-- What New answers. -/
def NewOut (V : Blu) (w : World) (e : Ending) (w' : World) : Prop :=
  ∃ g s q, e = .returned (.tuple #[.pointer (some ⟨g, 0, none⟩), .int .i64 0]) ∧ BAt w' g s q V ∧ (w.heap.size ≤ g ∧ w.heap.size ≤ s ∧ ∀ l, l < V.n → w.heap.size ≤ q l) ∧ Below w.heap.size w w'
theorem NewRel.out {g : Nat} {V : Blu} {w W : World} (h : NewRel g V w V.n W) (hV : V.Ok) (hz : V.B = fun _ _ => bin0) : NewOut V w (.returned (.tuple #[.pointer (some ⟨g, 0, none⟩), .int .i64 0])) W := by
  obtain ⟨v, q, h1, h2, h3, h4⟩ := h
  obtain ⟨s, h5, h6, h7⟩ := h2.blue hV hz h1
  exact ⟨g, s, q, rfl, h6, ⟨h4, h5, h7⟩, h3⟩
abbrev lev0 (m : Nat) : Obj := .cells (madeCells #[.int .i64 0, .int .i64 0, .int .i64 0] (m * 3)) 60
set_option maxHeartbeats 2000000 in
theorem new_ (n m t hh u d : Nat) (w : World) (n1 : 1 ≤ n) (n2 : n ≤ 4) (m1 : 1 ≤ m) (m2 : m ≤ 64) (ht : t ≤ 1073741824) (hh2 : hh ≤ 4611686018427387903) (hu : u ≤ 65536) (hdd : d ≤ 65536) :
    Calls Try.prog 9 #[.int .i64 (n : Nat), .int .i64 (m : Nat), .int .i64 (t : Nat), .int .i64 (hh : Nat), .int .i64 (u : Nat), .int .i64 (d : Nat)] w (NewOut ⟨n, m, t, hh, u, d, fun _ _ => bin0⟩ w) := by
  have hV : (⟨n, m, t, hh, u, d, fun _ _ => bin0⟩ : Blu).Ok := ⟨n1, n2, m1, m2, ht, hh2, hu, hdd, fun _ _ => bin0_ok⟩
  have HE := Lib.hid (fun g W (h : NewRel g ⟨n, m, t, hh, u, d, fun _ _ => bin0⟩ w n W) => h.out hV rfl)
  have H0 : Hid (NewRel w.heap.size ⟨n, m, t, hh, u, d, fun _ _ => bin0⟩ w 0 (w.alloc (.cells #[.slice none 0 0, .int .i64 (t : Nat), .int .i64 (hh : Nat), .int .i64 (u : Nat), .int .i64 (d : Nat)] 53))) :=
    ⟨.slice none 0 0, fun _ => 0, Blk.new w 53 _, ⟨World.ownsRow_nil _ _ _ _, fun l hl => absurd hl (by omega), fun l _ hl => absurd hl (by omega)⟩, (Below.refl _ w).alloc (Nat.le_refl _) _, Nat.le_refl _⟩
  have hmk := fun W => run_make_many (P := Try.prog) 54 60 (.agg #[.int .i64 0, .int .i64 0, .int .i64 0]) #[.int .i64 0, .int .i64 0, .int .i64 0] 3 24 Try.underlying54 info60 rfl .i64 .i64 m (by omega) (by omega) W
  have HM : Hid (may t u d = true) := by show _ = _; simp [may, isz, ist]; omega
  have b1 : decide ((n : Int) < 1) = false := by simp; omega
  have b2 : decide (4 < (n : Int)) = false := by simp; omega
  have b3 : decide ((m : Int) < 1) = false := by simp; omega
  have b4 : decide (64 < (m : Int)) = false := by simp; omega
  have b5 : decide ((hh : Int) < 0) = false := by simp
  have b6 : decide (4611686018427387903 < (hh : Int)) = false := by simp; omega
  clear hV
  go_enter Try.func9, Try.ntmps9
  go_wp2_with (go_at_call 25; (with_reducible refine (mayBe_ _ _ _ _).mono ?_); rintro e w' ⟨rfl, rfl⟩; rw [HM.out])
  clear b1 b2 b3 b4 b5 b6 HM
  go_loopw [49] (fun i w' => ∃ k : Nat, k ≤ n ∧ i = .int .i64 k ∧ NewRel w.heap.size ⟨n, m, t, hh, u, d, fun _ _ => bin0⟩ w k w') (fun i _ => n - (intOf i).toNat)
  case atStart => exact ⟨0, by omega, rfl, H0.out⟩
  case round =>
    clear H0
    obtain ⟨k, hk, rfl, hr⟩ := hrel
    by_cases hlt : k < n
    · have hd : decide ((k : Int) < (n : Int)) = true := by simp; omega
      obtain ⟨v, q, r1, r2, r3, r4⟩ := hr
      have R1 := Lib.hid r1
      have R2 := Lib.hid r2
      have R3 := Lib.hid r3
      clear r1 r2 r3 r4
      go_upto_region 8 with fail
      refine til_begin (fun W => Blk W w.heap.size 53 [v, .int .i64 (t : Nat), .int .i64 (hh : Nat), .int .i64 (u : Nat), .int .i64 (d : Nat)]) 9 (by kernel_rfl) ?_
      have D0 := Lib.hid ((R1.out : Blk wr.drew w.heap.size 53 [v, .int .i64 (t : Nat), .int .i64 (hh : Nat), .int .i64 (u : Nat), .int .i64 (d : Nat)]))
      refine til_take (i := 0) (oi := ⟨some 51, _, _, _, _, _⟩) (v := ?_) rfl (by kernel_rfl) (by kernel_rfl) (by kernel_rfl) (by decide) (by kernel_rfl) (by kernel_rfl) (fun _ _ _ h => h) (Or.inl ⟨by rfl, ?_⟩) D0.out ?_
      rotate_left
      · (intro W hSW; clear hSW; go_simp)
        first | done | (with_reducible rfl)
      try simp only [Act.put, List.setIfInBounds_toArray, List.set_cons_zero, List.set_cons_succ]
      refine til_take (i := 1) (oi := ⟨some 52, _, _, _, _, _⟩) (v := ?_) rfl (by kernel_rfl) (by kernel_rfl) (by kernel_rfl) (by decide) (by kernel_rfl) (by kernel_rfl) (fun _ _ _ h => h) (Or.inl ⟨by rfl, ?_⟩) D0.out ?_
      rotate_left
      · (intro W hSW; clear hSW; go_simp)
        first | done | (with_reducible rfl)
      try simp only [Act.put, List.setIfInBounds_toArray, List.set_cons_zero, List.set_cons_succ]
      refine til_take (i := 2) (oi := ⟨some 53, _, _, _, _, _⟩) (v := ?_) rfl (by kernel_rfl) (by kernel_rfl) (by kernel_rfl) (by decide) (by kernel_rfl) (by kernel_rfl) (fun _ _ _ h => h) (Or.inl ⟨by rfl, ?_⟩) D0.out ?_
      rotate_left
      · (intro W hSW; clear hSW; go_simp)
        first | done | (with_reducible rfl)
      try simp only [Act.put, List.setIfInBounds_toArray, List.set_cons_zero, List.set_cons_succ]
      refine til_take (i := 3) (oi := ⟨some 54, _, _, _, _, _⟩) (v := ?_) rfl (by kernel_rfl) (by kernel_rfl) (by kernel_rfl) (by decide) (by kernel_rfl) (by kernel_rfl) (fun _ _ _ h => h) (Or.inl ⟨by rfl, ?_⟩) D0.out ?_
      rotate_left
      · (intro W hSW; clear hSW; go_simp)
        first | done | (with_reducible rfl)
      try simp only [Act.put, List.setIfInBounds_toArray, List.set_cons_zero, List.set_cons_succ]
      refine til_take (i := 4) (oi := ⟨some 55, _, _, _, _, _⟩) (v := v) rfl (by kernel_rfl) (by kernel_rfl) (by kernel_rfl) (by decide) (by kernel_rfl) (by kernel_rfl) (fun _ _ _ h => h) (Or.inl ⟨by rfl, ?_⟩) D0.out ?_
      · (intro W hSW; have c0 := hSW.cell 0; clear hSW; go_simp)
      try simp only [Act.put, List.setIfInBounds_toArray, List.set_cons_zero, List.set_cons_succ]
      refine til_take (i := 5) (oi := ⟨some 56, _, _, _, _, _⟩) (v := ?_) rfl (by kernel_rfl) (by kernel_rfl) (by kernel_rfl) (by decide) (by kernel_rfl) (by kernel_rfl) (fun _ _ _ h => h) (Or.inl ⟨by rfl, ?_⟩) D0.out ?_
      rotate_left
      · (intro W hSW; clear hSW; go_simp)
        first | done | (with_reducible rfl)
      try simp only [Act.put, List.setIfInBounds_toArray, List.set_cons_zero, List.set_cons_succ]
      refine til_one (i := 6) (o := ⟨some 57, _, _, _, _, _⟩) (by kernel_rfl) rfl (fun K hK => ?_)
      go_simp
      refine hK.out _ _ (fun _ => (R1.out.drew).alloc _) ?_
      clear hK K
      try simp only [Act.put, List.setIfInBounds_toArray, List.set_cons_zero, List.set_cons_succ]
      have Y2 : Hid (Below wr.heap.size wr ((wr.drew.alloc (lev0 m)).alloc (.cells #[.slice (some ⟨wr.heap.size, 0, none⟩) m m] 54))) := ((Below.refl _ wr).drew.alloc (Nat.le_refl _) _).alloc (by simp) _
      have K2 := Lib.hid (R1.out.below Y2.out)
      refine til_one (i := 7) (o := ⟨some 58, _, _, _, _, _⟩) (by kernel_rfl) rfl (fun K hK => ?_)
      go_simp
      refine hK.out _ _ (fun _ => K2.out) ?_
      clear hK K
      obtain ⟨v', w3, hrun, o3, g3, _⟩ := run_append_vals (P := Try.prog) ((wr.drew.alloc (lev0 m)).alloc (.cells #[.slice (some ⟨wr.heap.size, 0, none⟩) m m] 54)) w.heap.size 51 51 54 (.slice none 0 0) 24 Try.underlying51 info54 rfl v k (heads q m k) ((R2.out.row.alloc _).alloc _) (some ⟨wr.heap.size + 1, 0, none⟩) 1 1 [.slice (some ⟨wr.heap.size, 0, none⟩) m m] (by have := Vals.of_blk (n := 1) (Blk.new (wr.drew.alloc (lev0 m)) 54 [.slice (some ⟨wr.heap.size, 0, none⟩) m m]) rfl; simpa using this) (by intro x hx; simp at hx; subst hx; rfl) (by omega) (by omega) (Nat.le_trans R3.out.size Y2.out.size)
      obtain ⟨gv, cv, hv', _, _⟩ := World.ownsRow.form o3 (by omega)
      have O3 := Lib.hid o3
      have G3 := Lib.hid g3
      have K3 := Lib.hid (K2.out.grown g3 (R1.out.row_apart R2.out.row (by decide)))
      clear o3 g3
      try simp only [Act.put, List.setIfInBounds_toArray, List.set_cons_zero, List.set_cons_succ]
      refine til_one (i := 8) (o := ⟨some 59, _, _, _, _, _⟩) (by kernel_rfl) rfl (fun K hK => ?_)
      refine step_app (by rfl) 51 (.tmp 55) (.tmp 58) (by rfl) _ _ _ (by rfl) (by rfl) hrun ?_
      refine hK.out _ _ (fun _ => K3.out) ?_
      clear hK K
      subst hv'
      clear hrun
      have c5 := K3.out.cell 0
      have f5 := K3.out.frozen 0
      try simp only [Act.put, List.setIfInBounds_toArray, List.set_cons_zero, List.set_cons_succ]
      refine til_one (i := 9) (o := ⟨some 60, _, _, _, _, _⟩) (by kernel_rfl) rfl (fun K hK => ?_)
      go_simp
      refine hK.out _ _ (past (by kernel_rfl)) ?_
      clear hK K
      try simp only [Act.put, List.setIfInBounds_toArray, List.set_cons_zero, List.set_cons_succ]
      refine til_one (i := 10) (o := ⟨some 61, _, _, _, _, _⟩) (by kernel_rfl) rfl (fun K hK => ?_)
      go_simp
      refine hK.out _ _ (past (by kernel_rfl)) ?_
      clear hK K
      try simp only [Act.put, List.setIfInBounds_toArray, List.set_cons_zero, List.set_cons_succ]
      refine til_one (i := 11) (o := ⟨none, _, _, _, _, _⟩) (by kernel_rfl) rfl (fun K hK => ?_)
      go_simp
      refine hK.out _ _ (past (by kernel_rfl)) ?_
      clear hK K
      try simp only [Act.put]
      refine til_done (by kernel_rfl) ?_ _
      have F4 : Hid (Far (only w.heap.size) w3 (w3.setCell ⟨w.heap.size, 0, none⟩ (.slice (some ⟨gv, 0, none⟩) (k + 1) cv))) := (Far.refl (only w.heap.size) _).set_ (p := ⟨w.heap.size, 0, none⟩) (fun _ => rfl) _
      have K4 := Lib.hid (K3.out.set_ 0 (.slice (some ⟨gv, 0, none⟩) (k + 1) cv))
      have X4 : Hid (NewRel w.heap.size ⟨n, m, t, hh, u, d, fun _ _ => bin0⟩ w (k + 1) (w3.setCell ⟨w.heap.size, 0, none⟩ (.slice (some ⟨gv, 0, none⟩) (k + 1) cv))) := by
        obtain ⟨q', hq⟩ := R2.out.more R3.out.size O3.out G3.out
        have hB3 : Below w.heap.size w w3 := (R3.out.trans (Y2.out.mono R3.out.size)).grown G3.out (Nat.le_trans R3.out.size Y2.out.size) (fun i e => (R2.out.row.lt i e).1)
        exact ⟨_, q', by simpa using K4.out, hq.far K3.out (by decide) (by decide) F4.out, hB3.setCell (Nat.le_refl _) _, Nat.le_refl _⟩
      clear c5 f5 F4 K4 K3 K2 O3 G3 R1 R2 R3 Y2
      generalize (w3.setCell ⟨w.heap.size, 0, none⟩ (.slice (some ⟨gv, 0, none⟩) (k + 1) cv)) = x4 at *
      go_wp2_with fail
      go_roundw
      case rel => exact ⟨k + 1, by omega, by go_num, X4.out⟩
      case measure => simp [intOf]; omega
    · obtain rfl : k = n := by omega
      have HR := Lib.hid (HE.out _ _ hr)
      clear hr
      have hd : decide ((k : Int) < (k : Int)) = false := by simp
      go_wp2_with fail
      go_ret2
      exact HR.out
end Go.Proofs.Ytedpikpknlaggaa
