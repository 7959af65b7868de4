/- The contracts of package window but Add. Conditions: those of each theorem. -/
import Derived.Test.YteeobeeoefokdaaAwake
namespace Go.Proofs.Yteeobeeoefokdaa
open Go.RowKit

/-- A window, as the document has it. -/
structure Wn where
  ns : Int
  th : Int
  no : Int
  T : Int
  M : Nat
  L : List Slo
/-- The time that is nearest to a moment. -/
def tm (now : Int) : Int := min (max now 0) 4611686018427387903
theorem tm_bd (now : Int) : 0 ≤ tm now ∧ tm now ≤ 4611686018427387903 := by unfold tm; omega
def may (a : Int) : Bool := decide (1 ≤ a) && decide (a ≤ 4611686018427387903)
theorem may_true {a : Int} (h1 : 1 ≤ a) (h2 : a ≤ 4611686018427387903) : may a = true := by simp [may, h1, h2]
theorem may_false {a : Int} (h : a < 1 ∨ 4611686018427387903 < a) : may a = false := by unfold may; rcases h with h | h <;> simp <;> omega
def Wn.rch (W : Wn) (k : Int) : Wn := if W.no < k then ⟨W.ns, W.th, k, 0, W.M, []⟩ else W
def Wn.cnt (W : Wn) (p : Pre) (n : Int) : Wn := ⟨W.ns, W.th, W.no, addK W.T n, W.M, stp W.M W.L p n⟩
/-- Whether p is heavy behind a counting of n for it. -/
def Wn.hvy (W : Wn) (p : Pre) (n : Int) : Bool := decide (W.th ≤ (at_ (stp W.M W.L p n) (pos W.M W.L p)).c - (at_ (stp W.M W.L p n) (pos W.M W.L p)).e)
structure Wn.Ok (W : Wn) : Prop where
  ns : 1 ≤ W.ns ∧ W.ns ≤ 4611686018427387903
  th : 1 ≤ W.th ∧ W.th ≤ 4611686018427387903
  no : 0 ≤ W.no ∧ W.no ≤ 4611686018427387903
def Wn.to (W : Wn) (now : Int) : Wn := W.rch (tm now / W.ns)
theorem Wn.Ok.rch {W : Wn} (h : W.Ok) {k : Int} (h1 : k ≤ 4611686018427387903) : (W.rch k).Ok := by
  unfold Wn.rch
  have := h.no
  split
  · rename_i hk
    exact ⟨h.ns, h.th, (by show 0 ≤ k; omega), h1⟩
  · exact h
theorem Wn.Ok.cnt {W : Wn} (h : W.Ok) (p : Pre) (n : Int) : (W.cnt p n).Ok := ⟨h.ns, h.th, h.no⟩

abbrev wcs (W : Wn) (s : Nat) : List Value := [.int .i64 W.ns, .int .i64 W.th, .int .i64 W.no, .pointer (some ⟨s, 0, none⟩)]
/-- A window at block g, its sketch at s, the slots in q. -/
def WAt (w : World) (g s q : Nat) (W : Wn) : Prop := Blk w g 59 (wcs W s) ∧ SAt w s q W.M W.L W.T ∧ (g ≠ s ∧ g ≠ q) ∧ W.Ok
def tri (g s q : Nat) : Nat → Prop := fun k => k = g ∨ k = s ∨ k = q
section
variable {w w' : World} {g s q : Nat} {W : Wn}
theorem WAt.far {S : Nat → Prop} (h : WAt w g s q W) (hf : Far S w w') (h1 : ¬ S g) (h2 : ¬ S s) (h3 : ¬ S q) : WAt w' g s q W := ⟨h.1.far hf h1, h.2.1.far hf h2 h3, h.2.2⟩
theorem WAt.below (h : WAt w g s q W) (hb : Below w.heap.size w w') : WAt w' g s q W := h.far (Far.of_below hb nobody) (fun e => e) (fun e => e) (fun e => e)
theorem WAt.drew (h : WAt w g s q W) : WAt w.drew g s q W := h
theorem WAt.drewN (h : WAt w g s q W) (n : Nat) : WAt (w.drewN n) g s q W := h
theorem WAt.sk (h : WAt w g s q W) : SAt w s q W.M W.L W.T := h.2.1
theorem WAt.ok (h : WAt w g s q W) : W.Ok := h.2.2.2
theorem WAt.lt (h : WAt w g s q W) : g < w.heap.size ∧ s < w.heap.size ∧ q < w.heap.size := ⟨h.1.lt, h.2.1.lt⟩
theorem WAt.cells (h : WAt w g s q W) : w.cell? ⟨g, 0, none⟩ = some (.int .i64 W.ns) ∧ w.cell? ⟨g, 1, none⟩ = some (.int .i64 W.th) ∧ w.cell? ⟨g, 2, none⟩ = some (.int .i64 W.no) ∧ w.cell? ⟨g, 3, none⟩ = some (.pointer (some ⟨s, 0, none⟩)) ∧ w.frozen? ⟨g, 1, none⟩ = false ∧ w.frozen? ⟨g, 2, none⟩ = false :=
  ⟨h.1.cell 0, h.1.cell 1, h.1.cell 2, h.1.cell 3, h.1.frozen 1, h.1.frozen 2⟩
theorem WAt.tune (h : WAt w g s q W) {t : Int} (h1 : 1 ≤ t) (h2 : t ≤ 4611686018427387903) : WAt (w.setCell ⟨g, 1, none⟩ (.int .i64 t)) g s q { W with th := t } := by
  refine ⟨?_, h.2.1.far (S := only g) ((Far.refl (only g) w).set_ (p := ⟨g, 1, none⟩) (fun _ => rfl) _) (fun e => h.2.2.1.1 (Eq.symm e)) (fun e => h.2.2.1.2 (Eq.symm e)), h.2.2.1, h.ok.ns, ⟨h1, h2⟩, h.ok.no⟩
  simpa using h.1.set_ 1 (.int .i64 t)
theorem WAt.num (h : WAt w g s q W) {k : Int} (h1 : 0 ≤ k) (h2 : k ≤ 4611686018427387903) : WAt (w.setCell ⟨g, 2, none⟩ (.int .i64 k)) g s q { W with no := k } := by
  refine ⟨?_, h.2.1.far (S := only g) ((Far.refl (only g) w).set_ (p := ⟨g, 2, none⟩) (fun _ => rfl) _) (fun e => h.2.2.1.1 (Eq.symm e)) (fun e => h.2.2.1.2 (Eq.symm e)), h.2.2.1, h.ok.ns, h.ok.th, ⟨h1, h2⟩⟩
  simpa using h.1.set_ 2 (.int .i64 k)
theorem WAt.sk_ (h : WAt w g s q W) {L : List Slo} {T : Int} (hs : SAt w' s q W.M L T) (hf : Far (two s q) w w') : WAt w' g s q { W with L := L, T := T } :=
  ⟨h.1.far hf (fun e => by rcases e with e | e; exact h.2.2.1.1 e; exact h.2.2.1.2 e), hs, h.2.2.1, h.ok.ns, h.ok.th, h.ok.no⟩
end

set_option maxHeartbeats 400000 in
theorem mayBe_ (a : Int) (w : World) : Calls Try.prog 17 #[.int .i64 a] w fun e w' => e = .returned (.bool (may a)) ∧ w = w' := by
  unfold may
  by_cases h : 1 ≤ a
  · have e : decide (1 ≤ a) = true := by simpa using h
    rw [e]
    go_enter Try.func17, Try.ntmps17
    go_wp2
    go_ret
    exact ⟨rfl, rfl⟩
  · have e : decide (1 ≤ a) = false := by simpa using h
    rw [e]
    go_enter Try.func17, Try.ntmps17
    go_wp2
    go_ret
    exact ⟨rfl, rfl⟩
set_option maxHeartbeats 400000 in
theorem asTime_ (a : Int) (w : World) : Calls Try.prog 19 #[.int .i64 a] w fun e w' => e = .returned (.int .i64 (tm a)) ∧ w = w' := by
  unfold tm
  go_enter Try.func19, Try.ntmps19
  go_wp2
  go_ret
  exact ⟨rfl, rfl⟩
set_option maxHeartbeats 400000 in
theorem number_nil (w : World) : Calls Try.prog 11 #[.pointer none] w fun e w' => e = .returned (.int .i64 0) ∧ w = w' := by
  go_enter Try.func11, Try.ntmps11
  go_wp2
  go_ret
  exact ⟨rfl, rfl⟩
set_option maxHeartbeats 400000 in
theorem number_ (g s q : Nat) (W : Wn) (w : World) (h : WAt w g s q W) : Calls Try.prog 11 #[.pointer (some ⟨g, 0, none⟩)] w fun e w' => e = .returned (.int .i64 W.no) ∧ w = w' := by
  obtain ⟨_, _, c2, _, _⟩ := h.cells
  clear h
  go_enter Try.func11, Try.ntmps11
  go_wp2
  go_ret
  exact ⟨rfl, rfl⟩
set_option maxHeartbeats 400000 in
theorem wslots_nil (w : World) : Calls Try.prog 10 #[.pointer none] w (RowOut w []) := by
  go_enter Try.func10, Try.ntmps10
  go_wp2
  go_ret
  exact ⟨none, 0, rfl, Below.refl _ _, .inl ⟨rfl, rfl⟩⟩
set_option maxHeartbeats 400000 in
theorem wslots_ (g s q : Nat) (W : Wn) (w : World) (h : WAt w g s q W) : Calls Try.prog 10 #[.pointer (some ⟨g, 0, none⟩)] w (RowOut w W.L) := by
  obtain ⟨_, _, _, c3, _⟩ := h.cells
  have HS := Lib.hid (slots_ s q W.M W.L W.T w h.sk)
  clear h
  go_enter Try.func10, Try.ntmps10
  go_wp2_with (go_at_call 21; (with_reducible refine HS.out.mono ?_); rintro e w2 ⟨A, c, rfl, hb, hr⟩; have HB := Lib.hid hb; have HR := Lib.hid hr; clear hb hr)
  go_ret
  exact ⟨A, c, rfl, HB.out, HR.out⟩
set_option maxHeartbeats 400000 in
theorem tune_nil (t : Int) (w : World) : Calls Try.prog 12 #[.pointer none, .int .i64 t] w fun e w' => e = .returned (.bool false) ∧ w = w' := by
  go_enter Try.func12, Try.ntmps12
  go_wp2
  go_ret
  exact ⟨rfl, rfl⟩
set_option maxHeartbeats 400000 in
theorem tune_no (g : Nat) (t : Int) (w : World) (h : may t = false) : Calls Try.prog 12 #[.pointer (some ⟨g, 0, none⟩), .int .i64 t] w fun e w' => e = .returned (.bool false) ∧ w = w' := by
  have HM := Lib.hid (mayBe_ t w)
  rw [h] at HM
  clear h
  go_enter Try.func12, Try.ntmps12
  go_wp2_with (go_at_call 17; (with_reducible refine HM.out.mono ?_); rintro e w2 ⟨rfl, rfl⟩)
  go_ret
  exact ⟨rfl, rfl⟩
set_option maxHeartbeats 400000 in
theorem tune_yes (g s q : Nat) (W : Wn) (t : Int) (w : World) (hw : WAt w g s q W) (h1 : 1 ≤ t) (h2 : t ≤ 4611686018427387903) :
    Calls Try.prog 12 #[.pointer (some ⟨g, 0, none⟩), .int .i64 t] w fun e w' => e = .returned (.bool true) ∧ WAt w' g s q { W with th := t } ∧ Far (tri g s q) w w' := by
  have HM := Lib.hid (mayBe_ t w)
  rw [may_true h1 h2] at HM
  have HT := Lib.hid (hw.tune h1 h2)
  obtain ⟨_, c1, _, _, f1, _⟩ := hw.cells
  have HF : Hid (Far (tri g s q) w (w.setCell ⟨g, 1, none⟩ (.int .i64 t))) := (Far.refl _ w).set_ (p := ⟨g, 1, none⟩) (fun _ => .inl rfl) _
  clear hw h1 h2
  go_enter Try.func12, Try.ntmps12
  go_wp2_with (go_at_call 17; (with_reducible refine HM.out.mono ?_); rintro e w2 ⟨rfl, rfl⟩)
  go_ret
  exact ⟨rfl, HT.out, HF.out⟩
set_option maxHeartbeats 400000 in
theorem reach_ (g s q : Nat) (W : Wn) (k : Int) (w : World) (h : WAt w g s q W) (h1 : k ≤ 4611686018427387903) :
    Calls Try.prog 18 #[.pointer (some ⟨g, 0, none⟩), .int .i64 k] w fun e w' => e = .returned (.tuple #[]) ∧ WAt w' g s q (W.rch k) ∧ Far (tri g s q) w w' := by
  obtain ⟨_, _, c2, c3, _, f2⟩ := h.cells
  have ho := h.ok.no
  unfold Wn.rch
  by_cases hk : W.no < k
  · rw [if_pos hk]
    have d : decide (k ≤ W.no) = false := by simp; omega
    have hn := h.num (k := k) (by omega) h1
    have F1 : Hid (Far (tri g s q) w (w.setCell ⟨g, 2, none⟩ (.int .i64 k))) := (Far.refl _ w).set_ (p := ⟨g, 2, none⟩) (fun _ => .inl rfl) _
    have H1 := Lib.hid hn
    have HR := Lib.hid (reset_ s q _ _ _ _ hn.sk)
    have d3 := hn.cells.2.2.2.1
    clear h hn hk h1 ho
    go_enter Try.func18, Try.ntmps18
    go_wp2_with (go_at_call 23; (with_reducible refine HR.out.mono ?_); rintro e w2 ⟨rfl, hs, hf⟩; have HS := Lib.hid hs; have HF := Lib.hid hf; clear hs hf)
    go_end0
    exact ⟨rfl, H1.out.sk_ HS.out HF.out, F1.out.trans HF.out (fun i _ e => .inr e)⟩
  · rw [if_neg hk]
    have d : decide (k ≤ W.no) = true := by simp; omega
    have H1 := Lib.hid h
    clear h hk h1 ho
    go_enter Try.func18, Try.ntmps18
    go_wp2
    refine bodyPost_ret (results_none rfl _ _ _) rfl ?_
    exact ⟨rfl, H1.out, Far.refl _ _⟩

/-- What New answers. -/
def WNewOut (ns th : Int) (M : Nat) (w : World) (e : Ending) (w' : World) : Prop := ∃ g s q, e = .returned (.tuple #[.pointer (some ⟨g, 0, none⟩), .int .i64 0]) ∧ WAt w' g s q ⟨ns, th, 0, 0, M, []⟩ ∧ (w.heap.size ≤ g ∧ w.heap.size ≤ s ∧ w.heap.size ≤ q) ∧ Below w.heap.size w w'
set_option maxHeartbeats 400000 in
theorem wnew_bad (x ns th : Int) (w : World) (h : (x < 1 ∨ 64 < x) ∨ ((1 ≤ x ∧ x ≤ 64) ∧ (may ns = false ∨ may ns = true ∧ may th = false))) : Calls Try.prog 8 #[.int .i64 x, .int .i64 ns, .int .i64 th] w fun e w' => e = .returned (.tuple #[.pointer none, .int .i64 1]) ∧ Below w.heap.size w w' := by
  rcases h with h | ⟨⟨h1, h2⟩, h⟩
  · have HN := Lib.hid (new_bad x w h)
    clear h
    go_enter Try.func8, Try.ntmps8
    go_wp2_with (go_at_call 16; (with_reducible refine HN.out.mono ?_); rintro e w2 ⟨rfl, rfl⟩)
    go_ret2
    exact ⟨rfl, Below.refl _ _⟩
  · obtain ⟨M, rfl⟩ : ∃ M : Nat, x = M := ⟨x.toNat, by omega⟩
    have HN := Lib.hid (new_ M w (by omega) (by omega))
    clear h1 h2
    have HM := Lib.hid fun W => mayBe_ ns W
    have HM2 := Lib.hid fun W => mayBe_ th W
    rcases h with h | ⟨h, h3⟩
    · rw [h] at HM
      clear HM2 h
      go_enter Try.func8, Try.ntmps8
      go_wp2_with (first | (go_at_call 16; (with_reducible refine HN.out.mono ?_); rintro e w2 ⟨g, q, rfl, _, _, _, hb⟩; have HB := Lib.hid hb; clear hb) | (go_at_call 17; (with_reducible refine (HM.out _).mono ?_); rintro e w3 ⟨rfl, rfl⟩))
      go_ret2
      exact ⟨rfl, HB.out⟩
    · rw [h] at HM
      rw [h3] at HM2
      clear h h3
      go_enter Try.func8, Try.ntmps8
      go_wp2_with (first | (go_at_call 16; (with_reducible refine HN.out.mono ?_); rintro e w2 ⟨g, q, rfl, _, _, _, hb⟩; have HB := Lib.hid hb; clear hb) | (go_at_call 17; (with_reducible refine (HM.out _).mono ?_); rintro e w3 ⟨rfl, rfl⟩) | (go_at_call 17; (with_reducible refine (HM2.out _).mono ?_); rintro e w3 ⟨rfl, rfl⟩))
      go_ret2
      exact ⟨rfl, HB.out⟩
set_option maxHeartbeats 400000 in
theorem wnew_ (M : Nat) (x ns th : Int) (w : World) (hx : x = M) (h1 : 1 ≤ M) (h2 : M ≤ 64) (h3 : 1 ≤ ns ∧ ns ≤ 4611686018427387903) (h4 : 1 ≤ th ∧ th ≤ 4611686018427387903) : Calls Try.prog 8 #[.int .i64 x, .int .i64 ns, .int .i64 th] w (WNewOut ns th M w) := by
  subst hx
  have HN := Lib.hid (new_ M w (by omega) (by omega))
  have HM := Lib.hid fun W => mayBe_ ns W
  have HM2 := Lib.hid fun W => mayBe_ th W
  rw [may_true h3.1 h3.2] at HM
  rw [may_true h4.1 h4.2] at HM2
  have H3 := Lib.hid h3
  have H4 := Lib.hid h4
  clear h1 h2 h3 h4
  go_enter Try.func8, Try.ntmps8
  go_wp2_with (first | (go_at_call 16; (with_reducible refine HN.out.mono ?_); rintro e w2 ⟨g, q, rfl, hs, hg, hq, hb⟩; have HS := Lib.hid hs; have HG := Lib.hid (And.intro hg hq); have HB := Lib.hid hb; clear hs hg hq hb) | (go_at_call 17; (with_reducible refine (HM.out _).mono ?_); rintro e w3 ⟨rfl, rfl⟩) | (go_at_call 17; (with_reducible refine (HM2.out _).mono ?_); rintro e w3 ⟨rfl, rfl⟩))
  go_ret2
  have hl := HS.out.lt
  refine ⟨w2.heap.size, g, q, by rfl, ⟨Blk.new w2 59 [.int .i64 ns, .int .i64 th, .int .i64 0, .pointer (some ⟨g, 0, none⟩)], HS.out.below ((Below.refl _ w2).alloc (Nat.le_refl _) _), ⟨by omega, by omega⟩, H3.out, H4.out, (by decide : (0 : Int) ≤ 0 ∧ (0 : Int) ≤ 4611686018427387903)⟩, ⟨HB.out.size, HG.out⟩, HB.out.alloc HB.out.size _⟩
end Go.Proofs.Yteeobeeoefokdaa
