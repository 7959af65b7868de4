/- The walk of the law SketchPlays: for whatever number of slots, countings and prefix it returns true and turns nothing that was there. -/
import Derived.Test.YtgmbkmlnoehomaaDocAdd
import Derived.Test.YtgmbkmlnoehomaaSame
namespace Go.Proofs.Ytgmbkmlnoehomaa
open Go.RowKit

/-- The document's sketch, in block z. -/
def DocAt (g q z M : Nat) (A : Option Addr) (c : Nat) (L : List Slo) (T : Int) (W : World) : Prop := Blk W z 39 (dcs A L.length c M T) ∧ LAt A L W ∧ ∀ b, A = some ⟨b, 0, none⟩ → b ≠ g ∧ b ≠ q ∧ b ≠ z ∧ b < W.heap.size
/-- Where the law's loop stands. -/
def Play (w : World) (g q z M h : Nat) (p : Pre) (L : List Slo) (T : Int) (A : Option Addr) (c : Nat) (LD : List Slo) (TD : Int) (W : World) : Prop :=
  SAt W g q M L T ∧ DocAt g q z M A c LD TD W ∧ Blk W h 25 p.cs ∧ Below w.heap.size w W ∧ (w.heap.size ≤ g ∧ w.heap.size ≤ q ∧ w.heap.size ≤ z ∧ h < w.heap.size ∧ z ≠ g ∧ z ≠ q)
section
variable {w W W' : World} {g q z M h c : Nat} {A : Option Addr} {p : Pre} {L LD L' : List Slo} {T TD T' : Int}
theorem DocAt.below (d : DocAt g q z M A c L T W) (hb : Below W.heap.size W W') : DocAt g q z M A c L T W' :=
  ⟨d.1.below hb, d.2.1.below hb, fun b e => ⟨(d.2.2 b e).1, (d.2.2 b e).2.1, (d.2.2 b e).2.2.1, Nat.lt_of_lt_of_le (d.2.2 b e).2.2.2 hb.size⟩⟩
theorem Play.sk (h' : Play w g q z M h p L T A c LD TD W) : SAt W g q M L T := h'.1
theorem Play.doc_ (h' : Play w g q z M h p L T A c LD TD W) : DocAt g q z M A c LD TD W := h'.2.1
theorem Play.box (h' : Play w g q z M h p L T A c LD TD W) : Blk W h 25 p.cs := h'.2.2.1
theorem Play.be (h' : Play w g q z M h p L T A c LD TD W) : Below w.heap.size w W := h'.2.2.2.1
theorem Play.nums (h' : Play w g q z M h p L T A c LD TD W) : w.heap.size ≤ g ∧ w.heap.size ≤ q ∧ w.heap.size ≤ z ∧ h < w.heap.size ∧ z ≠ g ∧ z ≠ q := h'.2.2.2.2
theorem Play.dz (h' : Play w g q z M h p L T A c LD TD W) : Blk W z 39 (dcs A LD.length c M TD) := h'.2.1.1
theorem Play.la (h' : Play w g q z M h p L T A c LD TD W) : LAt A LD W := h'.2.1.2.1
theorem Play.below (h' : Play w g q z M h p L T A c LD TD W) (hb : Below W.heap.size W W') : Play w g q z M h p L T A c LD TD W' :=
  ⟨h'.1.below hb, h'.2.1.below hb, h'.2.2.1.below hb, h'.be.trans (hb.mono h'.be.size), h'.nums⟩
theorem Play.drew (h' : Play w g q z M h p L T A c LD TD W) : Play w g q z M h p L T A c LD TD W.drew := h'.below (Below.refl _ W).drew
theorem Play.past (h' : Play w g q z M h p L T A c LD TD W) : W.heap.size ≠ g ∧ W.heap.size ≠ q ∧ W.heap.size ≠ z ∧ w.heap.size ≤ W.heap.size ∧ A ≠ some ⟨W.heap.size, 0, none⟩ := by
  have := h'.sk.lt
  have := h'.dz.lt
  have := h'.be.size
  exact ⟨by omega, by omega, by omega, by omega, fun e => by have := (h'.doc_.2.2 _ e).2.2.2; omega⟩
theorem Play.past2 (h' : Play w g q z M h p L T A c LD TD W) {b : Nat} (hb : W.heap.size ≤ b) : b ≠ g ∧ b ≠ q ∧ b ≠ z := by
  have := h'.sk.lt
  have := h'.dz.lt
  omega
theorem Play.add (h' : Play w g q z M h p L T A c LD TD W) (hs : SAt W' g q M L' T') (hf : Far (two g q) W W') : Play w g q z M h p L' T' A c LD TD W' := by
  have hn := h'.nums
  obtain ⟨h1, h2, h3⟩ := h'.doc_
  exact ⟨hs, ⟨h1.far hf (fun e => by rcases e with e | e <;> omega), h2.far hf (fun b e k => by have := h3 b e; rcases k with k | k <;> omega), fun b e => by have := h3 b e; have := hf.size; omega⟩, h'.box.far hf (fun e => by rcases e with e | e <;> omega), below_far h'.be hf hn.1 hn.2.1 h'.be.size, hn⟩
theorem Play.only (h' : Play w g q z M h p L T A c LD TD W) {x : Nat} (hf : Far (Ytgmbkmlnoehomaa.only x) W W') (hx : x ≠ g ∧ x ≠ q ∧ x ≠ z ∧ w.heap.size ≤ x ∧ A ≠ some ⟨x, 0, none⟩) : Play w g q z M h p L T A c LD TD W' := by
  have hn := h'.nums
  obtain ⟨h1, h2, h3⟩ := h'.doc_
  exact ⟨h'.sk.far hf (fun e => hx.1 (Eq.symm e)) (fun e => hx.2.1 (Eq.symm e)), ⟨h1.far hf (fun e => hx.2.2.1 (Eq.symm e)), h2.far hf (fun b e k => hx.2.2.2.2 (by rw [e]; have k2 : b = x := k; rw [k2])), fun b e => by have := h3 b e; have := hf.size; omega⟩, h'.box.far hf (fun e => by have e2 : h = x := e; omega), below_only h'.be hf hx.2.2.2.1 h'.be.size, hn⟩
theorem Play.put (h' : Play w g q z M h p L T A c LD TD W) {b c' : Nat} (hk : Blk W' z 39 (dcs (some ⟨b, 0, none⟩) L'.length c' M T')) (hf : Far (Ytgmbkmlnoehomaa.only z) W W') (hl : LAt (some ⟨b, 0, none⟩) L' W) (hb : b ≠ g ∧ b ≠ q ∧ b ≠ z) (h0 : 0 < L'.length) : Play w g q z M h p L T (some ⟨b, 0, none⟩) c' L' T' W' := by
  have hn := h'.nums
  have hlt : b < W.heap.size := by
    obtain ⟨q', e, hr⟩ := hl 0 _ (at_some h0)
    cases e
    exact World.block_lt_of_cell? W _ (hr 0 (.bool (at_ L' 0).p.v) rfl)
  exact ⟨h'.sk.far hf (fun e => hn.2.2.2.2.1 (Eq.symm e)) (fun e => hn.2.2.2.2.2 (Eq.symm e)), ⟨hk, hl.far hf (fun b' e k => by cases e; exact hb.2.2 k), fun b' e => by cases e; exact ⟨hb.1, hb.2.1, hb.2.2, Nat.lt_of_lt_of_le hlt hf.size⟩⟩, h'.box.far hf (fun e => by have e2 : h = z := e; omega), below_only h'.be hf hn.2.2.1 h'.be.size, hn⟩
end
/-- A struct out of its parts, under a guard. -/
theorem wpList_buildG {ops : Array Oper} {rest : List Oper} {o : Oper} {a : Act} {w : World} {Q : Exit → Act → World → Prop} (hw : Region.wanted o (yielded ops a.tmps) = true) (ty : TypeId) (parts : List (Nat × Operand)) (ho : o.op = .build ty parts.toArray)
    (vals : List (Nat × Value)) (hp : (parts.map fun px => (px.1, a.eval px.2)) = vals) (cells : List Value) (hb : (Instr.build ty vals.toArray).run Try.prog w = .ok (.agg cells.toArray) w)
    (h : wpList Try.prog ops Q rest (a.put o.dst (.agg cells.toArray)) w) : wpList Try.prog ops Q (o :: rest) a w := by
  subst hp
  unfold wpList
  rw [if_pos hw]
  refine .inl ?_
  unfold Oper.wp
  simp only [execOp, ho, List.map_toArray]
  simp [hb, Oper.upon]
  exact h
theorem eq_slo_self (w : World) : (Op.equalIn 10000 32 (.agg slo0.cs.toArray) (.agg slo0.cs.toArray)).run Try.prog w = .ok true w := by
  have := eq_slo32 slo0_ok slo0_ok w
  rwa [decide_eq_true rfl] at this

set_option maxRecDepth 100000 in
set_option maxHeartbeats 2000000 in
theorem plays_far (x0 : Int) (A : Option Addr) (n c : Nat) (p : Pre) (w : World) (hn : 120 < n) :
    Calls Try.prog 3 #[.int .i64 x0, .slice A n c, .agg p.cs.toArray] w fun e w' => e = .returned (.bool true) ∧ Below w.heap.size w w' := by
  have hd : decide ((120 : Int) < (n : Int)) = true := by simp; omega
  have B0 : Hid (Below w.heap.size w (w.alloc (.cells p.cs.toArray 25))) := (Below.refl _ w).alloc (Nat.le_refl _) _
  go_enter Try.func3, Try.ntmps3
  go_wp2_with fail
  refine (awake_any _).mono ?_
  rintro e w1 ⟨rfl, hb1⟩
  have W1 : Hid (Below w.heap.size w w1) := B0.out.trans (hb1.mono B0.out.size)
  clear hb1
  go_wp2_with fail
  refine (awake_any _).mono ?_
  rintro e w2 ⟨rfl, hb2⟩
  have W2 : Hid (Below w.heap.size w w2) := W1.out.trans (hb2.mono W1.out.size)
  clear hb2
  go_wp2_with fail
  go_ret
  exact ⟨rfl, W2.out⟩
set_option maxRecDepth 100000 in
set_option maxHeartbeats 2000000 in
theorem plays_bad (x0 : Int) (A : Option Addr) (n c : Nat) (p : Pre) (w : World) (hn : n ≤ 120) (hx : x0 < 1 ∨ 64 < x0) :
    Calls Try.prog 3 #[.int .i64 x0, .slice A n c, .agg p.cs.toArray] w fun e w' => e = .returned (.bool true) ∧ Below w.heap.size w w' := by
  have hd : decide ((120 : Int) < (n : Int)) = false := by simp; omega
  have B0 : Hid (Below w.heap.size w (w.alloc (.cells p.cs.toArray 25))) := (Below.refl _ w).alloc (Nat.le_refl _) _
  have K0 := Lib.hid (Blk.new w 25 p.cs)
  have HX := Lib.hid hx
  clear hx
  by_cases hx1 : x0 < 1
  · have hd2 : decide (x0 < 1) = true := by simpa using hx1
    go_enter Try.func3, Try.ntmps3
    go_wp2_with (first | (go_at_call 8; (with_reducible refine (awake_any _).mono ?_); rintro e w1 ⟨rfl, hb1⟩; have K1 := Lib.hid (K0.out.below hb1); have W1 : Hid (Below w.heap.size w w1) := B0.out.trans (hb1.mono B0.out.size); clear hb1) | (go_at_call 9; (with_reducible refine (new_bad x0 _ HX.out).mono ?_); rintro e w2 ⟨rfl, rfl⟩) | (refine wpList_pre (by rfl) (.tmp 5) rfl w.heap.size 0 rfl p (whole_at K1.out) ?_) | (go_at_call 10; (with_reducible refine (add_nil p 1 _).mono ?_); rintro e w3 ⟨rfl, hb⟩; have W3 : Hid (Below w.heap.size w w3) := W1.out.trans (hb.mono W1.out.size); clear hb) | (refine wpList_buildG (by rfl) 32 [] rfl [] rfl slo0.cs (run_slo0 _) ?_) | (refine wpList_eql (by rfl) 32 (by kernel_rfl) (.tmp 46) (.tmp 47) 32 rfl _ _ rfl rfl true (eq_slo_self _) ?_) | (go_at_call 11; (with_reducible refine (slots_nil _).mono ?_); rintro e w4 ⟨A4, c4, rfl, hb, _⟩; have W4 : Hid (Below w.heap.size w w4) := W3.out.trans (hb.mono W3.out.size); clear hb) | (go_at_call 12; (with_reducible refine (total_nil _).mono ?_); rintro e w5 ⟨rfl, rfl⟩))
    go_ret
    exact ⟨rfl, W4.out⟩
  · have hd2 : decide (x0 < 1) = false := by simpa using hx1
    have hd3 : decide (64 < x0) = true := by have := HX.out; simp; omega
    go_enter Try.func3, Try.ntmps3
    go_wp2_with (first | (go_at_call 8; (with_reducible refine (awake_any _).mono ?_); rintro e w1 ⟨rfl, hb1⟩; have K1 := Lib.hid (K0.out.below hb1); have W1 : Hid (Below w.heap.size w w1) := B0.out.trans (hb1.mono B0.out.size); clear hb1) | (go_at_call 9; (with_reducible refine (new_bad x0 _ HX.out).mono ?_); rintro e w2 ⟨rfl, rfl⟩) | (refine wpList_pre (by rfl) (.tmp 5) rfl w.heap.size 0 rfl p (whole_at K1.out) ?_) | (go_at_call 10; (with_reducible refine (add_nil p 1 _).mono ?_); rintro e w3 ⟨rfl, hb⟩; have W3 : Hid (Below w.heap.size w w3) := W1.out.trans (hb.mono W1.out.size); clear hb) | (refine wpList_buildG (by rfl) 32 [] rfl [] rfl slo0.cs (run_slo0 _) ?_) | (refine wpList_eql (by rfl) 32 (by kernel_rfl) (.tmp 46) (.tmp 47) 32 rfl _ _ rfl rfl true (eq_slo_self _) ?_) | (go_at_call 11; (with_reducible refine (slots_nil _).mono ?_); rintro e w4 ⟨A4, c4, rfl, hb, _⟩; have W4 : Hid (Below w.heap.size w w4) := W3.out.trans (hb.mono W3.out.size); clear hb) | (go_at_call 12; (with_reducible refine (total_nil _).mono ?_); rintro e w5 ⟨rfl, rfl⟩))
    go_ret
    exact ⟨rfl, W4.out⟩
set_option maxRecDepth 100000 in
set_option maxHeartbeats 8000000 in
theorem plays_near (x0 : Int) (A : Option Addr) (n c : Nat) (p : Pre) (P : Nat → Pre) (X : Nat → Int) (w0 : World) (hn : n ≤ 120) (h1 : 1 ≤ x0) (h2 : x0 ≤ 64) (hp : p.Ok) (ha : SeenIn w0 A n P X) :
    Calls Try.prog 3 #[.int .i64 x0, .slice A n c, .agg p.cs.toArray] w0 fun e w' => e = .returned (.bool true) ∧ Below w0.heap.size w0 w' := by
  have K0 := Lib.hid (Blk.new w0 25 p.cs)
  have B0 : Hid (Below w0.heap.size w0 (w0.alloc (.cells p.cs.toArray 25))) := (Below.refl _ w0).alloc (Nat.le_refl _) _
  have HA := Lib.hid (ha.far B0.out)
  have HE : Hid (∀ W, Below (w0.alloc (.cells p.cs.toArray 25)).heap.size (w0.alloc (.cells p.cs.toArray 25)) W → Below w0.heap.size w0 W) := fun W hW => B0.out.trans (hW.mono B0.out.size)
  have HPP := Lib.hid hp
  have HLT : Hid (w0.heap.size < (w0.alloc (.cells p.cs.toArray 25)).heap.size) := by show _ < _; simp
  clear ha hp
  obtain ⟨M, rfl⟩ : ∃ M : Nat, x0 = (M : Int) := ⟨x0.toNat, by omega⟩
  have hM1 : 1 ≤ M := by omega
  have hM2 : M ≤ 64 := by omega
  clear h1 h2
  have hd : decide ((120 : Int) < (n : Int)) = false := by simp; omega
  have hd2 : decide ((M : Int) < 1) = false := by simp; omega
  have hd3 : decide (64 < (M : Int)) = false := by simp; omega
  go_enter Try.func3, Try.ntmps3
  go_upto_region 1 with fail
  generalize (w0.alloc (.cells p.cs.toArray 25)) = w at *
  go_upto_region 6 with (first | (go_at_call 8; (with_reducible refine (awake_any _).mono ?_); rintro e w1 ⟨rfl, hb1⟩; have W1 := Lib.hid hb1; clear hb1) | (go_at_call 9; (with_reducible refine (new_x (M : Int) M _ rfl hM1 hM2).mono ?_); rintro e w2 ⟨g, q, rfl, hs, hg1, hq1, hb2⟩; have S2 := Lib.hid hs; have W2 : Hid (Below w.heap.size w w2) := W1.out.trans (hb2.mono W1.out.size); have hg : w.heap.size ≤ g := Nat.le_trans W1.out.size hg1; have hq : w.heap.size ≤ q := Nat.le_trans W1.out.size hq1; clear hs hb2 W1 hg1 hq1))
  have N2 := Lib.hid (Blk.new w2 39 (dcs none 0 0 0 0))
  have B2 : Hid (Below w2.heap.size w2 (w2.alloc (.cells (dcs none 0 0 0 0).toArray 39))) := (Below.refl _ w2).alloc (Nat.le_refl _) _
  go_upto_region 7 with (refine wpList_lay rfl 39 3 size39 (.tmp 9) (.tmp 62) rfl w2.heap.size (dcs none 0 0 M 0) rfl rfl 39 (dcs none 0 0 0 0) N2.out rfl rfl (dcs_one _ _ _ _ _) ?_; intro w3 K3 F3; have hlt2 := S2.out.lt; have PL1 : Hid (Play w g q w2.heap.size M w0.heap.size p (ran M P X 0) (tot X 0) none 0 (ran M P X 0) (tot X 0) w3) := ⟨(S2.out.below B2.out).far F3.out (fun e => by have e2 : g = w2.heap.size := e; omega) (fun e => by have e2 : q = w2.heap.size := e; omega), ⟨K3.out, fun _ _ hk => by simp [ran] at hk, fun b e => by cases e⟩, ((K0.out.below W2.out).below B2.out).far F3.out (fun e => by have e2 : w0.heap.size = w2.heap.size := e; have := W2.out.size; have := HLT.out; omega), below_only (W2.out.trans (B2.out.mono W2.out.size)) F3.out W2.out.size (Nat.le_trans W2.out.size B2.out.size), ⟨hg, hq, W2.out.size, HLT.out, by omega, by omega⟩⟩; clear hlt2)
  clear N2 B2 W2 S2 K0 B0 hd hd2 hd3
  generalize w2.heap.size = z at *
  clear K3 F3
  go_wp2_with fail
  go_loopw [10, 11, 12, 13, 14, 65] (fun _ _ _ _ _ i w' => ∃ (k : Nat) (A1 : Option Addr) (c1 : Nat), k ≤ n ∧ i = .int .i64 k ∧ Play w g q z M w0.heap.size p (ran M P X k) (tot X k) A1 c1 (ran M P X k) (tot X k) w') (fun _ _ _ _ _ i _ => n - (intOf i).toNat)
  case atStart => exact ⟨0, none, 0, by omega, rfl, PL1.out⟩
  case round =>
    clear PL1
    obtain ⟨k, A1, c1, hk, rfl, hr⟩ := hrel
    have PL := Lib.hid hr
    clear hr
    by_cases hlt : k < n
    · obtain ⟨b, o, rfl, hra, hok, hx0, hx1⟩ := HA.out k hlt
      have HR : Hid (∀ W, Below w.heap.size w W → W.rangeAt b (o + k * 9) ((P k).cs ++ [.int .i64 (X k)])) := fun W hW j v hv => (hW.cell (World.block_lt_of_cell? w _ (hra j v hv))).trans (hra j v hv)
      clear hra
      obtain ⟨L', hL'⟩ : ∃ L', ran M P X (k + 1) = L' := ⟨_, rfl⟩
      obtain ⟨T', hT'⟩ : ∃ T', tot X (k + 1) = T' := ⟨_, rfl⟩
      obtain ⟨j, hj⟩ : ∃ j, pos M (ran M P X k) (P k) = j := ⟨_, rfl⟩
      obtain ⟨s, hs⟩ : ∃ s, at_ L' j = s := ⟨_, rfl⟩
      have e1 : stp M (ran M P X k) (P k) (X k) = L' := hL'
      have e2 : addK (tot X k) (X k) = T' := hT'
      have HL' := Lib.hid hL'
      have HT' := Lib.hid hT'
      have hjl : j < L'.length := by rw [← e1, ← hj]; unfold stp; rw [inc_length]; exact pos_lt hM1
      have HGET : Hid (get L' (P k) = s ∧ has L' (P k) = true) := by show _ ∧ _; rw [← e1]; exact ⟨by rw [get_stp hM1, hj, e1, hs], has_stp hM1⟩
      have few := PL.out.sk.few
      have OKS := Lib.hid (PL.out.sk.oks.stp_ (M := M) (p := P k) (n := X k) hok)
      rw [e1] at OKS
      have OS : Hid s.Ok := by show _; rw [← hs]; exact OKS.out.at_ hjl
      have CA := Lib.hid (fun W (h : SAt W g q M (ran M P X k) (tot X k)) => add_ g q M (ran M P X k) (tot X k) (P k) (X k) W h hok)
      have CD := Lib.hid (fun W (h : LAt A1 (ran M P X k) W) => dadd_ A1 c1 M (tot X k) (ran M P X k) (P k) (X k) W h PL.out.sk.oks hok few.1 few.2.1 few.2.2)
      rw [e1, e2, hj] at CA CD
      rw [hs] at CA
      have fewL' : L'.length ≤ M := by rw [← e1]; exact stp_length few.1
      have HL0 : Hid (0 < L'.length) := Nat.lt_of_le_of_lt (Nat.zero_le j) hjl
      have HSL : Hid (∀ {b : Nat} (W : World), LAt (some ⟨b, 0, none⟩) L' W → W.rangeAt b (j * 10) s.cs) := fun W h => by obtain ⟨q', e, hr⟩ := h j _ (at_some hjl); cases e; rw [← hs]; exact hr
      have HE32 := Lib.hid (fun W => eq_slo32 OS.out OS.out W)
      have HE46 := Lib.hid (fun W => eq_slo46 OS.out OS.out W)
      rw [decide_eq_true (rfl : s = s)] at HE32 HE46
      clear hL' hT' hj hs e1 e2
      generalize ran M P X k = L at *
      generalize tot X k = T at *
      obtain ⟨m, hm⟩ : ∃ m, L.length = m := ⟨_, rfl⟩
      have HM := Lib.hid hm
      obtain ⟨m', hm'⟩ : ∃ m', L'.length = m' := ⟨_, rfl⟩
      have HM' := Lib.hid hm'
      rw [hm] at CD few
      have CS := Lib.hid (fun W (h : SAt W g q M L' T') => slots_ g q M L' T' W h)
      unfold RowOut at CS
      have CM := Lib.hid (fun A5 c5 W (h5 : LAt A5 L' W) b3 c3 (h6 : LAt (some ⟨b3, 0, none⟩) L' W) => same_ A5 (some ⟨b3, 0, none⟩) c5 c3 L' W h5 h6 OKS.out (by omega))
      rw [hm'] at CS CM hjl fewL'
      clear hm hm'
      go_upto_region 10 with fail
      go_cut [11] from 68 to 79 (fun v wx => ∃ Xb, v = .pointer (some ⟨Xb, 0, none⟩) ∧ Blk wx Xb 32 s.cs ∧ Xb ≠ z ∧ Play w g q z M w0.heap.size p L' T' A1 c1 L T wx)
      case first =>
        refine wp_region_held_drew (S := fun W => W.rangeAt b (o + k * 9) ((P k).cs ++ [.int .i64 (X k)])) (by kernel_rfl) ?_ (fun _ => ?_)
        · exact HR.out _ PL.out.be.drew
        have HS0 : Hid (wr.drew.rangeAt b (o + k * 9) ((P k).cs ++ [.int .i64 (X k)])) := HR.out _ PL.out.be.drew
        have PL0 := Lib.hid PL.out.drew
        clear PL
        generalize wr.drew = x0 at *
        refine wpAnyH_take (i := 0) (oi := ⟨some 68, _, _, _, _, _⟩) (v := ?_) rfl (by kernel_rfl) (by kernel_rfl) (by kernel_rfl) (fun _ _ _ h => h) (Or.inl ⟨by rfl, ?_⟩) HS0.out ?_
        rotate_left
        · (intro W hSW; clear hSW; go_simp)
          first | done | (with_reducible rfl)
        try simp only [Act.put, List.setIfInBounds_toArray, List.set_cons_zero, List.set_cons_succ]
        refine wpAnyH_take (i := 1) (oi := ⟨some 69, _, _, _, _, _⟩) (v := ?_) rfl (by kernel_rfl) (by kernel_rfl) (by kernel_rfl) (fun _ _ _ h => h) (Or.inl ⟨by rfl, ?_⟩) HS0.out ?_
        rotate_left
        · (intro W hSW; clear hSW; go_simp)
          first | done | (with_reducible rfl)
        try simp only [Act.put, List.setIfInBounds_toArray, List.set_cons_zero, List.set_cons_succ]
        refine wpAnyH_take (i := 2) (oi := ⟨some 70, _, _, _, _, _⟩) (v := ?_) rfl (by kernel_rfl) (by kernel_rfl) (by kernel_rfl) (fun _ _ _ h => h) (Or.inl ⟨by rfl, ?_⟩) HS0.out ?_
        rotate_left
        · (intro W hSW; clear hSW; go_simp)
          first | done | (with_reducible rfl)
        try simp only [Act.put, List.setIfInBounds_toArray, List.set_cons_zero, List.set_cons_succ]
        refine wpAnyH_take (i := 3) (oi := ⟨some 71, _, _, _, _, _⟩) (v := ?_) rfl (by kernel_rfl) (by kernel_rfl) (by kernel_rfl) (fun _ _ _ h => h) (Or.inl ⟨by rfl, ?_⟩) HS0.out ?_
        rotate_left
        · (intro W hSW; clear hSW; go_simp)
          first | done | (with_reducible rfl)
        try simp only [Act.put, List.setIfInBounds_toArray, List.set_cons_zero, List.set_cons_succ]
        refine wpAnyH_take (i := 4) (oi := ⟨some 72, _, _, _, _, _⟩) (v := ?_) rfl (by kernel_rfl) (by kernel_rfl) (by kernel_rfl) (fun _ _ _ h => h) (Or.inl ⟨by rfl, ?_⟩) HS0.out ?_
        rotate_left
        · (intro W hSW; clear hSW; go_simp)
          first | done | (with_reducible rfl)
        try simp only [Act.put, List.setIfInBounds_toArray, List.set_cons_zero, List.set_cons_succ]
        refine wpAnyH_take (i := 5) (oi := ⟨some 73, _, _, _, _, _⟩) (v := .agg (P k).cs.toArray) rfl (by kernel_rfl) (by kernel_rfl) (by kernel_rfl) (fun _ _ _ h => h) (yields_pre (by rfl) (.tmp 72) rfl b (o + k * 9) rfl (P k) (fun _ h => seen_pre h)) HS0.out ?_
        try simp only [Act.put, List.setIfInBounds_toArray, List.set_cons_zero, List.set_cons_succ]
        refine wpAnyH_take (i := 6) (oi := ⟨some 74, _, _, _, _, _⟩) (v := ?_) rfl (by kernel_rfl) (by kernel_rfl) (by kernel_rfl) (fun _ _ _ h => h) (Or.inl ⟨by rfl, ?_⟩) HS0.out ?_
        rotate_left
        · (intro W hSW; clear hSW; go_simp)
          first | done | (with_reducible rfl)
        try simp only [Act.put, List.setIfInBounds_toArray, List.set_cons_zero, List.set_cons_succ]
        refine wpAnyH_take (i := 7) (oi := ⟨some 75, _, _, _, _, _⟩) (v := ?_) rfl (by kernel_rfl) (by kernel_rfl) (by kernel_rfl) (fun _ _ _ h => h) (Or.inl ⟨by rfl, ?_⟩) HS0.out ?_
        rotate_left
        · (intro W hSW; clear hSW; go_simp)
          first | done | (with_reducible rfl)
        try simp only [Act.put, List.setIfInBounds_toArray, List.set_cons_zero, List.set_cons_succ]
        refine wpAnyH_take (i := 8) (oi := ⟨some 76, _, _, _, _, _⟩) (v := ?_) rfl (by kernel_rfl) (by kernel_rfl) (by kernel_rfl) (fun _ _ _ h => h) (Or.inl ⟨by rfl, ?_⟩) HS0.out ?_
        rotate_left
        · (intro W hSW; clear hSW; go_simp)
          first | done | (with_reducible rfl)
        try simp only [Act.put, List.setIfInBounds_toArray, List.set_cons_zero, List.set_cons_succ]
        refine wpAnyH_take (i := 9) (oi := ⟨some 77, _, _, _, _, _⟩) (v := ?_) rfl (by kernel_rfl) (by kernel_rfl) (by kernel_rfl) (fun _ _ _ h => h) (Or.inl ⟨by rfl, ?_⟩) HS0.out ?_
        rotate_left
        · (intro W hSW; clear hSW; go_simp)
          first | done | (with_reducible rfl)
        try simp only [Act.put, List.setIfInBounds_toArray, List.set_cons_zero, List.set_cons_succ]
        refine wpAnyH_take (i := 10) (oi := ⟨some 78, _, _, _, _, _⟩) (v := .int .i64 (X k)) rfl (by kernel_rfl) (by kernel_rfl) (by kernel_rfl) (fun _ _ _ h => h) (Or.inl ⟨by rfl, ?_⟩) HS0.out ?_
        · (intro W hSW; have hc := seen_num hSW; clear hSW; go_simp)
        try simp only [Act.put, List.setIfInBounds_toArray, List.set_cons_zero, List.set_cons_succ]
        refine wpAnyH_ready (rs := [11, 12]) (by kernel_rfl) (by simp) ?_
        refine AllReadyH.cons (o := ⟨some 79, _, _, _, _, _⟩) rfl (fun K hK => ?_) (AllReadyH.cons (o := ⟨some 11, _, _, _, _, _⟩) rfl (fun K hK => ?_) AllReadyH.nil)
        · skip
          go_simp
          refine (CA.out _ PL0.out.sk).mono ?_
          rintro e x1 ⟨rfl, hs, hf⟩
          have P1 := Lib.hid (PL0.out.add hs hf)
          clear hs hf
          go_simp
          refine hK.out _ _ ?_ (fun _ => ?_)
          · exact HR.out _ P1.out.be
          clear hK K
          try simp only [Act.put, List.setIfInBounds_toArray, List.set_cons_zero, List.set_cons_succ]
          refine wpAnyH_ready (rs := [12]) (by kernel_rfl) (by simp) ?_
          refine AllReadyH.cons (o := ⟨some 11, _, _, _, _, _⟩) rfl (fun K hK => ?_) AllReadyH.nil
          go_simp
          have P2 := Lib.hid (P1.out.below ((Below.refl _ x1).alloc (Nat.le_refl _) zero32))
          have N2 := Lib.hid (Blk.new x1 32 slo0.cs)
          have HXB : Hid (x1.heap.size ≠ g ∧ x1.heap.size ≠ q ∧ x1.heap.size ≠ z ∧ w.heap.size ≤ x1.heap.size ∧ A1 ≠ some ⟨x1.heap.size, 0, none⟩) := P1.out.past
          refine hK.out _ _ ?_ (fun _ => ?_)
          · exact HR.out _ P2.out.be
          clear hK K
          try simp only [Act.put, List.setIfInBounds_toArray, List.set_cons_zero, List.set_cons_succ]
          refine wpAnyH_ready (rs := [13]) (by kernel_rfl) (by simp) ?_
          refine AllReadyH.cons (o := ⟨none, _, _, _, _, _⟩) rfl (fun K hK => ?_) AllReadyH.nil
          refine step_lay (by rfl) 32 10 size32 (.tmp 11) (.tmp 79) (by rfl) x1.heap.size s.cs (by rfl) (by rfl) 32 slo0.cs N2.out rfl rfl (all_oneCell_toArray (slo_each _)) ?_
          intro x9 K9 F9
          have Q9 := Lib.hid (P2.out.only F9.out HXB.out)
          refine hK.out _ _ ?_ (fun _ => ?_)
          · exact HR.out _ Q9.out.be
          clear hK K
          try simp only [Act.put]
          refine wpAnyH_done (by kernel_rfl) ?_ _
          go_wp2_with fail
          go_meet
          case rel => exact ⟨_, rfl, K9.out, HXB.out.2.2.1, Q9.out⟩
        · skip
          go_simp
          have P1 := Lib.hid (PL0.out.below ((Below.refl _ x0).alloc (Nat.le_refl _) zero32))
          have N1 := Lib.hid (Blk.new x0 32 slo0.cs)
          have HXB : Hid (x0.heap.size ≠ g ∧ x0.heap.size ≠ q ∧ x0.heap.size ≠ z ∧ w.heap.size ≤ x0.heap.size ∧ A1 ≠ some ⟨x0.heap.size, 0, none⟩) := PL0.out.past
          refine hK.out _ _ ?_ (fun _ => ?_)
          · exact HR.out _ P1.out.be
          clear hK K
          try simp only [Act.put, List.setIfInBounds_toArray, List.set_cons_zero, List.set_cons_succ]
          refine wpAnyH_ready (rs := [11]) (by kernel_rfl) (by simp) ?_
          refine AllReadyH.cons (o := ⟨some 79, _, _, _, _, _⟩) rfl (fun K hK => ?_) AllReadyH.nil
          go_simp
          refine (CA.out _ P1.out.sk).mono ?_
          rintro e x2 ⟨rfl, hs, hf⟩
          have P2 := Lib.hid (P1.out.add hs hf)
          have N2 := Lib.hid (N1.out.far hf (fun e => by rcases e with e | e; exact HXB.out.1 e; exact HXB.out.2.1 e))
          clear hs hf
          go_simp
          refine hK.out _ _ ?_ (fun _ => ?_)
          · exact HR.out _ P2.out.be
          clear hK K
          try simp only [Act.put, List.setIfInBounds_toArray, List.set_cons_zero, List.set_cons_succ]
          refine wpAnyH_ready (rs := [13]) (by kernel_rfl) (by simp) ?_
          refine AllReadyH.cons (o := ⟨none, _, _, _, _, _⟩) rfl (fun K hK => ?_) AllReadyH.nil
          refine step_lay (by rfl) 32 10 size32 (.tmp 11) (.tmp 79) (by rfl) x0.heap.size s.cs (by rfl) (by rfl) 32 slo0.cs N2.out rfl rfl (all_oneCell_toArray (slo_each _)) ?_
          intro x9 K9 F9
          have Q9 := Lib.hid (P2.out.only F9.out HXB.out)
          refine hK.out _ _ ?_ (fun _ => ?_)
          · exact HR.out _ Q9.out.be
          clear hK K
          try simp only [Act.put]
          refine wpAnyH_done (by kernel_rfl) ?_ _
          go_wp2_with fail
          go_meet
          case rel => exact ⟨_, rfl, K9.out, HXB.out.2.2.1, Q9.out⟩
      case rest =>
        obtain ⟨Xb, rfl, hx, hxz, hpl⟩ := hcut
        have XB := Lib.hid hx
        have HXZ := Lib.hid hxz
        have PB := Lib.hid hpl
        have hdz := PB.out.dz
        have hla := PB.out.la
        rw [HM.out] at hdz
        clear hx hxz hpl CA PL
        go_upto_region 12 with fail
        go_cut [12] from 80 to 94 (fun v wx => v = .int .i64 (j : Nat) ∧ Blk wx Xb 32 s.cs ∧ ∃ A3 c3, Play w g q z M w0.heap.size p L' T' A3 c3 L' T' wx ∧ ∃ b3, A3 = some ⟨b3, 0, none⟩)
        case first =>
          refine til_begin (fun W => W.rangeAt b (o + k * 9) ((P k).cs ++ [.int .i64 (X k)]) ∧ Blk W z 39 (dcs A1 m c1 M T)) 15 (by kernel_rfl) ?_
          have D0 := Lib.hid ((⟨HR.out _ PB.out.be.drew, hdz⟩ : wc.drew.rangeAt b (o + k * 9) ((P k).cs ++ [.int .i64 (X k)]) ∧ Blk wc.drew z 39 (dcs A1 m c1 M T)))
          have PB0 := Lib.hid PB.out.drew
          have LA0 : Hid (LAt A1 L wc.drew) := hla
          have XB0 : Hid (Blk wc.drew Xb 32 s.cs) := XB.out
          clear PB hdz hla XB
          generalize wc.drew = x0 at *
          refine til_take (i := 0) (oi := ⟨some 81, _, _, _, _, _⟩) (v := doc A1 m c1 M T) rfl (by kernel_rfl) (by kernel_rfl) (by kernel_rfl) (by decide) (by kernel_rfl) (by kernel_rfl) (fun _ _ _ h => h) (yieldsIf_load_mid (by rfl) 39 (.tmp 9) rfl z 0 rfl (dcs A1 m c1 M T) _ (fun _ h => whole_at h.2) Try.underlying39 rfl size39) D0.out ?_
          try simp only [Act.put, List.setIfInBounds_toArray, List.set_cons_zero, List.set_cons_succ]
          refine til_take (i := 1) (oi := ⟨some 82, _, _, _, _, _⟩) (v := ?_) rfl (by kernel_rfl) (by kernel_rfl) (by kernel_rfl) (by decide) (by kernel_rfl) (by kernel_rfl) (fun _ _ _ h => h) (Or.inl ⟨by rfl, ?_⟩) D0.out ?_
          rotate_left
          · (intro W hSW; clear hSW; go_simp)
            first | done | (with_reducible rfl)
          try simp only [Act.put, List.setIfInBounds_toArray, List.set_cons_zero, List.set_cons_succ]
          refine til_take (i := 2) (oi := ⟨some 83, _, _, _, _, _⟩) (v := ?_) rfl (by kernel_rfl) (by kernel_rfl) (by kernel_rfl) (by decide) (by kernel_rfl) (by kernel_rfl) (fun _ _ _ h => h) (Or.inl ⟨by rfl, ?_⟩) D0.out ?_
          rotate_left
          · (intro W hSW; clear hSW; go_simp)
            first | done | (with_reducible rfl)
          try simp only [Act.put, List.setIfInBounds_toArray, List.set_cons_zero, List.set_cons_succ]
          refine til_take (i := 3) (oi := ⟨some 84, _, _, _, _, _⟩) (v := ?_) rfl (by kernel_rfl) (by kernel_rfl) (by kernel_rfl) (by decide) (by kernel_rfl) (by kernel_rfl) (fun _ _ _ h => h) (Or.inl ⟨by rfl, ?_⟩) D0.out ?_
          rotate_left
          · (intro W hSW; clear hSW; go_simp)
            first | done | (with_reducible rfl)
          try simp only [Act.put, List.setIfInBounds_toArray, List.set_cons_zero, List.set_cons_succ]
          refine til_take (i := 4) (oi := ⟨some 85, _, _, _, _, _⟩) (v := ?_) rfl (by kernel_rfl) (by kernel_rfl) (by kernel_rfl) (by decide) (by kernel_rfl) (by kernel_rfl) (fun _ _ _ h => h) (Or.inl ⟨by rfl, ?_⟩) D0.out ?_
          rotate_left
          · (intro W hSW; clear hSW; go_simp)
            first | done | (with_reducible rfl)
          try simp only [Act.put, List.setIfInBounds_toArray, List.set_cons_zero, List.set_cons_succ]
          refine til_take (i := 5) (oi := ⟨some 86, _, _, _, _, _⟩) (v := .agg (P k).cs.toArray) rfl (by kernel_rfl) (by kernel_rfl) (by kernel_rfl) (by decide) (by kernel_rfl) (by kernel_rfl) (fun _ _ _ h => h) (yields_pre (by rfl) (.tmp 85) rfl b (o + k * 9) rfl (P k) (fun _ h => seen_pre h.1)) D0.out ?_
          try simp only [Act.put, List.setIfInBounds_toArray, List.set_cons_zero, List.set_cons_succ]
          refine til_take (i := 6) (oi := ⟨some 87, _, _, _, _, _⟩) (v := ?_) rfl (by kernel_rfl) (by kernel_rfl) (by kernel_rfl) (by decide) (by kernel_rfl) (by kernel_rfl) (fun _ _ _ h => h) (Or.inl ⟨by rfl, ?_⟩) D0.out ?_
          rotate_left
          · (intro W hSW; clear hSW; go_simp)
            first | done | (with_reducible rfl)
          try simp only [Act.put, List.setIfInBounds_toArray, List.set_cons_zero, List.set_cons_succ]
          refine til_take (i := 7) (oi := ⟨some 88, _, _, _, _, _⟩) (v := ?_) rfl (by kernel_rfl) (by kernel_rfl) (by kernel_rfl) (by decide) (by kernel_rfl) (by kernel_rfl) (fun _ _ _ h => h) (Or.inl ⟨by rfl, ?_⟩) D0.out ?_
          rotate_left
          · (intro W hSW; clear hSW; go_simp)
            first | done | (with_reducible rfl)
          try simp only [Act.put, List.setIfInBounds_toArray, List.set_cons_zero, List.set_cons_succ]
          refine til_take (i := 8) (oi := ⟨some 89, _, _, _, _, _⟩) (v := ?_) rfl (by kernel_rfl) (by kernel_rfl) (by kernel_rfl) (by decide) (by kernel_rfl) (by kernel_rfl) (fun _ _ _ h => h) (Or.inl ⟨by rfl, ?_⟩) D0.out ?_
          rotate_left
          · (intro W hSW; clear hSW; go_simp)
            first | done | (with_reducible rfl)
          try simp only [Act.put, List.setIfInBounds_toArray, List.set_cons_zero, List.set_cons_succ]
          refine til_take (i := 9) (oi := ⟨some 90, _, _, _, _, _⟩) (v := ?_) rfl (by kernel_rfl) (by kernel_rfl) (by kernel_rfl) (by decide) (by kernel_rfl) (by kernel_rfl) (fun _ _ _ h => h) (Or.inl ⟨by rfl, ?_⟩) D0.out ?_
          rotate_left
          · (intro W hSW; clear hSW; go_simp)
            first | done | (with_reducible rfl)
          try simp only [Act.put, List.setIfInBounds_toArray, List.set_cons_zero, List.set_cons_succ]
          refine til_take (i := 10) (oi := ⟨some 91, _, _, _, _, _⟩) (v := .int .i64 (X k)) rfl (by kernel_rfl) (by kernel_rfl) (by kernel_rfl) (by decide) (by kernel_rfl) (by kernel_rfl) (fun _ _ _ h => h) (Or.inl ⟨by rfl, ?_⟩) D0.out ?_
          · (intro W hSW; have hc := seen_num hSW.1; clear hSW; go_simp)
          try simp only [Act.put, List.setIfInBounds_toArray, List.set_cons_zero, List.set_cons_succ]
          refine til_one (i := 11) (o := ⟨some 92, _, _, _, _, _⟩) (by kernel_rfl) rfl (fun K hK => ?_)
          go_simp
          refine (CD.out _ LA0.out).mono ?_
          rintro e x1 ⟨A2, c2, rfl, hl2, ⟨b2, rfl, hb2⟩, hb⟩
          have PB1 := Lib.hid (PB0.out.below hb)
          have XB1 := Lib.hid (XB0.out.below hb)
          have D1 : Hid (Blk x1 z 39 (dcs A1 m c1 M T)) := D0.out.2.below hb
          have LA1 := Lib.hid hl2
          have HB2 : Hid (b2 ≠ g ∧ b2 ≠ q ∧ b2 ≠ z) := by have := PB0.out.past2 hb2; exact this
          clear hl2 hb2 hb PB0 XB0 LA0
          go_simp
          refine hK.out _ _ (fun _ => ⟨HR.out _ PB1.out.be, D1.out⟩) ?_
          clear hK K
          have E0 : Hid (x1.rangeAt b (o + k * 9) ((P k).cs ++ [.int .i64 (X k)]) ∧ Blk x1 z 39 (dcs A1 m c1 M T)) := ⟨HR.out _ PB1.out.be, D1.out⟩
          clear D0
          have D0 := E0
          clear E0
          try simp only [Act.put, List.setIfInBounds_toArray, List.set_cons_zero, List.set_cons_succ]
          refine til_take (i := 12) (oi := ⟨some 80, _, _, _, _, _⟩) (v := ?_) rfl (by kernel_rfl) (by kernel_rfl) (by kernel_rfl) (by decide) (by kernel_rfl) (by kernel_rfl) (fun _ _ _ h => h) (Or.inl ⟨by rfl, ?_⟩) D0.out ?_
          rotate_left
          · (intro W hSW; clear hSW; go_simp)
            first | done | (with_reducible rfl)
          try simp only [Act.put, List.setIfInBounds_toArray, List.set_cons_zero, List.set_cons_succ]
          refine til_take (i := 13) (oi := ⟨some 93, _, _, _, _, _⟩) (v := ?_) rfl (by kernel_rfl) (by kernel_rfl) (by kernel_rfl) (by decide) (by kernel_rfl) (by kernel_rfl) (fun _ _ _ h => h) (Or.inl ⟨by rfl, ?_⟩) D0.out ?_
          rotate_left
          · (intro W hSW; clear hSW; go_simp)
            first | done | (with_reducible rfl)
          try simp only [Act.put, List.setIfInBounds_toArray, List.set_cons_zero, List.set_cons_succ]
          refine til_two (i := 14) (j := 15) (o := ⟨some 94, _, _, _, _, _⟩) (o' := ⟨none, _, _, _, _, _⟩) (by kernel_rfl) rfl rfl (fun K hK => ?_) (fun K hK => ?_)
          · skip
            go_simp
            refine hK.out _ _ (fun _ => D0.out) ?_
            clear hK K
            try simp only [Act.put, List.setIfInBounds_toArray, List.set_cons_zero, List.set_cons_succ]
            refine til_one (i := 15) (o := ⟨none, _, _, _, _, _⟩) (by kernel_rfl) rfl (fun K hK => ?_)
            refine step_lay (by rfl) 39 3 size39 (.tmp 9) (.tmp 93) (by rfl) z (dcs (some ⟨b2, 0, none⟩) L'.length c2 M T') (by rfl) (by rfl) 39 (dcs A1 m c1 M T) D1.out rfl rfl (dcs_one _ _ _ _ _) ?_
            intro x9 K9 F9
            refine hK.out _ _ (past (by kernel_rfl)) ?_
            clear hK K
            try simp only [Act.put]
            refine til_one (i := 16) (o := ⟨some 12, _, _, _, _, _⟩) (by kernel_rfl) rfl (fun K hK => ?_)
            go_simp
            refine hK.out _ _ (past (by kernel_rfl)) ?_
            clear hK K
            try simp only [Act.put, List.setIfInBounds_toArray, List.set_cons_zero, List.set_cons_succ]
            refine til_done (by kernel_rfl) ?_ _
            have PB9 := Lib.hid (PB1.out.put K9.out F9.out LA1.out HB2.out HL0.out)
            have XB9 : Hid (Blk x9 Xb 32 s.cs) := XB1.out.far F9.out (fun e => HXZ.out e)
            go_wp2_with fail
            go_meet
            case rel => exact ⟨rfl, XB9.out, _, _, PB9.out, _, rfl⟩
          · skip
            refine step_lay (by rfl) 39 3 size39 (.tmp 9) (.tmp 93) (by rfl) z (dcs (some ⟨b2, 0, none⟩) L'.length c2 M T') (by rfl) (by rfl) 39 (dcs A1 m c1 M T) D1.out rfl rfl (dcs_one _ _ _ _ _) ?_
            intro x9 K9 F9
            refine hK.out _ _ (past (by kernel_rfl)) ?_
            clear hK K
            try simp only [Act.put]
            refine til_one (i := 14) (o := ⟨some 94, _, _, _, _, _⟩) (by kernel_rfl) rfl (fun K hK => ?_)
            go_simp
            refine hK.out _ _ (past (by kernel_rfl)) ?_
            clear hK K
            try simp only [Act.put, List.setIfInBounds_toArray, List.set_cons_zero, List.set_cons_succ]
            refine til_one (i := 16) (o := ⟨some 12, _, _, _, _, _⟩) (by kernel_rfl) rfl (fun K hK => ?_)
            go_simp
            refine hK.out _ _ (past (by kernel_rfl)) ?_
            clear hK K
            try simp only [Act.put, List.setIfInBounds_toArray, List.set_cons_zero, List.set_cons_succ]
            refine til_done (by kernel_rfl) ?_ _
            have PB9 := Lib.hid (PB1.out.put K9.out F9.out LA1.out HB2.out HL0.out)
            have XB9 : Hid (Blk x9 Xb 32 s.cs) := XB1.out.far F9.out (fun e => HXZ.out e)
            go_wp2_with fail
            go_meet
            case rel => exact ⟨rfl, XB9.out, _, _, PB9.out, _, rfl⟩
        case rest =>
          clear PB XB hdz hla CD
          obtain ⟨rfl, hx, A3, c3, hpl, b3, rfl⟩ := hcut
          have XB := Lib.hid hx
          have PB := Lib.hid hpl
          clear hx hpl
          have HRW := Lib.hid (HR.out _ PB.out.be)
          have CG := Lib.hid (get_ g q M L' T' (P k) _ PB.out.sk hok)
          unfold GetOut at CG
          rw [HGET.out.1, HGET.out.2] at CG
          go_upto_region 14 with (first | (refine wpList_pre (by rfl) (.tmp 100) rfl _ _ rfl (P k) (seen_pre HRW.out) ?_) | (go_at_call 14; (with_reducible refine CG.out.mono ?_); rintro e w5 ⟨rfl, hb⟩; have PB5 := Lib.hid (PB.out.below hb); have XB5 := Lib.hid (XB.out.below hb); clear hb) | (refine wpList_new rfl (.tmp 13) (.tmp 103) rfl w5 s rfl rfl ?_; intro w6 YB hb6; have PB6 := Lib.hid (PB5.out.below hb6.out); have XB6 := Lib.hid (XB5.out.below hb6.out); clear hb6))
          clear PB XB CG HRW PB5 XB5 HGET
          have PB := PB6
          have XB := XB6
          clear PB6 XB6
          generalize w5.heap.size = Yb at *
          refine wp_region_held_drew (S := fun W => Blk W Xb 32 s.cs ∧ Blk W Yb 32 s.cs ∧ Play w g q z M w0.heap.size p L' T' (some ⟨b3, 0, none⟩) c3 L' T' W) (by kernel_rfl) ?_ (fun _ => ?_)
          · exact ⟨XB.out, YB.out, PB.out.drew⟩
          have HS0 : Hid (Blk w6.drew Xb 32 s.cs ∧ Blk w6.drew Yb 32 s.cs ∧ Play w g q z M w0.heap.size p L' T' (some ⟨b3, 0, none⟩) c3 L' T' w6.drew) := ⟨XB.out, YB.out, PB.out.drew⟩
          clear PB XB YB
          generalize w6.drew = x0 at *
          refine wpAnyH_take (i := 0) (oi := ⟨some 105, _, _, _, _, _⟩) (v := .agg s.cs.toArray) rfl (by kernel_rfl) (by kernel_rfl) (by kernel_rfl) (fun _ _ _ h => h) (yields_slo32 (by rfl) (.tmp 11) rfl Xb 0 rfl s (fun _ h => whole_at h.1)) HS0.out ?_
          try simp only [Act.put, List.setIfInBounds_toArray, List.set_cons_zero, List.set_cons_succ]
          refine wpAnyH_take (i := 1) (oi := ⟨some 106, _, _, _, _, _⟩) (v := ?_) rfl (by kernel_rfl) (by kernel_rfl) (by kernel_rfl) (fun _ _ _ h => h) (Or.inl ⟨by rfl, ?_⟩) HS0.out ?_
          rotate_left
          · (intro W hSW; clear hSW; go_simp)
            first | done | (with_reducible rfl)
          try simp only [Act.put, List.setIfInBounds_toArray, List.set_cons_zero, List.set_cons_succ]
          refine wpAnyH_take (i := 2) (oi := ⟨some 107, _, _, _, _, _⟩) (v := (.slice (some ⟨b3, 0, none⟩) m' c3)) rfl (by kernel_rfl) (by kernel_rfl) (by kernel_rfl) (fun _ _ _ h => h) (Or.inl ⟨by rfl, ?_⟩) HS0.out ?_
          · (intro W hSW; have hz := hSW.2.2.dz; rw [HM'.out] at hz; have hc := hz.cell 0; clear hz; clear hSW; go_simp)
          try simp only [Act.put, List.setIfInBounds_toArray, List.set_cons_zero, List.set_cons_succ]
          refine wpAnyH_take (i := 3) (oi := ⟨some 108, _, _, _, _, _⟩) (v := ?_) rfl (by kernel_rfl) (by kernel_rfl) (by kernel_rfl) (fun _ _ _ h => h) (Or.inl ⟨by rfl, ?_⟩) HS0.out ?_
          rotate_left
          · (intro W hSW; clear hSW; go_simp)
            first | done | (with_reducible rfl)
          try simp only [Act.put, List.setIfInBounds_toArray, List.set_cons_zero, List.set_cons_succ]
          refine wpAnyH_take (i := 4) (oi := ⟨some 109, _, _, _, _, _⟩) (v := ?_) rfl (by kernel_rfl) (by kernel_rfl) (by kernel_rfl) (fun _ _ _ h => h) (Or.inl ⟨by rfl, ?_⟩) HS0.out ?_
          rotate_left
          · (intro W hSW; clear hSW; go_simp)
            first | done | (with_reducible rfl)
          try simp only [Act.put, List.setIfInBounds_toArray, List.set_cons_zero, List.set_cons_succ]
          refine wpAnyH_take (i := 5) (oi := ⟨some 110, _, _, _, _, _⟩) (v := .agg s.cs.toArray) rfl (by kernel_rfl) (by kernel_rfl) (by kernel_rfl) (fun _ _ _ h => h) (yields_slo46 (by rfl) (.tmp 109) rfl b3 (j * 10) rfl s (fun W h => HSL.out W h.2.2.la)) HS0.out ?_
          try simp only [Act.put, List.setIfInBounds_toArray, List.set_cons_zero, List.set_cons_succ]
          refine wpAnyH_take (i := 6) (oi := ⟨some 111, _, _, _, _, _⟩) (v := .bool (!true)) rfl (by kernel_rfl) (by kernel_rfl) (by kernel_rfl) (fun _ _ _ h => h) (yields_neq (by rfl) 46 (by kernel_rfl) (.tmp 105) (.tmp 110) 46 rfl s.cs.toArray s.cs.toArray (by rfl) (by rfl) true HE46.out) HS0.out ?_
          try simp only [Act.put, List.setIfInBounds_toArray, List.set_cons_zero, List.set_cons_succ]
          refine wpAnyH_take (i := 7) (oi := ⟨some 112, _, _, _, _, _⟩) (v := ?_) rfl (by kernel_rfl) (by kernel_rfl) (by kernel_rfl) (fun _ _ _ h => h) (Or.inl ⟨by rfl, ?_⟩) HS0.out ?_
          rotate_left
          · (intro W hSW; clear hSW; go_simp)
            first | done | (with_reducible rfl)
          try simp only [Act.put, List.setIfInBounds_toArray, List.set_cons_zero, List.set_cons_succ]
          refine wpAnyH_take (i := 8) (oi := ⟨some 113, _, _, _, _, _⟩) (v := .agg s.cs.toArray) rfl (by kernel_rfl) (by kernel_rfl) (by kernel_rfl) (fun _ _ _ h => h) (yields_slo32 (by rfl) (.tmp 11) rfl Xb 0 rfl s (fun _ h => whole_at h.1)) HS0.out ?_
          try simp only [Act.put, List.setIfInBounds_toArray, List.set_cons_zero, List.set_cons_succ]
          refine wpAnyH_take (i := 9) (oi := ⟨some 114, _, _, _, _, _⟩) (v := .agg s.cs.toArray) rfl (by kernel_rfl) (by kernel_rfl) (by kernel_rfl) (fun _ _ _ h => h) (yields_slo32 (by rfl) (.tmp 13) rfl Yb 0 rfl s (fun _ h => whole_at h.2.1)) HS0.out ?_
          try simp only [Act.put, List.setIfInBounds_toArray, List.set_cons_zero, List.set_cons_succ]
          refine wpAnyH_take (i := 10) (oi := ⟨some 115, _, _, _, _, _⟩) (v := .bool (!true)) rfl (by kernel_rfl) (by kernel_rfl) (by kernel_rfl) (fun _ _ _ h => h) (yields_neq (by rfl) 32 (by kernel_rfl) (.tmp 113) (.tmp 114) 32 rfl s.cs.toArray s.cs.toArray (by rfl) (by rfl) true HE32.out) HS0.out ?_
          try simp only [Act.put, List.setIfInBounds_toArray, List.set_cons_zero, List.set_cons_succ]
          refine wpAnyH_take (i := 11) (oi := ⟨some 116, _, _, _, _, _⟩) (v := ?_) rfl (by kernel_rfl) (by kernel_rfl) (by kernel_rfl) (fun _ _ _ h => h) (Or.inl ⟨by rfl, ?_⟩) HS0.out ?_
          rotate_left
          · (intro W hSW; clear hSW; go_simp)
            first | done | (with_reducible rfl)
          try simp only [Act.put, List.setIfInBounds_toArray, List.set_cons_zero, List.set_cons_succ]
          refine wpAnyH_take (i := 12) (oi := ⟨some 117, _, _, _, _, _⟩) (v := ?_) rfl (by kernel_rfl) (by kernel_rfl) (by kernel_rfl) (fun _ _ _ h => h) (Or.inl ⟨by rfl, ?_⟩) HS0.out ?_
          rotate_left
          · (intro W hSW; clear hSW; go_simp)
            first | done | (with_reducible rfl)
          try simp only [Act.put, List.setIfInBounds_toArray, List.set_cons_zero, List.set_cons_succ]
          refine wpAnyH_take (i := 13) (oi := ⟨some 118, _, _, _, _, _⟩) (v := ?_) rfl (by kernel_rfl) (by kernel_rfl) (by kernel_rfl) (fun _ _ _ h => h) (Or.inl ⟨by rfl, ?_⟩) HS0.out ?_
          rotate_left
          · (intro W hSW; clear hSW; go_simp)
            first | done | (with_reducible rfl)
          try simp only [Act.put, List.setIfInBounds_toArray, List.set_cons_zero, List.set_cons_succ]
          refine wpAnyH_take (i := 14) (oi := ⟨some 119, _, _, _, _, _⟩) (v := ?_) rfl (by kernel_rfl) (by kernel_rfl) (by kernel_rfl) (fun _ _ _ h => h) (Or.inl ⟨by rfl, ?_⟩) HS0.out ?_
          rotate_left
          · (intro W hSW; clear hSW; go_simp)
            first | done | (with_reducible rfl)
          try simp only [Act.put, List.setIfInBounds_toArray, List.set_cons_zero, List.set_cons_succ]
          refine wpAnyH_take (i := 15) (oi := ⟨some 120, _, _, _, _, _⟩) (v := ?_) rfl (by kernel_rfl) (by kernel_rfl) (by kernel_rfl) (fun _ _ _ h => h) (Or.inl ⟨by rfl, ?_⟩) HS0.out ?_
          rotate_left
          · (intro W hSW; clear hSW; go_simp)
            first | done | (with_reducible rfl)
          try simp only [Act.put, List.setIfInBounds_toArray, List.set_cons_zero, List.set_cons_succ]
          refine wpAnyH_take (i := 16) (oi := ⟨some 121, _, _, _, _, _⟩) (v := ?_) rfl (by kernel_rfl) (by kernel_rfl) (by kernel_rfl) (fun _ _ _ h => h) (Or.inl ⟨by rfl, ?_⟩) HS0.out ?_
          rotate_left
          · (intro W hSW; clear hSW; go_simp)
            first | done | (with_reducible rfl)
          try simp only [Act.put, List.setIfInBounds_toArray, List.set_cons_zero, List.set_cons_succ]
          refine wpAnyH_take (i := 17) (oi := ⟨some 122, _, _, _, _, _⟩) (v := ?_) rfl (by kernel_rfl) (by kernel_rfl) (by kernel_rfl) (fun _ _ _ h => h) (Or.inl ⟨by rfl, ?_⟩) HS0.out ?_
          rotate_left
          · (intro W hSW; clear hSW; go_simp)
            first | done | (with_reducible rfl)
          try simp only [Act.put, List.setIfInBounds_toArray, List.set_cons_zero, List.set_cons_succ]
          refine wpAnyH_take (i := 19) (oi := ⟨some 124, _, _, _, _, _⟩) (v := ?_) rfl (by kernel_rfl) (by kernel_rfl) (by kernel_rfl) (fun _ _ _ h => h) (Or.inl ⟨by rfl, ?_⟩) HS0.out ?_
          rotate_left
          · (intro W hSW; clear hSW; go_simp)
            first | done | (with_reducible rfl)
          try simp only [Act.put, List.setIfInBounds_toArray, List.set_cons_zero, List.set_cons_succ]
          refine wpAnyH_take (i := 20) (oi := ⟨some 125, _, _, _, _, _⟩) (v := (.slice (some ⟨b3, 0, none⟩) m' c3)) rfl (by kernel_rfl) (by kernel_rfl) (by kernel_rfl) (fun _ _ _ h => h) (Or.inl ⟨by rfl, ?_⟩) HS0.out ?_
          · (intro W hSW; have hz := hSW.2.2.dz; rw [HM'.out] at hz; have hc := hz.cell 0; clear hz; clear hSW; go_simp)
          try simp only [Act.put, List.setIfInBounds_toArray, List.set_cons_zero, List.set_cons_succ]
          refine wpAnyH_ready (rs := [18]) (by kernel_rfl) (by simp) ?_
          refine AllReadyH.cons (o := ⟨some 123, _, _, _, _, _⟩) rfl (fun K hK => ?_) AllReadyH.nil
          go_simp
          refine (CS.out x0 HS0.out.2.2.sk).mono ?_
          rintro e x1 ⟨A5, c5, rfl, hb, hr5⟩
          have HS1 : Hid (Blk x1 Xb 32 s.cs ∧ Blk x1 Yb 32 s.cs ∧ Play w g q z M w0.heap.size p L' T' (some ⟨b3, 0, none⟩) c3 L' T' x1) := ⟨HS0.out.1.below hb, HS0.out.2.1.below hb, HS0.out.2.2.below hb⟩
          have LA5 : Hid (LAt A5 L' x1) := RowAt.lat (base := 0) (hr5.imp id (fun ⟨q3, e, _, h⟩ => ⟨q3, e, Nat.zero_le _, h⟩))
          clear hb hr5
          go_simp
          refine hK.out _ _ ?_ (fun _ => ?_)
          · exact HS1.out
          clear hK K
          try simp only [Act.put, List.setIfInBounds_toArray, List.set_cons_zero, List.set_cons_succ]
          refine wpAnyH_ready (rs := [21]) (by kernel_rfl) (by simp) ?_
          refine AllReadyH.cons (o := ⟨some 126, _, _, _, _, _⟩) rfl (fun K hK => ?_) AllReadyH.nil
          go_simp
          refine (CM.out A5 c5 x1 LA5.out b3 c3 HS1.out.2.2.la).mono ?_
          rintro e x2 ⟨rfl, hb⟩
          have HS2 : Hid (Blk x2 Xb 32 s.cs ∧ Blk x2 Yb 32 s.cs ∧ Play w g q z M w0.heap.size p L' T' (some ⟨b3, 0, none⟩) c3 L' T' x2) := ⟨HS1.out.1.below hb, HS1.out.2.1.below hb, HS1.out.2.2.below hb⟩
          clear hb
          go_simp
          refine hK.out _ _ ?_ (fun _ => ?_)
          · exact HS2.out
          clear hK K
          try simp only [Act.put, List.setIfInBounds_toArray, List.set_cons_zero, List.set_cons_succ]
          refine wpAnyH_take (i := 22) (oi := ⟨some 127, _, _, _, _, _⟩) (v := ?_) rfl (by kernel_rfl) (by kernel_rfl) (by kernel_rfl) (fun _ _ _ h => h) (Or.inl ⟨by rfl, ?_⟩) HS2.out ?_
          rotate_left
          · (intro W hSW; clear hSW; go_simp)
            first | done | (with_reducible rfl)
          try simp only [Act.put, List.setIfInBounds_toArray, List.set_cons_zero, List.set_cons_succ]
          refine wpAnyH_take (i := 23) (oi := ⟨some 128, _, _, _, _, _⟩) (v := ?_) rfl (by kernel_rfl) (by kernel_rfl) (by kernel_rfl) (fun _ _ _ h => h) (Or.inl ⟨by rfl, ?_⟩) HS2.out ?_
          rotate_left
          · (intro W hSW; clear hSW; go_simp)
            first | done | (with_reducible rfl)
          try simp only [Act.put, List.setIfInBounds_toArray, List.set_cons_zero, List.set_cons_succ]
          refine wpAnyH_take (i := 24) (oi := ⟨some 129, _, _, _, _, _⟩) (v := ?_) rfl (by kernel_rfl) (by kernel_rfl) (by kernel_rfl) (fun _ _ _ h => h) (Or.inl ⟨by rfl, ?_⟩) HS2.out ?_
          rotate_left
          · (intro W hSW; clear hSW; go_simp)
            first | done | (with_reducible rfl)
          try simp only [Act.put, List.setIfInBounds_toArray, List.set_cons_zero, List.set_cons_succ]
          refine wpAnyH_take (i := 25) (oi := ⟨some 130, _, _, _, _, _⟩) (v := ?_) rfl (by kernel_rfl) (by kernel_rfl) (by kernel_rfl) (fun _ _ _ h => h) (Or.inl ⟨by rfl, ?_⟩) HS2.out ?_
          rotate_left
          · (intro W hSW; clear hSW; go_simp)
            first | done | (with_reducible rfl)
          try simp only [Act.put, List.setIfInBounds_toArray, List.set_cons_zero, List.set_cons_succ]
          refine wpAnyH_take (i := 27) (oi := ⟨some 132, _, _, _, _, _⟩) (v := ?_) rfl (by kernel_rfl) (by kernel_rfl) (by kernel_rfl) (fun _ _ _ h => h) (Or.inl ⟨by rfl, ?_⟩) HS2.out ?_
          rotate_left
          · (intro W hSW; clear hSW; go_simp)
            first | done | (with_reducible rfl)
          try simp only [Act.put, List.setIfInBounds_toArray, List.set_cons_zero, List.set_cons_succ]
          refine wpAnyH_take (i := 28) (oi := ⟨some 133, _, _, _, _, _⟩) (v := .int .i64 T') rfl (by kernel_rfl) (by kernel_rfl) (by kernel_rfl) (fun _ _ _ h => h) (Or.inl ⟨by rfl, ?_⟩) HS2.out ?_
          · (intro W hSW; have hz := hSW.2.2.dz; rw [HM'.out] at hz; have hc := hz.cell 2; clear hz; clear hSW; go_simp)
          try simp only [Act.put, List.setIfInBounds_toArray, List.set_cons_zero, List.set_cons_succ]
          refine wpAnyH_ready (rs := [26]) (by kernel_rfl) (by simp) ?_
          refine AllReadyH.cons (o := ⟨some 131, _, _, _, _, _⟩) rfl (fun K hK => ?_) AllReadyH.nil
          go_simp
          refine (total_ g q M L' T' x2 HS2.out.2.2.sk).mono ?_
          rintro e x3 ⟨rfl, hb0⟩
          have hb : Below x2.heap.size x2 x3 := hb0 ▸ Below.refl x2.heap.size x2
          have HS3 : Hid (Blk x3 Xb 32 s.cs ∧ Blk x3 Yb 32 s.cs ∧ Play w g q z M w0.heap.size p L' T' (some ⟨b3, 0, none⟩) c3 L' T' x3) := ⟨HS2.out.1.below hb, HS2.out.2.1.below hb, HS2.out.2.2.below hb⟩
          clear hb hb0
          go_simp
          refine hK.out _ _ ?_ (fun _ => ?_)
          · exact HS3.out
          clear hK K
          try simp only [Act.put, List.setIfInBounds_toArray, List.set_cons_zero, List.set_cons_succ]
          refine wpAnyH_take (i := 29) (oi := ⟨some 134, _, _, _, _, _⟩) (v := ?_) rfl (by kernel_rfl) (by kernel_rfl) (by kernel_rfl) (fun _ _ _ h => h) (Or.inl ⟨by rfl, ?_⟩) HS3.out ?_
          rotate_left
          · (intro W hSW; clear hSW; go_simp)
            first | done | (with_reducible rfl)
          try simp only [Act.put, List.setIfInBounds_toArray, List.set_cons_zero, List.set_cons_succ]
          refine wpAnyH_take (i := 30) (oi := ⟨some 135, _, _, _, _, _⟩) (v := ?_) rfl (by kernel_rfl) (by kernel_rfl) (by kernel_rfl) (fun _ _ _ h => h) (Or.inl ⟨by rfl, ?_⟩) HS3.out ?_
          rotate_left
          · (intro W hSW; clear hSW; go_simp)
            first | done | (with_reducible rfl)
          try simp only [Act.put, List.setIfInBounds_toArray, List.set_cons_zero, List.set_cons_succ]
          refine wpAnyH_done (by kernel_rfl) ?_ _
          go_wp2_with fail
          go_roundw
          case rel => exact ⟨k + 1, _, c3, by omega, by go_num, by rw [HL'.out, HT'.out]; exact HS3.out.2.2⟩
          case measure => simp [intOf]; omega
    · obtain rfl : n = k := by omega
      have few := PL.out.sk.few
      have OKS := Lib.hid PL.out.sk.oks
      generalize ran M P X n = L at *
      generalize tot X n = T at *
      have CG := Lib.hid (get_ g q M L T p wr PL.out.sk HPP.out)
      have CF := Lib.hid (fun W (h : LAt A1 L W) => dfind_ A1 c1 M T L p W h OKS.out HPP.out (by omega))
      have CR := Lib.hid (fun W (h : SAt W g q M L T) => reset_ g q M L T W h)
      unfold GetOut at CG
      obtain ⟨m, hm⟩ : ∃ m, L.length = m := ⟨_, rfl⟩
      have HM := Lib.hid hm
      rw [hm] at CF few
      clear hm
      have OS := Lib.hid (show (get L p).Ok by unfold get; split; exact OKS.out.get_ _; exact slo0_ok)
      have HSG : Hid (∀ b1, A1 = some ⟨b1, 0, none⟩ → has L p = true → ∀ W, LAt A1 L W → W.rangeAt b1 (idx L p * 10) (get L p).cs) := fun b1 e hh W h => by
        obtain ⟨q', e', hr⟩ := h _ _ (at_some (has_iff.1 hh))
        rw [e] at e'
        cases e'
        rw [show get L p = at_ L (idx L p) by simp [get, hh]]
        exact hr
      have HSA : Hid (has L p = true → ∃ b1, A1 = some ⟨b1, 0, none⟩) := fun hh => by
        obtain ⟨q', e', _⟩ := PL.out.la _ _ (at_some (has_iff.1 hh))
        exact ⟨q', e'⟩
      have HG0 : Hid (has L p = false → get L p = slo0) := fun hh => by simp [get, hh]
      have HKK : Hid (has L p = true → idx L p < m) := fun hh => HM.out ▸ has_iff.1 hh
      have HE32 := Lib.hid (fun W => eq_slo32 OS.out OS.out W)
      have HE46 := Lib.hid (fun W => eq_slo46 OS.out OS.out W)
      rw [decide_eq_true (rfl : get L p = get L p)] at HE32 HE46
      generalize get L p = s at *
      go_upto_region 18 with (first | (refine wpList_pre (by rfl) (.tmp 5) rfl w0.heap.size 0 rfl p (whole_at PL.out.box) ?_) | (go_at_call 14; (with_reducible refine CG.out.mono ?_); rintro e w5 ⟨rfl, hb⟩; have PL5 := Lib.hid (PL.out.below hb); clear hb) | (refine wpList_new rfl (.tmp 15) (.tmp 141) rfl w5 s rfl rfl ?_; intro w6 YB6 hb6; have PL6 := Lib.hid (PL5.out.below hb6.out); clear hb6))
      clear PL CG PL5
      generalize w5.heap.size = Yb at *
      have hdz6 := PL6.out.dz
      rw [HM.out] at hdz6
      have d0 : w6.cell? ⟨z, 0, none⟩ = some (.slice A1 m c1) := hdz6.cell 0
      have d1 : w6.cell? ⟨z, 1, none⟩ = some (.int .i64 (M : Nat)) := hdz6.cell 1
      have d2 : w6.cell? ⟨z, 2, none⟩ = some (.int .i64 T) := hdz6.cell 2
      go_upto_region 19 with (first | (refine wpList_pre (by rfl) (.tmp 5) rfl w0.heap.size 0 rfl p (whole_at PL6.out.box) ?_) | (go_at_call 16; (with_reducible refine (CF.out _ PL6.out.la).mono ?_); rintro e w7 ⟨rfl, hb⟩; have PL7 := Lib.hid (PL6.out.below hb); have YB := Lib.hid (YB6.out.below hb); clear hb))
      clear d0 d1 d2 hdz6 PL6 YB6 CF
      have hdz := PL7.out.dz
      have hla := PL7.out.la
      rw [HM.out] at hdz
      rcases hh : has L p with _ | _
      · have e1 : fnd L p = -1 := by simp [fnd, hh]
        have HB0 : Hid (∀ W, (Instr.build 32 #[]).run Try.prog W = .ok (.agg s.cs.toArray) W) := fun W => by rw [HG0.out hh]; exact run_slo0 W
        rw [e1]
        clear hh e1 HG0 HSG HSA HKK
        refine wp_region_held_drew (S := fun W => Blk W Yb 32 s.cs ∧ Blk W z 39 (dcs A1 m c1 M T) ∧ LAt A1 L W) (by kernel_rfl) ?_ (fun _ => ?_)
        · exact ⟨YB.out, hdz, hla⟩
        have HS0 : Hid (Blk w7.drew Yb 32 s.cs ∧ Blk w7.drew z 39 (dcs A1 m c1 M T) ∧ LAt A1 L w7.drew) := ⟨YB.out, hdz, hla⟩
        refine wpAnyH_take (i := 0) (oi := ⟨some 146, _, _, _, _, _⟩) (v := ?_) rfl (by kernel_rfl) (by kernel_rfl) (by kernel_rfl) (fun _ _ _ h => h) (Or.inl ⟨by rfl, ?_⟩) HS0.out ?_
        rotate_left
        · (intro W hSW; clear hSW; go_simp)
          first | done | (with_reducible rfl)
        try simp only [Act.put, List.setIfInBounds_toArray, List.set_cons_zero, List.set_cons_succ]
        refine wpAnyH_take (i := 1) (oi := ⟨some 147, _, _, _, _, _⟩) (v := ?_) rfl (by kernel_rfl) (by kernel_rfl) (by kernel_rfl) (fun _ _ _ h => h) (Or.inl ⟨by rfl, ?_⟩) HS0.out ?_
        rotate_left
        · (intro W hSW; clear hSW; go_simp)
          first | done | (with_reducible rfl)
        try simp only [Act.put, List.setIfInBounds_toArray, List.set_cons_zero, List.set_cons_succ]
        refine wpAnyH_take (i := 2) (oi := ⟨some 148, _, _, _, _, _⟩) (v := ?_) rfl (by kernel_rfl) (by kernel_rfl) (by kernel_rfl) (fun _ _ _ h => h) (Or.inl ⟨by rfl, ?_⟩) HS0.out ?_
        rotate_left
        · (intro W hSW; clear hSW; go_simp)
          first | done | (with_reducible rfl)
        try simp only [Act.put, List.setIfInBounds_toArray, List.set_cons_zero, List.set_cons_succ]
        refine wpAnyH_take (i := 3) (oi := ⟨some 149, _, _, _, _, _⟩) (v := ?_) rfl (by kernel_rfl) (by kernel_rfl) (by kernel_rfl) (fun _ _ _ h => h) (Or.inl ⟨by rfl, ?_⟩) HS0.out ?_
        rotate_left
        · (intro W hSW; clear hSW; go_simp)
          first | done | (with_reducible rfl)
        try simp only [Act.put, List.setIfInBounds_toArray, List.set_cons_zero, List.set_cons_succ]
        refine wpAnyH_take (i := 4) (oi := ⟨some 150, _, _, _, _, _⟩) (v := ?_) rfl (by kernel_rfl) (by kernel_rfl) (by kernel_rfl) (fun _ _ _ h => h) (Or.inl ⟨by rfl, ?_⟩) HS0.out ?_
        rotate_left
        · (intro W hSW; clear hSW; go_simp)
          first | done | (with_reducible rfl)
        try simp only [Act.put, List.setIfInBounds_toArray, List.set_cons_zero, List.set_cons_succ]
        refine wpAnyH_take (i := 5) (oi := ⟨some 151, _, _, _, _, _⟩) (v := ?_) rfl (by kernel_rfl) (by kernel_rfl) (by kernel_rfl) (fun _ _ _ h => h) (Or.inl ⟨by rfl, ?_⟩) HS0.out ?_
        rotate_left
        · (intro W hSW; clear hSW; go_simp)
          first | done | (with_reducible rfl)
        try simp only [Act.put, List.setIfInBounds_toArray, List.set_cons_zero, List.set_cons_succ]
        refine wpAnyH_take (i := 6) (oi := ⟨some 152, _, _, _, _, _⟩) (v := ?_) rfl (by kernel_rfl) (by kernel_rfl) (by kernel_rfl) (fun _ _ _ h => h) (Or.inl ⟨by rfl, ?_⟩) HS0.out ?_
        rotate_left
        · (intro W hSW; clear hSW; go_simp)
          first | done | (with_reducible rfl)
        try simp only [Act.put, List.setIfInBounds_toArray, List.set_cons_zero, List.set_cons_succ]
        refine wpAnyH_take (i := 7) (oi := ⟨some 153, _, _, _, _, _⟩) (v := undef) rfl (by kernel_rfl) (by kernel_rfl) (by kernel_rfl) (fun _ _ _ h => h) (Or.inr ⟨by rfl, rfl⟩) HS0.out ?_
        try simp only [Act.put, List.setIfInBounds_toArray, List.set_cons_zero, List.set_cons_succ]
        refine wpAnyH_take (i := 8) (oi := ⟨some 154, _, _, _, _, _⟩) (v := undef) rfl (by kernel_rfl) (by kernel_rfl) (by kernel_rfl) (fun _ _ _ h => h) (Or.inr ⟨by rfl, rfl⟩) HS0.out ?_
        try simp only [Act.put, List.setIfInBounds_toArray, List.set_cons_zero, List.set_cons_succ]
        refine wpAnyH_take (i := 9) (oi := ⟨some 155, _, _, _, _, _⟩) (v := undef) rfl (by kernel_rfl) (by kernel_rfl) (by kernel_rfl) (fun _ _ _ h => h) (Or.inr ⟨by rfl, rfl⟩) HS0.out ?_
        try simp only [Act.put, List.setIfInBounds_toArray, List.set_cons_zero, List.set_cons_succ]
        refine wpAnyH_take (i := 10) (oi := ⟨some 156, _, _, _, _, _⟩) (v := undef) rfl (by kernel_rfl) (by kernel_rfl) (by kernel_rfl) (fun _ _ _ h => h) (Or.inr ⟨by rfl, rfl⟩) HS0.out ?_
        try simp only [Act.put, List.setIfInBounds_toArray, List.set_cons_zero, List.set_cons_succ]
        refine wpAnyH_take (i := 11) (oi := ⟨some 157, _, _, _, _, _⟩) (v := undef) rfl (by kernel_rfl) (by kernel_rfl) (by kernel_rfl) (fun _ _ _ h => h) (Or.inr ⟨by rfl, rfl⟩) HS0.out ?_
        try simp only [Act.put, List.setIfInBounds_toArray, List.set_cons_zero, List.set_cons_succ]
        refine wpAnyH_take (i := 12) (oi := ⟨some 158, _, _, _, _, _⟩) (v := undef) rfl (by kernel_rfl) (by kernel_rfl) (by kernel_rfl) (fun _ _ _ h => h) (Or.inr ⟨by rfl, rfl⟩) HS0.out ?_
        try simp only [Act.put, List.setIfInBounds_toArray, List.set_cons_zero, List.set_cons_succ]
        refine wpAnyH_take (i := 13) (oi := ⟨some 159, _, _, _, _, _⟩) (v := undef) rfl (by kernel_rfl) (by kernel_rfl) (by kernel_rfl) (fun _ _ _ h => h) (Or.inr ⟨by rfl, rfl⟩) HS0.out ?_
        try simp only [Act.put, List.setIfInBounds_toArray, List.set_cons_zero, List.set_cons_succ]
        refine wpAnyH_take (i := 14) (oi := ⟨some 160, _, _, _, _, _⟩) (v := ?_) rfl (by kernel_rfl) (by kernel_rfl) (by kernel_rfl) (fun _ _ _ h => h) (Or.inl ⟨by rfl, ?_⟩) HS0.out ?_
        rotate_left
        · (intro W hSW; clear hSW; go_simp)
          first | done | (with_reducible rfl)
        try simp only [Act.put, List.setIfInBounds_toArray, List.set_cons_zero, List.set_cons_succ]
        refine wpAnyH_take (i := 15) (oi := ⟨some 161, _, _, _, _, _⟩) (v := ?_) rfl (by kernel_rfl) (by kernel_rfl) (by kernel_rfl) (fun _ _ _ h => h) (Or.inl ⟨by rfl, ?_⟩) HS0.out ?_
        rotate_left
        · (intro W hSW; clear hSW; go_simp)
          first | done | (with_reducible rfl)
        try simp only [Act.put, List.setIfInBounds_toArray, List.set_cons_zero, List.set_cons_succ]
        refine wpAnyH_take (i := 16) (oi := ⟨some 162, _, _, _, _, _⟩) (v := ?_) rfl (by kernel_rfl) (by kernel_rfl) (by kernel_rfl) (fun _ _ _ h => h) (Or.inl ⟨by rfl, ?_⟩) HS0.out ?_
        rotate_left
        · (intro W hSW; clear hSW; go_simp)
          first | done | (with_reducible rfl)
        try simp only [Act.put, List.setIfInBounds_toArray, List.set_cons_zero, List.set_cons_succ]
        refine wpAnyH_take (i := 17) (oi := ⟨some 163, _, _, _, _, _⟩) (v := ?_) rfl (by kernel_rfl) (by kernel_rfl) (by kernel_rfl) (fun _ _ _ h => h) (Or.inl ⟨by rfl, ?_⟩) HS0.out ?_
        rotate_left
        · (intro W hSW; clear hSW; go_simp)
          first | done | (with_reducible rfl)
        try simp only [Act.put, List.setIfInBounds_toArray, List.set_cons_zero, List.set_cons_succ]
        refine wpAnyH_take (i := 18) (oi := ⟨some 164, _, _, _, _, _⟩) (v := ?_) rfl (by kernel_rfl) (by kernel_rfl) (by kernel_rfl) (fun _ _ _ h => h) (Or.inl ⟨by rfl, ?_⟩) HS0.out ?_
        rotate_left
        · (intro W hSW; clear hSW; go_simp)
          first | done | (with_reducible rfl)
        try simp only [Act.put, List.setIfInBounds_toArray, List.set_cons_zero, List.set_cons_succ]
        refine wpAnyH_take (i := 19) (oi := ⟨some 165, _, _, _, _, _⟩) (v := ?_) rfl (by kernel_rfl) (by kernel_rfl) (by kernel_rfl) (fun _ _ _ h => h) (Or.inl ⟨by rfl, ?_⟩) HS0.out ?_
        rotate_left
        · (intro W hSW; clear hSW; go_simp)
          first | done | (with_reducible rfl)
        try simp only [Act.put, List.setIfInBounds_toArray, List.set_cons_zero, List.set_cons_succ]
        refine wpAnyH_take (i := 20) (oi := ⟨some 166, _, _, _, _, _⟩) (v := .agg s.cs.toArray) rfl (by kernel_rfl) (by kernel_rfl) (by kernel_rfl) (fun _ _ _ h => h) (yields_slo32 (by rfl) (.tmp 15) rfl Yb 0 rfl s (fun _ h => whole_at h.1)) HS0.out ?_
        try simp only [Act.put, List.setIfInBounds_toArray, List.set_cons_zero, List.set_cons_succ]
        refine wpAnyH_take (i := 21) (oi := ⟨some 167, _, _, _, _, _⟩) (v := .agg s.cs.toArray) rfl (by kernel_rfl) (by kernel_rfl) (by kernel_rfl) (fun _ _ _ h => h) (yields_build (by rfl) 32 [] rfl [] rfl s.cs (HB0.out)) HS0.out ?_
        try simp only [Act.put, List.setIfInBounds_toArray, List.set_cons_zero, List.set_cons_succ]
        refine wpAnyH_take (i := 22) (oi := ⟨some 168, _, _, _, _, _⟩) (v := .bool (!true)) rfl (by kernel_rfl) (by kernel_rfl) (by kernel_rfl) (fun _ _ _ h => h) (yields_neq (by rfl) 32 (by kernel_rfl) (.tmp 166) (.tmp 167) 32 rfl s.cs.toArray s.cs.toArray (by rfl) (by rfl) true HE32.out) HS0.out ?_
        try simp only [Act.put, List.setIfInBounds_toArray, List.set_cons_zero, List.set_cons_succ]
        refine wpAnyH_take (i := 23) (oi := ⟨some 169, _, _, _, _, _⟩) (v := ?_) rfl (by kernel_rfl) (by kernel_rfl) (by kernel_rfl) (fun _ _ _ h => h) (Or.inl ⟨by rfl, ?_⟩) HS0.out ?_
        rotate_left
        · (intro W hSW; clear hSW; go_simp)
          first | done | (with_reducible rfl)
        try simp only [Act.put, List.setIfInBounds_toArray, List.set_cons_zero, List.set_cons_succ]
        refine wpAnyH_take (i := 24) (oi := ⟨some 170, _, _, _, _, _⟩) (v := ?_) rfl (by kernel_rfl) (by kernel_rfl) (by kernel_rfl) (fun _ _ _ h => h) (Or.inl ⟨by rfl, ?_⟩) HS0.out ?_
        rotate_left
        · (intro W hSW; clear hSW; go_simp)
          first | done | (with_reducible rfl)
        try simp only [Act.put, List.setIfInBounds_toArray, List.set_cons_zero, List.set_cons_succ]
        refine wpAnyH_done (by kernel_rfl) ?_ _
        have PL8 := Lib.hid PL7.out.drew
        clear PL7 YB hdz hla HS0
        generalize w7.drew = w8 at *
        go_wp2_with (first | (go_at_call 17; (with_reducible refine (CR.out _ PL8.out.sk).mono ?_); rintro e w9 ⟨rfl, hs, hf⟩; have S9 := Lib.hid hs; have B9 : Hid (Below w.heap.size w w9) := below_far PL8.out.be hf PL8.out.nums.1 PL8.out.nums.2.1 PL8.out.be.size; clear hs hf) | (go_at_call 11; (with_reducible refine (slots_ g q M [] 0 _ S9.out).mono ?_); rintro e w10 ⟨A5, c5, rfl, hb, _⟩; have S10 := Lib.hid (S9.out.below hb); have B10 : Hid (Below w.heap.size w w10) := B9.out.trans (hb.mono B9.out.size); clear hb) | (go_at_call 12; (with_reducible refine (total_ g q M [] 0 _ S10.out).mono ?_); rintro e w11 ⟨rfl, rfl⟩))
        go_ret
        exact ⟨rfl, HE.out _ B10.out⟩
      · obtain ⟨b1, rfl⟩ := HSA.out hh
        have e1 : fnd L p = (idx L p : Nat) := by simp [fnd, hh]
        have hj := HKK.out hh
        have HSL : Hid (∀ W, LAt (some ⟨b1, 0, none⟩) L W → W.rangeAt b1 (idx L p * 10) s.cs) := HSG.out b1 rfl hh
        rw [e1]
        clear hh e1 HG0 HSG HSA HKK
        generalize idx L p = j at *
        refine wp_region_held_drew (S := fun W => Blk W Yb 32 s.cs ∧ Blk W z 39 (dcs (some ⟨b1, 0, none⟩) m c1 M T) ∧ LAt (some ⟨b1, 0, none⟩) L W) (by kernel_rfl) ?_ (fun _ => ?_)
        · exact ⟨YB.out, hdz, hla⟩
        have HS0 : Hid (Blk w7.drew Yb 32 s.cs ∧ Blk w7.drew z 39 (dcs (some ⟨b1, 0, none⟩) m c1 M T) ∧ LAt (some ⟨b1, 0, none⟩) L w7.drew) := ⟨YB.out, hdz, hla⟩
        refine wpAnyH_take (i := 0) (oi := ⟨some 146, _, _, _, _, _⟩) (v := ?_) rfl (by kernel_rfl) (by kernel_rfl) (by kernel_rfl) (fun _ _ _ h => h) (Or.inl ⟨by rfl, ?_⟩) HS0.out ?_
        rotate_left
        · (intro W hSW; clear hSW; go_simp)
          first | done | (with_reducible rfl)
        try simp only [Act.put, List.setIfInBounds_toArray, List.set_cons_zero, List.set_cons_succ]
        refine wpAnyH_take (i := 1) (oi := ⟨some 147, _, _, _, _, _⟩) (v := ?_) rfl (by kernel_rfl) (by kernel_rfl) (by kernel_rfl) (fun _ _ _ h => h) (Or.inl ⟨by rfl, ?_⟩) HS0.out ?_
        rotate_left
        · (intro W hSW; clear hSW; go_simp)
          first | done | (with_reducible rfl)
        try simp only [Act.put, List.setIfInBounds_toArray, List.set_cons_zero, List.set_cons_succ]
        refine wpAnyH_take (i := 2) (oi := ⟨some 148, _, _, _, _, _⟩) (v := ?_) rfl (by kernel_rfl) (by kernel_rfl) (by kernel_rfl) (fun _ _ _ h => h) (Or.inl ⟨by rfl, ?_⟩) HS0.out ?_
        rotate_left
        · (intro W hSW; clear hSW; go_simp)
          first | done | (with_reducible rfl)
        try simp only [Act.put, List.setIfInBounds_toArray, List.set_cons_zero, List.set_cons_succ]
        refine wpAnyH_take (i := 3) (oi := ⟨some 149, _, _, _, _, _⟩) (v := ?_) rfl (by kernel_rfl) (by kernel_rfl) (by kernel_rfl) (fun _ _ _ h => h) (Or.inl ⟨by rfl, ?_⟩) HS0.out ?_
        rotate_left
        · (intro W hSW; clear hSW; go_simp)
          first | done | (with_reducible rfl)
        try simp only [Act.put, List.setIfInBounds_toArray, List.set_cons_zero, List.set_cons_succ]
        refine wpAnyH_take (i := 4) (oi := ⟨some 150, _, _, _, _, _⟩) (v := ?_) rfl (by kernel_rfl) (by kernel_rfl) (by kernel_rfl) (fun _ _ _ h => h) (Or.inl ⟨by rfl, ?_⟩) HS0.out ?_
        rotate_left
        · (intro W hSW; clear hSW; go_simp)
          first | done | (with_reducible rfl)
        try simp only [Act.put, List.setIfInBounds_toArray, List.set_cons_zero, List.set_cons_succ]
        refine wpAnyH_take (i := 5) (oi := ⟨some 151, _, _, _, _, _⟩) (v := ?_) rfl (by kernel_rfl) (by kernel_rfl) (by kernel_rfl) (fun _ _ _ h => h) (Or.inl ⟨by rfl, ?_⟩) HS0.out ?_
        rotate_left
        · (intro W hSW; clear hSW; go_simp)
          first | done | (with_reducible rfl)
        try simp only [Act.put, List.setIfInBounds_toArray, List.set_cons_zero, List.set_cons_succ]
        refine wpAnyH_take (i := 6) (oi := ⟨some 152, _, _, _, _, _⟩) (v := ?_) rfl (by kernel_rfl) (by kernel_rfl) (by kernel_rfl) (fun _ _ _ h => h) (Or.inl ⟨by rfl, ?_⟩) HS0.out ?_
        rotate_left
        · (intro W hSW; clear hSW; go_simp)
          first | done | (with_reducible rfl)
        try simp only [Act.put, List.setIfInBounds_toArray, List.set_cons_zero, List.set_cons_succ]
        refine wpAnyH_take (i := 7) (oi := ⟨some 153, _, _, _, _, _⟩) (v := .agg s.cs.toArray) rfl (by kernel_rfl) (by kernel_rfl) (by kernel_rfl) (fun _ _ _ h => h) (yields_slo32 (by rfl) (.tmp 15) rfl Yb 0 rfl s (fun _ h => whole_at h.1)) HS0.out ?_
        try simp only [Act.put, List.setIfInBounds_toArray, List.set_cons_zero, List.set_cons_succ]
        refine wpAnyH_take (i := 8) (oi := ⟨some 154, _, _, _, _, _⟩) (v := ?_) rfl (by kernel_rfl) (by kernel_rfl) (by kernel_rfl) (fun _ _ _ h => h) (Or.inl ⟨by rfl, ?_⟩) HS0.out ?_
        rotate_left
        · (intro W hSW; clear hSW; go_simp)
          first | done | (with_reducible rfl)
        try simp only [Act.put, List.setIfInBounds_toArray, List.set_cons_zero, List.set_cons_succ]
        refine wpAnyH_take (i := 9) (oi := ⟨some 155, _, _, _, _, _⟩) (v := (.slice (some ⟨b1, 0, none⟩) m c1)) rfl (by kernel_rfl) (by kernel_rfl) (by kernel_rfl) (fun _ _ _ h => h) (Or.inl ⟨by rfl, ?_⟩) HS0.out ?_
        · (intro W hSW; have hc := hSW.2.1.cell 0; clear hSW; go_simp)
        try simp only [Act.put, List.setIfInBounds_toArray, List.set_cons_zero, List.set_cons_succ]
        refine wpAnyH_take (i := 10) (oi := ⟨some 156, _, _, _, _, _⟩) (v := ?_) rfl (by kernel_rfl) (by kernel_rfl) (by kernel_rfl) (fun _ _ _ h => h) (Or.inl ⟨by rfl, ?_⟩) HS0.out ?_
        rotate_left
        · (intro W hSW; clear hSW; go_simp)
          first | done | (with_reducible rfl)
        try simp only [Act.put, List.setIfInBounds_toArray, List.set_cons_zero, List.set_cons_succ]
        refine wpAnyH_take (i := 11) (oi := ⟨some 157, _, _, _, _, _⟩) (v := ?_) rfl (by kernel_rfl) (by kernel_rfl) (by kernel_rfl) (fun _ _ _ h => h) (Or.inl ⟨by rfl, ?_⟩) HS0.out ?_
        rotate_left
        · (intro W hSW; clear hSW; go_simp)
          first | done | (with_reducible rfl)
        try simp only [Act.put, List.setIfInBounds_toArray, List.set_cons_zero, List.set_cons_succ]
        refine wpAnyH_take (i := 12) (oi := ⟨some 158, _, _, _, _, _⟩) (v := .agg s.cs.toArray) rfl (by kernel_rfl) (by kernel_rfl) (by kernel_rfl) (fun _ _ _ h => h) (yields_slo46 (by rfl) (.tmp 157) rfl b1 (j * 10) rfl s (fun W h => HSL.out W h.2.2)) HS0.out ?_
        try simp only [Act.put, List.setIfInBounds_toArray, List.set_cons_zero, List.set_cons_succ]
        refine wpAnyH_take (i := 13) (oi := ⟨some 159, _, _, _, _, _⟩) (v := .bool (!true)) rfl (by kernel_rfl) (by kernel_rfl) (by kernel_rfl) (fun _ _ _ h => h) (yields_neq (by rfl) 46 (by kernel_rfl) (.tmp 153) (.tmp 158) 46 rfl s.cs.toArray s.cs.toArray (by rfl) (by rfl) true HE46.out) HS0.out ?_
        try simp only [Act.put, List.setIfInBounds_toArray, List.set_cons_zero, List.set_cons_succ]
        refine wpAnyH_take (i := 14) (oi := ⟨some 160, _, _, _, _, _⟩) (v := ?_) rfl (by kernel_rfl) (by kernel_rfl) (by kernel_rfl) (fun _ _ _ h => h) (Or.inl ⟨by rfl, ?_⟩) HS0.out ?_
        rotate_left
        · (intro W hSW; clear hSW; go_simp)
          first | done | (with_reducible rfl)
        try simp only [Act.put, List.setIfInBounds_toArray, List.set_cons_zero, List.set_cons_succ]
        refine wpAnyH_take (i := 15) (oi := ⟨some 161, _, _, _, _, _⟩) (v := ?_) rfl (by kernel_rfl) (by kernel_rfl) (by kernel_rfl) (fun _ _ _ h => h) (Or.inl ⟨by rfl, ?_⟩) HS0.out ?_
        rotate_left
        · (intro W hSW; clear hSW; go_simp)
          first | done | (with_reducible rfl)
        try simp only [Act.put, List.setIfInBounds_toArray, List.set_cons_zero, List.set_cons_succ]
        refine wpAnyH_take (i := 16) (oi := ⟨some 162, _, _, _, _, _⟩) (v := ?_) rfl (by kernel_rfl) (by kernel_rfl) (by kernel_rfl) (fun _ _ _ h => h) (Or.inl ⟨by rfl, ?_⟩) HS0.out ?_
        rotate_left
        · (intro W hSW; clear hSW; go_simp)
          first | done | (with_reducible rfl)
        try simp only [Act.put, List.setIfInBounds_toArray, List.set_cons_zero, List.set_cons_succ]
        refine wpAnyH_take (i := 17) (oi := ⟨some 163, _, _, _, _, _⟩) (v := ?_) rfl (by kernel_rfl) (by kernel_rfl) (by kernel_rfl) (fun _ _ _ h => h) (Or.inl ⟨by rfl, ?_⟩) HS0.out ?_
        rotate_left
        · (intro W hSW; clear hSW; go_simp)
          first | done | (with_reducible rfl)
        try simp only [Act.put, List.setIfInBounds_toArray, List.set_cons_zero, List.set_cons_succ]
        refine wpAnyH_take (i := 18) (oi := ⟨some 164, _, _, _, _, _⟩) (v := ?_) rfl (by kernel_rfl) (by kernel_rfl) (by kernel_rfl) (fun _ _ _ h => h) (Or.inl ⟨by rfl, ?_⟩) HS0.out ?_
        rotate_left
        · (intro W hSW; clear hSW; go_simp)
          first | done | (with_reducible rfl)
        try simp only [Act.put, List.setIfInBounds_toArray, List.set_cons_zero, List.set_cons_succ]
        refine wpAnyH_take (i := 19) (oi := ⟨some 165, _, _, _, _, _⟩) (v := ?_) rfl (by kernel_rfl) (by kernel_rfl) (by kernel_rfl) (fun _ _ _ h => h) (Or.inl ⟨by rfl, ?_⟩) HS0.out ?_
        rotate_left
        · (intro W hSW; clear hSW; go_simp)
          first | done | (with_reducible rfl)
        try simp only [Act.put, List.setIfInBounds_toArray, List.set_cons_zero, List.set_cons_succ]
        refine wpAnyH_take (i := 20) (oi := ⟨some 166, _, _, _, _, _⟩) (v := undef) rfl (by kernel_rfl) (by kernel_rfl) (by kernel_rfl) (fun _ _ _ h => h) (Or.inr ⟨by rfl, rfl⟩) HS0.out ?_
        try simp only [Act.put, List.setIfInBounds_toArray, List.set_cons_zero, List.set_cons_succ]
        refine wpAnyH_take (i := 21) (oi := ⟨some 167, _, _, _, _, _⟩) (v := undef) rfl (by kernel_rfl) (by kernel_rfl) (by kernel_rfl) (fun _ _ _ h => h) (Or.inr ⟨by rfl, rfl⟩) HS0.out ?_
        try simp only [Act.put, List.setIfInBounds_toArray, List.set_cons_zero, List.set_cons_succ]
        refine wpAnyH_take (i := 22) (oi := ⟨some 168, _, _, _, _, _⟩) (v := undef) rfl (by kernel_rfl) (by kernel_rfl) (by kernel_rfl) (fun _ _ _ h => h) (Or.inr ⟨by rfl, rfl⟩) HS0.out ?_
        try simp only [Act.put, List.setIfInBounds_toArray, List.set_cons_zero, List.set_cons_succ]
        refine wpAnyH_take (i := 23) (oi := ⟨some 169, _, _, _, _, _⟩) (v := ?_) rfl (by kernel_rfl) (by kernel_rfl) (by kernel_rfl) (fun _ _ _ h => h) (Or.inl ⟨by rfl, ?_⟩) HS0.out ?_
        rotate_left
        · (intro W hSW; clear hSW; go_simp)
          first | done | (with_reducible rfl)
        try simp only [Act.put, List.setIfInBounds_toArray, List.set_cons_zero, List.set_cons_succ]
        refine wpAnyH_take (i := 24) (oi := ⟨some 170, _, _, _, _, _⟩) (v := ?_) rfl (by kernel_rfl) (by kernel_rfl) (by kernel_rfl) (fun _ _ _ h => h) (Or.inl ⟨by rfl, ?_⟩) HS0.out ?_
        rotate_left
        · (intro W hSW; clear hSW; go_simp)
          first | done | (with_reducible rfl)
        try simp only [Act.put, List.setIfInBounds_toArray, List.set_cons_zero, List.set_cons_succ]
        refine wpAnyH_done (by kernel_rfl) ?_ _
        have PL8 := Lib.hid PL7.out.drew
        clear PL7 YB hdz hla HS0
        generalize w7.drew = w8 at *
        go_wp2_with (first | (go_at_call 17; (with_reducible refine (CR.out _ PL8.out.sk).mono ?_); rintro e w9 ⟨rfl, hs, hf⟩; have S9 := Lib.hid hs; have B9 : Hid (Below w.heap.size w w9) := below_far PL8.out.be hf PL8.out.nums.1 PL8.out.nums.2.1 PL8.out.be.size; clear hs hf) | (go_at_call 11; (with_reducible refine (slots_ g q M [] 0 _ S9.out).mono ?_); rintro e w10 ⟨A5, c5, rfl, hb, _⟩; have S10 := Lib.hid (S9.out.below hb); have B10 : Hid (Below w.heap.size w w10) := B9.out.trans (hb.mono B9.out.size); clear hb) | (go_at_call 12; (with_reducible refine (total_ g q M [] 0 _ S10.out).mono ?_); rintro e w11 ⟨rfl, rfl⟩))
        go_ret
        exact ⟨rfl, HE.out _ B10.out⟩
end Go.Proofs.Ytgmbkmlnoehomaa
