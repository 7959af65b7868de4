/- The contract of the document's Pick. Conditions: those of each theorem. -/
import Derived.Test.YtknalphhnicffaaUntil
import Derived.Deep.LoopGhost
namespace Go.Proofs.Ytknalphhnicffaa
open Go.RowKit

/-- The number that the document's Pick tells. -/
def toldI (o : Option Nat) : Int := match o with | some k => (k : Nat) | none => -1
/-- Blocks that b lets in, but for the argument's and the result's. -/
def bb (b : Nat → Prop) (h : Nat) : Nat → Prop := fun k => b k ∧ k ≠ h ∧ k ≠ h + 1
/-- Where the loop stands. -/
def DP (b : Nat → Prop) (w : World) (n Q : Nat) (L : List Cls) (W : World) : Prop :=
  ∃ A c, L.length ≤ c ∧ BoxAt w.heap.size A L.length c n Q W ∧ DocAt (bb b w.heap.size) W A L ∧ Blk W (w.heap.size + 1) 34 [.int .i64 0, .int .i64 0, .slice none 0 0] ∧ Below w.heap.size w W
/-- What the document's Pick answers. -/
def PickOut (b : Nat → Prop) (n Q : Nat) (L' : List Cls) (o : Option Nat) (w : World) (e : Ending) (w' : World) : Prop :=
  (∃ A' c', L'.length ≤ c' ∧ e = .returned (.tuple #[doc A' L'.length c' n Q, .int .i64 (toldI o)]) ∧ DocAt b w' A' L') ∧ Below w.heap.size w w'
theorem DP.new {b : Nat → Prop} {w : World} {A : Option Addr} {m c n Q : Nat} {L : List Cls} (h : DocAt b w A L) (hm : L.length = m) (hc : m ≤ c) : DP b w n Q L ((w.alloc (boxOf A m c n Q)).alloc noneOf) := by
  subst hm
  obtain ⟨h1, h2, h3⟩ := Two3.new w A L.length c n Q
  exact ⟨A, c, hc, h2, (h.weak (fun k hk h => ⟨h, by omega, by omega⟩)).below h1, h3, h1⟩
section
variable {b : Nat → Prop} {w W W' : World} {n Q : Nat} {L : List Cls}
theorem DP.put {A' : Option Addr} {k c' B : Nat} {L' : List Cls} {W2 : World} (hbw : ∀ k, w.heap.size ≤ k → b k) (h : W2.ownsRow B 71 3 (.slice A' k c') k (cls L')) (hk : L'.length = k) (hB : w.heap.size + 1 < B) (hW2 : Below W2.heap.size W2 W') {x : List Value} (hx : Blk W' w.heap.size 34 x) (hn : Blk W' (w.heap.size + 1) 34 [.int .i64 0, .int .i64 0, .slice none 0 0]) (hb : Below w.heap.size w W') (hxl : ∃ u v z, x = [u, v, z]) :
    DP b w n Q L' (stored3 W' w.heap.size A' k c' n Q) := by
  obtain ⟨u, v, z, rfl⟩ := hxl
  have hf := far_stored W' w.heap.size A' k c' n Q
  have hc : k ≤ c' := by
    rcases h.2 with ⟨e, h0⟩ | ⟨g, cap, cur, e, _, _, hnc, _⟩
    · omega
    · injection e with _ _ e; omega
  have h1 := ((doc_of_own (b := fun k => B ≤ k) h hk (fun _ h => h)).below hW2).far hf (fun j hj e => by have : B ≤ j := hj; omega)
  subst hk
  refine ⟨A', c', hc, ?_, h1.weak (fun j _ hj => ⟨hbw j (by have : B ≤ j := hj; omega), by have : B ≤ j := hj; omega, by have : B ≤ j := hj; omega⟩), hn.far hf (by omega), below_stored hb (Nat.le_refl _) _ _ _ _ _⟩
  have := ((hx.set_ 0 (.int .i64 (n : Nat))).set_ 1 (.int .i64 (Q : Nat))).set_ 2 (.slice A' L'.length c')
  unfold BoxAt
  simpa using this
end
/-- Inside a round: the variable y at block e, those behind it as a row. -/
structure RR (w : World) (A1 : Option Addr) (c1 n Q e base : Nat) (xs : List Cls) (m : Nat) (Ar : Option Addr) (cr : Nat) (y : Cls) (W : World) : Prop where
  box : BoxAt w.heap.size A1 (m + 1) c1 n Q W
  none_ : Blk W (w.heap.size + 1) 34 [.int .i64 0, .int .i64 0, .slice none 0 0]
  var : Blk W e 71 (cls [y])
  row : W.ownsRow base 71 3 (.slice Ar m cr) m (cls xs)
  be : Below w.heap.size w W
  he : w.heap.size + 1 < e
  hb : e < base
  le : base ≤ W.heap.size
def only (g : Nat) : Nat → Prop := fun k => k = g
section
variable {w W W' : World} {A1 Ar : Option Addr} {c1 n Q e base m cr : Nat} {xs : List Cls} {y y' : Cls}
theorem RR.turn (h : RR w A1 c1 n Q e base xs m Ar cr y W) (hf : Far (only e) W W') (hv : Blk W' e 71 (cls [y'])) : RR w A1 c1 n Q e base xs m Ar cr y' W' := by
  have h1 := h.he
  have h2 := h.hb
  refine ⟨Blk.far h.box hf (fun e => by unfold only at e; omega), h.none_.far hf (fun e => by unfold only at e; omega), hv, hf.row h.row (fun k hk e => ?_), h.be.trans (hf.below h.be.size (fun k hk e => by unfold only at e; omega)), h1, h2, Nat.le_trans h.le hf.size⟩
  have := (h.row.lt k hk).1
  unfold only at e
  omega
theorem RR.below (h : RR w A1 c1 n Q e base xs m Ar cr y W) (hb : Below W.heap.size W W') : RR w A1 c1 n Q e base xs m Ar cr y W' :=
  ⟨h.box.below hb, h.none_.far (Far.of_below hb nobody) (fun e => e), h.var.far (Far.of_below hb nobody) (fun e => e), (Far.of_below hb nobody).row h.row (fun _ _ e => e), h.be.trans (hb.mono h.be.size), h.he, h.hb, Nat.le_trans h.le hb.size⟩
theorem RR.vars (h : RR w A1 c1 n Q e base xs m Ar cr y W) : W.cell? ⟨e, 0, none⟩ = some (.int .i64 (y.n : Nat)) ∧ W.cell? ⟨e, 1, none⟩ = some (.bool y.fresh) ∧ W.cell? ⟨e, 2, none⟩ = some (.int .i64 (y.d : Nat)) := ⟨h.var.cell 0, h.var.cell 1, h.var.cell 2⟩
theorem far_one (W : World) (e i : Nat) (v : Value) : Far (only e) W (W.setCell ⟨e, i, none⟩ v) := Far.set_ (S := only e) (p := ⟨e, i, none⟩) (Far.refl _ _) (fun _ => rfl) _
theorem RR.setD (h : RR w A1 c1 n Q e base xs m Ar cr y W) (d : Nat) : RR w A1 c1 n Q e base xs m Ar cr ⟨y.n, y.fresh, d⟩ (W.setCell ⟨e, 2, none⟩ (.int .i64 (d : Nat))) := h.turn (far_one _ _ _ _) (h.var.set_ 2 _)
theorem RR.setF (h : RR w A1 c1 n Q e base xs m Ar cr y W) (f : Bool) : RR w A1 c1 n Q e base xs m Ar cr ⟨y.n, f, y.d⟩ (W.setCell ⟨e, 1, none⟩ (.bool f)) := h.turn (far_one _ _ _ _) (h.var.set_ 1 _)
end
section
variable {w W W' : World} {A1 Ar : Option Addr} {c1 n Q e base m cr : Nat} {xs : List Cls} {y : Cls}
/-- What is read, in a later world. -/
theorem RR.kept (h : RR w A1 c1 n Q e base xs m Ar cr y W) (hB : Below W.heap.size W W') : (W'.cell? ⟨w.heap.size, 0, none⟩ = some (.int .i64 (n : Nat)) ∧ W'.cell? ⟨w.heap.size, 1, none⟩ = some (.int .i64 (Q : Nat)) ∧ W'.cell? ⟨w.heap.size, 2, none⟩ = some (.slice A1 (m + 1) c1)) ∧ W'.cell? ⟨e, 0, none⟩ = some (.int .i64 (y.n : Nat)) ∧ W'.cell? ⟨e, 1, none⟩ = some (.bool y.fresh) ∧ W'.cell? ⟨e, 2, none⟩ = some (.int .i64 (y.d : Nat)) := ⟨(h.below hB).box.cells, (h.below hB).vars⟩
/-- The same behind the store of the result. -/
theorem RR.kept2 {u v z : Value} (h : RR w A1 c1 n Q e base xs m Ar cr y W) (hB : Below W.heap.size W W') : ((((W'.setCell ⟨w.heap.size + 1, 0, none⟩ u).setCell ⟨w.heap.size + 1, 1, none⟩ v).setCell ⟨w.heap.size + 1, 2, none⟩ z).cell? ⟨w.heap.size, 0, none⟩ = some (.int .i64 (n : Nat)) ∧ (((W'.setCell ⟨w.heap.size + 1, 0, none⟩ u).setCell ⟨w.heap.size + 1, 1, none⟩ v).setCell ⟨w.heap.size + 1, 2, none⟩ z).cell? ⟨w.heap.size, 1, none⟩ = some (.int .i64 (Q : Nat)) ∧ (((W'.setCell ⟨w.heap.size + 1, 0, none⟩ u).setCell ⟨w.heap.size + 1, 1, none⟩ v).setCell ⟨w.heap.size + 1, 2, none⟩ z).cell? ⟨w.heap.size, 2, none⟩ = some (.slice A1 (m + 1) c1)) ∧ (((W'.setCell ⟨w.heap.size + 1, 0, none⟩ u).setCell ⟨w.heap.size + 1, 1, none⟩ v).setCell ⟨w.heap.size + 1, 2, none⟩ z).cell? ⟨e, 0, none⟩ = some (.int .i64 (y.n : Nat)) ∧ (((W'.setCell ⟨w.heap.size + 1, 0, none⟩ u).setCell ⟨w.heap.size + 1, 1, none⟩ v).setCell ⟨w.heap.size + 1, 2, none⟩ z).cell? ⟨e, 1, none⟩ = some (.bool y.fresh) ∧ (((W'.setCell ⟨w.heap.size + 1, 0, none⟩ u).setCell ⟨w.heap.size + 1, 1, none⟩ v).setCell ⟨w.heap.size + 1, 2, none⟩ z).cell? ⟨e, 2, none⟩ = some (.int .i64 (y.d : Nat)) := by
  have hf : Far (fun k => k = w.heap.size + 1) W' (((W'.setCell ⟨w.heap.size + 1, 0, none⟩ u).setCell ⟨w.heap.size + 1, 1, none⟩ v).setCell ⟨w.heap.size + 1, 2, none⟩ z) := (((Far.refl (fun k => k = w.heap.size + 1) _).set_ (p := ⟨w.heap.size + 1, 0, none⟩) (fun _ => rfl) _).set_ (p := ⟨w.heap.size + 1, 1, none⟩) (fun _ => rfl) _).set_ (p := ⟨w.heap.size + 1, 2, none⟩) (fun _ => rfl) _
  have h1 := h.he
  have hb2 : BoxAt w.heap.size A1 (m + 1) c1 n Q _ := Blk.far (h.below hB).box hf (by omega)
  have hv2 := (h.below hB).var.far hf (by omega)
  exact ⟨hb2.cells, hv2.cell 0, hv2.cell 1, hv2.cell 2⟩
/-- The row behind it has grown. -/
theorem RR.grown (h : RR w A1 c1 n Q e base xs m Ar cr y W) (hg : W.grownBy W' (Value.slice Ar m cr).ownBlock) : BoxAt w.heap.size A1 (m + 1) c1 n Q W' ∧ Blk W' (w.heap.size + 1) 34 [.int .i64 0, .int .i64 0, .slice none 0 0] ∧ Blk W' e 71 (cls [y]) ∧ Below w.heap.size w W' := by
  have h1 := h.he
  have h2 := h.hb
  have h3 := fun k e => (h.row.lt k e).1
  exact ⟨Blk.grown h.box hg (fun e => by have := h3 _ e; omega), h.none_.grown hg (fun e => by have := h3 _ e; omega), h.var.grown hg (fun e => by have := h3 _ e; omega), h.be.grown hg h.be.size (fun j e => by have := h3 j e; omega)⟩
theorem own_one (W : World) (y : Cls) : (W.alloc (oneOf y)).drew.ownsRow W.heap.size 71 3 (.slice (some ⟨W.heap.size, 0, none⟩) 1 1) 1 (cls [y]) :=
  (World.ownsRow_lit (base := W.heap.size) (e := 71) (size := 3) W #[.int .i64 (y.n : Nat), .bool y.fresh, .int .i64 (y.d : Nat)] 1 (Nat.le_refl _) (by simp [maxLen]) rfl).drew
end
theorem at_first {a : Addr} : a.add (0 * 3) = a := by unfold Addr.add; simp
set_option maxRecDepth 100000 in
set_option maxHeartbeats 8000000 in
theorem docPick_ (b : Nat → Prop) (m c n Q : Nat) (A B : Option Addr) (r cB : Nat) (hs : List Int) (L L' : List Cls) (o : Option Nat) (w : World) (h : DocAt b w A L) (hm : L.length = m) (hc : m ≤ c) (ho : Ok n Q L) (hn : n ≤ 129) (hQ : Q ≤ 1073741824) (hQ1 : 1 ≤ Q)
    (hr : hs.length = r) (hv : Vals w B r (ints hs)) (hp : Picks Q (hdOf hs) L L' o) (hbw : ∀ k, w.heap.size ≤ k → b k) :
    Calls Try.prog 17 #[doc A m c n Q, .slice B r cB] w (PickOut b n Q L' o w) := by
  have D0 := Lib.hid (DP.new (n := n) (Q := Q) h hm hc)
  have HO0 := Lib.hid ho
  have HP0 := Lib.hid hp
  have HV := Lib.hid hv
  have HRL := Lib.hid hr
  have HBW := Lib.hid hbw
  clear h hm hc ho hv hp hbw hr
  go_enter Try.func17, Try.ntmps17
  go_wp2_with fail
  go_loopg [6, 7, 8] (mu L) (fun k _ _ _ wr => ∃ L1 : List Cls, mu L1 = k ∧ Ok n Q L1 ∧ Picks Q (hdOf hs) L1 L' o ∧ DP b w n Q L1 wr)
  case atStart => exact ⟨L, rfl, HO0.out, HP0.out, D0.out⟩
  case round =>
    clear D0 HO0 HP0
    obtain ⟨L1, hmu, hok, hpk, A1, c1, hc1, hbx, hdoc, hnone, hbe⟩ := hrel
    have HMU := Lib.hid hmu
    have HOK := Lib.hid hok
    have HPK := Lib.hid hpk
    have HBX := Lib.hid hbx
    have HDOC := Lib.hid hdoc
    have HNO := Lib.hid hnone
    have HBE := Lib.hid hbe
    obtain ⟨q0, q1, q2⟩ := hbx.cells
    clear hmu hok hpk hbx hdoc hnone hbe
    rcases L1 with _ | ⟨x, xs⟩
    · obtain ⟨e1, e2⟩ := HPK.out.nil
      have HE1 := Lib.hid e1
      have HE2 := Lib.hid e2
      clear e1 e2
      obtain ⟨r0, r1, r2⟩ : wr.cell? ⟨w.heap.size + 1, 0, none⟩ = some (.int .i64 0) ∧ wr.cell? ⟨w.heap.size + 1, 1, none⟩ = some (.int .i64 0) ∧ wr.cell? ⟨w.heap.size + 1, 2, none⟩ = some (.slice none 0 0) := ⟨HNO.out.cell 0, HNO.out.cell 1, HNO.out.cell 2⟩
      have f0 := HNO.out.frozen 0
      have f1 := HNO.out.frozen 1
      have f2 := HNO.out.frozen 2
      simp only [List.length_nil] at q2
      go_wp2_with fail
      refine bodyPost_ret (v := .tuple #[doc A1 0 c1 n Q, .int .i64 (-1)]) ?_ rfl ⟨⟨A1, c1, by rw [HE1.out]; exact Nat.zero_le _, by rw [HE1.out, HE2.out]; rfl, ?_⟩, below_stored HBE.out (by omega) _ _ _ _ _⟩
      · simp [results, Try.results17, go_sem, *]
      · rw [HE1.out]
        exact (HDOC.out.far (far_stored wr (w.heap.size + 1) A1 0 c1 n Q) (fun k hk e => hk.2.2 e)).weak (fun k _ hk => hk.1)
    · have hl1 : (x :: xs).length = xs.length + 1 := rfl
      obtain ⟨a, rfl, k1, k2, k3⟩ := HDOC.out.at_ (k := 0) (x := x) rfl
      rw [at_first] at k1 k2 k3
      rw [hl1] at q2 hc1
      have hd0 : decide ((0 : Int) < ((xs.length + 1 : Nat) : Int)) = true := by simp
      have hx129 : xs.length + 1 ≤ 129 := by have := names_lt HOK.out; rw [hl1] at this; omega
      go_upto_region 3 with fail
      have HR4 : Hid (BoxAt w.heap.size (some a) (xs.length + 1) c1 n Q (wr.alloc (oneOf x)) ∧ Blk (wr.alloc (oneOf x)) (w.heap.size + 1) 34 [.int .i64 0, .int .i64 0, .slice none 0 0] ∧ Blk (wr.alloc (oneOf x)) wr.heap.size 71 (cls [x]) ∧ Below w.heap.size w (wr.alloc (oneOf x)) ∧ DocAt (bb b w.heap.size) (wr.alloc (oneOf x)) (some a) (x :: xs) ∧ w.heap.size + 1 < wr.heap.size ∧ (wr.alloc (oneOf x)).heap.size = wr.heap.size + 1) :=
        ⟨HBX.out.below (below_one _ _), HNO.out.alloc _, Blk.new wr 71 (cls [x]), HBE.out.alloc HBE.out.size _, HDOC.out.below (below_one _ _), HNO.out.lt, by simp⟩
      obtain ⟨hb1, hb2, hb3, hb4, hb5, hb6, hb7⟩ := HR4.out
      have B4 := Lib.hid hb1
      have N4 := Lib.hid hb2
      have X4 := Lib.hid hb3
      have W4 := Lib.hid hb4
      have D4 := Lib.hid hb5
      have he := hb6
      have HSZ := Lib.hid hb7
      clear HR4 hb1 hb2 hb3 hb4 hb5 hb6 hb7 HBX HNO HBE HDOC q0 q1 q2 k1 k2 k3 hd0 hl1
      generalize wr.alloc (oneOf x) = w4 at *
      generalize wr.heap.size = e at *
      have x0 : w4.cell? ⟨e, 0, none⟩ = some (.int .i64 (x.n : Nat)) := X4.out.cell 0
      have x1 : w4.cell? ⟨e, 1, none⟩ = some (.bool x.fresh) := X4.out.cell 1
      have x2 : w4.cell? ⟨e, 2, none⟩ = some (.int .i64 (x.d : Nat)) := X4.out.cell 2
      go_upto_if 21 with fail
      go_cut [7, 21] from 22 to 26 (fun v _ wx => w4 = wx ∧ v = .int .i64 (hdOf hs x.n))
      case first =>
        by_cases hxr : x.n < r
        · have d1 : decide ((x.n : Int) < (r : Int)) = true := by simp; omega
          have d1' : decide (x.n < r) = true := by simpa using hxr
          obtain ⟨aB, rfl, hcB⟩ := HV.out.at_ (ints_at (zs := hs) (k := x.n) (by rw [HRL.out]; exact hxr))
          have hcB' := keep9 W4.out hcB
          have HE : Hid (hs.getD x.n 0 = hdOf hs x.n) := (rfl : hs.getD x.n 0 = hdOf hs x.n)
          rw [HE.out] at hcB'
          clear hcB HE
          go_wp2_with fail
          go_meet
          case rel => exact ⟨rfl, rfl⟩
        · have d1 : decide ((x.n : Int) < (r : Int)) = false := by simp; omega
          have d1' : decide (x.n < r) = false := by simpa using hxr
          have HE : Hid (hdOf hs x.n = 0) := by
            show hs.getD x.n 0 = 0
            rw [List.getD_eq_getElem?_getD, List.getElem?_eq_none (by rw [HRL.out]; omega)]
            rfl
          go_wp2_with fail
          go_meet
          case rel => exact ⟨rfl, by rw [HE.out]⟩
      case rest =>
        obtain ⟨rfl, rfl⟩ := hcut
        have HLen : Hid (len (hdOf hs x.n) = (min (hdOf hs x.n) 9216).toNat) := (rfl : len (hdOf hs x.n) = _)
        obtain ⟨hd, hhd⟩ : ∃ z, hdOf hs x.n = z := ⟨_, rfl⟩
        have HHD := Lib.hid hhd
        rw [hhd] at HLen
        rw [hhd]
        clear hhd
        go_upto_if 28 with fail
        go_cut [7, 28] from 29 to 29 (fun v _ wx => w4 = wx ∧ v = .int .i64 (min hd 9216))
        case first =>
          go_wp2_with fail
          all_goals
            go_meet
            case rel => exact ⟨rfl, by congr 1; omega⟩
        case rest =>
          obtain ⟨rfl, rfl⟩ := hcut
          obtain ⟨l, hl⟩ : ∃ z, min hd 9216 = z := ⟨_, rfl⟩
          have hl9 : l ≤ 9216 := by omega
          have HL1 : Hid (l < 1 ↔ hd < 1) := (by omega : l < 1 ↔ hd < 1)
          rw [hl] at HLen
          rw [hl]
          clear hl
          have hs2 : ∀ W, (Instr.slice 32 (.slice (some a) (xs.length + 1) c1) (some (.int .i64 1)) none none).run Try.prog W = .ok (.slice (if c1 = 1 then some a else (some a).map (·.add (1 * 3))) xs.length (c1 - 1)) W := fun W => run_from32 (A := some a) (n := xs.length + 1) (c := c1) (k := 1) 1 W rfl (by omega)
          have VZ : Hid (∀ W, Below w4.heap.size w4 W → Vals W (if c1 = 1 then some a else (some a).map (·.add (1 * 3))) (xs.length * 3) (cls xs)) := fun W hW => by
            have h1 := (D4.out.below hW).1
            exact doc_from (m := xs.length + 1) (k := 1) h1 (by omega) hc1
          generalize (if c1 = 1 then some a else (some a).map (·.add (1 * 3))) = Z at *
          have OB : Hid ((w4.alloc (Obj.cells #[] 71)).ownsRow w4.heap.size 71 3 (.slice (some ⟨w4.heap.size, 0, none⟩) 0 0) 0 (cls [])) := World.ownsRow_lit (base := w4.heap.size) (e := 71) (size := 3) w4 #[] 0 (Nat.le_refl _) (by simp) (by simp)
          obtain ⟨q0, q1, q2⟩ := B4.out.cells
          have q2' := cell_alloc q2 (Obj.cells #[] 71)
          have he4 : e < w4.heap.size := by have := HSZ.out; omega
          have HXL : Hid (xs.length = xs.length) := (rfl : xs.length = xs.length)
          go_upto_region 9 with (at_builtin; refine wpList_cls rfl (.tmp 29) (.tmp 32) rfl w4.heap.size (.slice (some ⟨w4.heap.size, 0, none⟩) 0 0) 0 [] rfl (by exact OB.out) Z xs.length (c1 - 1) xs (by exact HXL.out) rfl (by exact VZ.out _ (below_one w4 _)) xs.length (Nat.zero_add _) xs rfl (by omega) (by simp) ?_; intro Ar cr w5 O5 G5; have B5 : Hid (Below w4.heap.size w4 w5) := below_app (below_one w4 _) G5.out (Nat.le_refl _); have R5 : Hid (RR w (some a) c1 n Q e w4.heap.size xs xs.length Ar cr x w5) := ⟨B4.out.below B5.out, N4.out.far (Far.of_below B5.out nobody) (fun e => e), X4.out.far (Far.of_below B5.out nobody) (fun e => e), O5.out, W4.out.trans (B5.out.mono W4.out.size), he, he4, B5.out.size⟩; clear O5 G5 B5)
          have hbase : w.heap.size + 1 < w4.heap.size := by omega
          clear hs2 VZ OB q0 q1 q2 q2' HSZ B4 N4 X4 W4 D4 x0 x1 x2
          generalize w4.heap.size = base at *
          by_cases hl1 : l < 1
          · have d1 : decide (l < 1) = true := by simpa using hl1
            have HN : Hid (Picks Q (hdOf hs) xs L' o) := by
              rcases HPK.out.inv with ⟨_, h⟩ | ⟨h, _⟩ | ⟨h, _⟩
              · exact h
              · exact absurd h (by rw [HHD.out]; have := HL1.out; omega)
              · exact absurd h (by rw [HHD.out]; have := HL1.out; omega)
            have HOK2 := Lib.hid HOK.out.tail
            have HMU2 : Hid (mu xs < gk) := by show _ < _; rw [← HMU.out]; exact mu_sleeps x xs
            have C24 := Lib.hid (fun W => docWith_ (xs.length + 1) c1 n Q xs.length cr (some a) Ar W)
            obtain ⟨q0, q1, q2⟩ := R5.out.box.cells
            go_wp2_with (go_at_call 27; (with_reducible refine (C24.out _).mono ?_); rintro e' w6 ⟨rfl, hb⟩; have R6 := Lib.hid (R5.out.below hb); obtain ⟨p0, p1, p2⟩ := R6.out.box.cells; have f0 := Blk.frozen R6.out.box 0; have f1 := Blk.frozen R6.out.box 1; have f2 := Blk.frozen R6.out.box 2; have DP6 : Hid (DP b w n Q xs (stored3 w6 w.heap.size Ar xs.length cr n Q)) := DP.put HBW.out R5.out.row rfl hbase hb R6.out.box R6.out.none_ R6.out.be ⟨_, _, _, rfl⟩; clear hb)
            go_roundg (mu xs)
            case measure => exact HMU2.out
            case rel => exact ⟨xs, rfl, HOK2.out, HN.out, DP6.out⟩
          · have d1 : decide (l < 1) = false := by simpa using hl1
            obtain ⟨ll, rfl⟩ : ∃ z : Nat, l = z := ⟨l.toNat, by omega⟩
            have HLL : Hid (len hd = ll) := by show _ = _; rw [HLen.out]; simp
            have hll1 : 1 ≤ ll := by omega
            have hll9 : ll ≤ 9216 := by omega
            have hdue := HOK.out.due_le
            have hlow := HOK.out.low x (by simp)
            obtain ⟨fr, hfr⟩ : ∃ f, x.fresh = f := ⟨_, rfl⟩
            obtain ⟨x0, x1, x2⟩ := R5.out.vars
            obtain ⟨q0, q1, q2⟩ := R5.out.box.cells
            have g0 := Blk.frozen R5.out.var 0
            have g1 := Blk.frozen R5.out.var 1
            have g2 := Blk.frozen R5.out.var 2
            rw [hfr] at x1
            have HFR := Lib.hid hfr
            have HLW := Lib.hid hlow
            clear hl1 hl9 HLen HL1 hfr hlow
            go_upto_if 40 with fail
            go_cut [40] from 41 to 47 (fun _ wx => RR w (some a) c1 n Q e base xs xs.length Ar cr ⟨x.n, false, due Q x⟩ wx)
            case first =>
              rcases fr with _ | _
              · have HD : Hid (due Q x = x.d) := by show _ = _; simp [due, HFR.out]
                have HY : Hid ((⟨x.n, false, due Q x⟩ : Cls) = x) := by
                  show _ = _
                  rw [HD.out]
                  have := HFR.out
                  cases x
                  simp at this ⊢
                  exact this
                go_wp2_with fail
                go_meet
                case rel => rw [HY.out]; exact R5.out
              · have HD : Hid (due Q x = x.d + Q) := by show _ = _; simp [due, HFR.out]
                have hxd : x.d ≤ 9216 := HLW.out HFR.out
                clear hdue
                go_wp2_with fail
                go_region
                have R6 : Hid (RR w (some a) c1 n Q e base xs xs.length Ar cr ⟨x.n, false, due Q x⟩ ((w5.setCell ⟨e, 1, none⟩ (.bool false)).setCell ⟨e, 2, none⟩ (.int .i64 ((x.d : Int) + (Q : Int)))).drew) := by
                  have h1 := (R5.out.setF false).setD (x.d + Q)
                  rw [HD.out]
                  have h2 := h1.below ((Below.refl _ _).drew)
                  simp only [Int.natCast_add] at h2
                  exact h2
                go_wp2_with fail
                go_meet
                case rel => exact R6.out
            case rest =>
              have R6 := Lib.hid hcut
              clear hcut R5 x0 x1 x2 q0 q1 q2 g0 g1 g2 HFR HLW
              obtain ⟨D, hD⟩ : ∃ D, due Q x = D := ⟨_, rfl⟩
              have HD := Lib.hid hD
              rw [hD] at R6 hdue
              clear hD
              obtain ⟨x0, x1, x2⟩ := R6.out.vars
              have g1 := Blk.frozen R6.out.var 1
              have g2 := Blk.frozen R6.out.var 2
              have C24 := Lib.hid (fun B k cB W => docWith_ (xs.length + 1) c1 n Q k cB (some a) B W)
              by_cases hle : ll ≤ D
              · have d2 : decide ((ll : Int) ≤ (D : Int)) = true := by simp; omega
                have d2' : decide (ll ≤ D) = true := by simpa using hle
                have hsub : (D : Int) - (ll : Int) = ((D - ll : Nat) : Int) := by omega
                have HE : Hid (L' = ⟨x.n, false, D - ll⟩ :: xs ∧ o = some x.n) := by
                  rcases HPK.out.inv with ⟨h, _⟩ | ⟨_, _, h1, h2⟩ | ⟨_, h, _⟩
                  · exact absurd h (by rw [HHD.out]; have h3 := HLL.out; unfold len at h3; omega)
                  · rw [HHD.out, HLL.out, HD.out] at h1
                    exact ⟨h1, h2⟩
                  · exact absurd h (by rw [HHD.out, HLL.out, HD.out]; omega)
                go_upto_region 15 with fail
                have R7 := Lib.hid (R6.out.setD (D - ll))
                clear R6 x0 x1 x2 g1 g2
                generalize wc.setCell ⟨e, 2, none⟩ (.int .i64 ((D - ll : Nat) : Int)) = w7 at *
                have OB := Lib.hid (own_one w7 ⟨x.n, false, D - ll⟩)
                have VX : Hid (∀ W, Below w7.heap.size w7 W → Vals W Ar (xs.length * 3) (cls xs)) := fun W hW => by
                  have h1 := (doc_of_own (b := fun _ => True) (R7.out.below hW).row rfl (fun _ _ => trivial)).1
                  exact h1
                have HXL : Hid (xs.length = xs.length) := (rfl : xs.length = xs.length)
                have hb7 : w.heap.size + 1 < w7.heap.size := Nat.lt_of_lt_of_le hbase R7.out.le
                go_region_held3 (fun W => (W.cell? ⟨w.heap.size, 0, none⟩ = some (.int .i64 (n : Nat)) ∧ W.cell? ⟨w.heap.size, 1, none⟩ = some (.int .i64 (Q : Nat)) ∧ W.cell? ⟨w.heap.size, 2, none⟩ = some (.slice (some a) (xs.length + 1) c1)) ∧ W.cell? ⟨e, 0, none⟩ = some (.int .i64 (x.n : Nat)) ∧ W.cell? ⟨e, 1, none⟩ = some (.bool false) ∧ W.cell? ⟨e, 2, none⟩ = some (.int .i64 (D - ll : Nat)))
                  (first | exact R7.out.kept ((Below.refl _ _).drew) | exact R7.out.kept (below_oned w7 _) | exact R7.out.kept B9.out | exact R7.out.kept B8.out | exact R7.out.kept2 B9.out)
                  (first | (refine step_cls (by rfl) (.tmp 59) (.tmp 60) (by rfl) w7.heap.size (.slice (some ⟨w7.heap.size, 0, none⟩) 1 1) 1 [⟨x.n, false, D - ll⟩] (by rfl) (by exact OB.out) Ar xs.length cr xs (by exact HXL.out) (by rfl) (by exact VX.out _ (below_oned w7 _)) (xs.length + 1) (by omega) (⟨x.n, false, D - ll⟩ :: xs) (by rfl) (by omega) (by simp) ?_; intro A8 c8 w8 H1 H2; have B8 : Hid (Below w7.heap.size w7 w8) := below_own (below_oned w7 _) H2.out OB.out) | (go_at_call 27; (with_reducible refine (C24.out A8 (xs.length + 1) c8 w8).mono ?_); rintro e' w9 ⟨rfl, hb⟩; have B89 := Lib.hid hb; have B9 : Hid (Below w7.heap.size w7 w9) := B8.out.trans (hb.mono B8.out.size); have R9 := Lib.hid (R7.out.below B9.out); have r0 : w9.cell? ⟨w.heap.size + 1, 0, none⟩ = some (.int .i64 0) := R9.out.none_.cell 0; have r1 : w9.cell? ⟨w.heap.size + 1, 1, none⟩ = some (.int .i64 0) := R9.out.none_.cell 1; have r2 : w9.cell? ⟨w.heap.size + 1, 2, none⟩ = some (.slice none 0 0) := R9.out.none_.cell 2; have f0 := R9.out.none_.frozen 0; have f1 := R9.out.none_.frozen 1; have f2 := R9.out.none_.frozen 2; clear hb))
                all_goals
                  go_wp2_with fail
                  obtain ⟨E1, E2⟩ := HE.out
                  refine bodyPost_ret (v := .tuple #[doc A8 (xs.length + 1) c8 n Q, .int .i64 (x.n : Nat)]) ?_ rfl ?_
                  · simp [results, Try.results17, go_sem, *]
                  · have hcc : xs.length + 1 ≤ c8 := by
                      rcases H1.out.2 with ⟨e, h0⟩ | ⟨g, cap, cur, e, _, _, hnc, _⟩
                      · omega
                      · injection e with _ _ e; omega
                    have h1 := ((doc_of_own (b := fun k => w7.heap.size ≤ k) H1.out rfl (fun _ h => h)).below B89.out).far (far_stored w9 (w.heap.size + 1) A8 (xs.length + 1) c8 n Q) (fun k hk e => by have : w7.heap.size ≤ k := hk; omega)
                    refine ⟨⟨A8, c8, by rw [E1]; exact hcc, by rw [E1, E2]; rfl, ?_⟩, below_stored R9.out.be (by omega) _ _ _ _ _⟩
                    rw [E1]
                    exact h1.weak (fun k _ hk => HBW.out k (by have : w7.heap.size ≤ k := hk; omega))
              · have d2 : decide ((ll : Int) ≤ (D : Int)) = false := by simp; omega
                have d2' : decide (ll ≤ D) = false := by simpa using hle
                have hlt : D < ll := by omega
                have HN : Hid (Picks Q (hdOf hs) (xs ++ [⟨x.n, true, D⟩]) L' o) := by
                  rcases HPK.out.inv with ⟨h, _⟩ | ⟨_, h, _⟩ | ⟨_, _, h⟩
                  · exact absurd h (by rw [HHD.out]; have h3 := HLL.out; unfold len at h3; omega)
                  · exact absurd h (by rw [HHD.out, HLL.out, HD.out]; omega)
                  · rw [HD.out] at h
                    exact h
                have HOK2 : Hid (Ok n Q (xs ++ [⟨x.n, true, D⟩])) := by
                  have h1 := HOK.out.waits (l := hd) (by rw [HD.out, HLL.out]; exact hlt)
                  rw [HD.out] at h1
                  exact h1
                have HMU2 : Hid (mu (xs ++ [⟨x.n, true, D⟩]) < gk) := by
                  have h1 := mu_waits (x := x) (xs := xs) (h := hd) hQ1 (by rw [HD.out, HLL.out]; exact hlt)
                  rw [HD.out, HMU.out] at h1
                  exact h1
                go_upto_region 17 with fail
                have R7 := Lib.hid (R6.out.setF true)
                clear R6 x0 x1 x2 g1 g2
                generalize wc.setCell ⟨e, 1, none⟩ (.bool true) = w7 at *
                have O7 : Hid ((w7.alloc (oneOf ⟨x.n, true, D⟩)).drew.ownsRow base 71 3 (.slice Ar xs.length cr) xs.length (cls xs)) := (R7.out.row.alloc _).drew
                have V7 : Hid (Vals (w7.alloc (oneOf ⟨x.n, true, D⟩)).drew (some ⟨w7.heap.size, 0, none⟩) (1 * 3) (cls [⟨x.n, true, D⟩])) := vals_one (Blk.new w7 71 (cls [⟨x.n, true, D⟩]))
                have hle7 : base ≤ (w7.alloc (oneOf ⟨x.n, true, D⟩)).drew.heap.size := Nat.le_trans R7.out.le (below_oned w7 _).size
                have DK : Hid (∀ W, Below w7.heap.size w7 W → (W.cell? ⟨w.heap.size, 0, none⟩ = some (.int .i64 (n : Nat)) ∧ W.cell? ⟨w.heap.size, 1, none⟩ = some (.int .i64 (Q : Nat)) ∧ W.cell? ⟨w.heap.size, 2, none⟩ = some (.slice (some a) (xs.length + 1) c1)) ∧ W.cell? ⟨e, 0, none⟩ = some (.int .i64 (x.n : Nat)) ∧ W.cell? ⟨e, 1, none⟩ = some (.bool true) ∧ W.cell? ⟨e, 2, none⟩ = some (.int .i64 (D : Nat))) := fun W hW => R7.out.kept hW
                refine til_begin (fun W => (W.cell? ⟨w.heap.size, 0, none⟩ = some (.int .i64 (n : Nat)) ∧ W.cell? ⟨w.heap.size, 1, none⟩ = some (.int .i64 (Q : Nat)) ∧ W.cell? ⟨w.heap.size, 2, none⟩ = some (.slice (some a) (xs.length + 1) c1)) ∧ W.cell? ⟨e, 0, none⟩ = some (.int .i64 (x.n : Nat)) ∧ W.cell? ⟨e, 1, none⟩ = some (.bool true) ∧ W.cell? ⟨e, 2, none⟩ = some (.int .i64 (D : Nat))) 6 (by kernel_rfl) ?_
                have D0 : Hid ((w7.drew.cell? ⟨w.heap.size, 0, none⟩ = some (.int .i64 (n : Nat)) ∧ w7.drew.cell? ⟨w.heap.size, 1, none⟩ = some (.int .i64 (Q : Nat)) ∧ w7.drew.cell? ⟨w.heap.size, 2, none⟩ = some (.slice (some a) (xs.length + 1) c1)) ∧ w7.drew.cell? ⟨e, 0, none⟩ = some (.int .i64 (x.n : Nat)) ∧ w7.drew.cell? ⟨e, 1, none⟩ = some (.bool true) ∧ w7.drew.cell? ⟨e, 2, none⟩ = some (.int .i64 (D : Nat))) := DK.out _ ((Below.refl _ _).drew)
                refine til_take (i := 0) (oi := ⟨some 66, _, _, _, _, _⟩) (v := doc (some a) (xs.length + 1) c1 n Q) rfl (by kernel_rfl) (by kernel_rfl) (by kernel_rfl) (by decide) (by kernel_rfl) (by kernel_rfl) (fun _ _ _ h => h) (Or.inl ⟨by rfl, ?_⟩) D0.out ?_
                · (intro W hSW; obtain ⟨⟨y0, y1, y2⟩, y3, y4, y5⟩ := hSW; go_simp)
                try simp only [Act.put, List.setIfInBounds_toArray, List.set_cons_zero, List.set_cons_succ]
                refine til_take (i := 1) (oi := ⟨some 67, _, _, _, _, _⟩) (v := ?_) rfl (by kernel_rfl) (by kernel_rfl) (by kernel_rfl) (by decide) (by kernel_rfl) (by kernel_rfl) (fun _ _ _ h => h) (Or.inl ⟨by rfl, ?_⟩) D0.out ?_
                rotate_left
                · (intro W hSW; obtain ⟨⟨y0, y1, y2⟩, y3, y4, y5⟩ := hSW; go_simp)
                  first | done | (with_reducible rfl)
                try simp only [Act.put, List.setIfInBounds_toArray, List.set_cons_zero, List.set_cons_succ]
                refine til_take (i := 2) (oi := ⟨some 68, _, _, _, _, _⟩) (v := .agg #[.int .i64 (x.n : Nat), .bool true, .int .i64 (D : Nat)]) rfl (by kernel_rfl) (by kernel_rfl) (by kernel_rfl) (by decide) (by kernel_rfl) (by kernel_rfl) (fun _ _ _ h => h) (Or.inl ⟨by rfl, ?_⟩) D0.out ?_
                · (intro W hSW; obtain ⟨⟨y0, y1, y2⟩, y3, y4, y5⟩ := hSW; go_simp)
                try simp only [Act.put, List.setIfInBounds_toArray, List.set_cons_zero, List.set_cons_succ]
                refine til_one (i := 3) (o := ⟨some 69, _, _, _, _, _⟩) (by kernel_rfl) rfl (fun K hK => ?_)
                go_simp
                refine hK.out _ _ (fun _ => DK.out _ (below_oned w7 _)) ?_
                clear hK K
                try simp only [Act.put, List.setIfInBounds_toArray, List.set_cons_zero, List.set_cons_succ]
                refine til_one (i := 4) (o := ⟨some 70, _, _, _, _, _⟩) (by kernel_rfl) rfl (fun K hK => ?_)
                refine step_cls (by rfl) (.tmp 67) (.tmp 69) (by rfl) base (.slice Ar xs.length cr) xs.length xs (by rfl) (by exact O7.out) (some ⟨w7.heap.size, 0, none⟩) 1 1 [⟨x.n, true, D⟩] rfl (by rfl) (by exact V7.out) (xs.length + 1) (by omega) (xs ++ [⟨x.n, true, D⟩]) (by rfl) (by omega) (by exact hle7) ?_
                intro A8 c8 w8 H1 H2
                obtain ⟨b8, n8, v8, be8⟩ := (R7.out.below (below_oned w7 (oneOf ⟨x.n, true, D⟩))).grown H2.out
                have B8 := Lib.hid b8
                have N8 := Lib.hid n8
                have E8 := Lib.hid be8
                refine hK.out _ _ (fun _ => ⟨b8.cells, v8.cell 0, v8.cell 1, v8.cell 2⟩) ?_
                have V8 := Lib.hid v8
                clear hK K b8 n8 v8 be8
                try simp only [Act.put, List.setIfInBounds_toArray, List.set_cons_zero, List.set_cons_succ]
                refine til_one (i := 5) (o := ⟨some 71, _, _, _, _, _⟩) (by kernel_rfl) rfl (fun K hK => ?_)
                go_simp
                refine (C24.out A8 (xs.length + 1) c8 w8).mono ?_
                rintro e' w9 ⟨rfl, hb⟩
                have B89 := Lib.hid hb
                have B9 := Lib.hid (B8.out.below hb)
                have N9 := Lib.hid (N8.out.far (Far.of_below hb nobody) (fun e => e))
                have E9 : Hid (Below w.heap.size w w9) := E8.out.trans (hb.mono E8.out.size)
                have V9 := Lib.hid (V8.out.far (Far.of_below hb nobody) (fun e => e))
                go_simp
                refine hK.out _ _ (fun _ => ⟨B9.out.cells, V9.out.cell 0, V9.out.cell 1, V9.out.cell 2⟩) ?_
                clear hK K hb
                try simp only [Act.put, List.setIfInBounds_toArray, List.set_cons_zero, List.set_cons_succ]
                obtain ⟨p0, p1, p2⟩ := B9.out.cells
                have f0 := Blk.frozen B9.out 0
                have f1 := Blk.frozen B9.out 1
                have f2 := Blk.frozen B9.out 2
                have hl8 : (xs ++ [(⟨x.n, true, D⟩ : Cls)]).length = xs.length + 1 := by simp
                have DP9 : Hid (DP b w n Q (xs ++ [⟨x.n, true, D⟩]) (stored3 w9 w.heap.size A8 (xs.length + 1) c8 n Q)) := DP.put HBW.out H1.out hl8 hbase B89.out B9.out N9.out E9.out ⟨_, _, _, rfl⟩
                refine til_one (i := 6) (o := ⟨none, _, _, _, _, _⟩) (by kernel_rfl) rfl (fun K hK => ?_)
                go_simp
                refine hK.out _ _ (past (by kernel_rfl)) ?_
                clear hK K
                try simp only [Act.put, List.setIfInBounds_toArray, List.set_cons_zero, List.set_cons_succ]
                refine til_done (by kernel_rfl) ?_ _
                go_wp2_with fail
                go_roundg (mu (xs ++ [⟨x.n, true, D⟩]))
                case measure => exact HMU2.out
                case rel => exact ⟨_, rfl, HOK2.out, HN.out, DP9.out⟩
end Go.Proofs.Ytknalphhnicffaa
