/- The contract of the document's Sum. Conditions: those of each theorem. -/
import Derived.Test.YtfhlgmmfknfamaaKdSummRef
namespace Go.Proofs.Ytfhlgmmfknfamaa.kd.summ
open Go.RowKit

theorem info5 : (Try.prog.info? 5).map (fun i => (i.zero, i.size, i.bytes)) = some (some (.int .u8 0), 1, 1) := by kernel_rfl
/-- append of bytes onto an own row, its length and its bytes told. -/
theorem wpList_app {w : World} {ops : Array Oper} {rest : List Oper} {o : Oper} {a : Act} {Q : Exit → Act → World → Prop} (hgd : o.guard = none) (s x : Operand)
    (ho : o.op = .call { callee := .builtin .append, args := #[s, x], argTypes := #[63, 63] })
    (base : Nat) (v : Value) (n : Nat) (xs : List Nat) (hs : a.eval s = v) (hown : w.ownsRow base 5 1 v n (cel xs))
    (A : Option Addr) (m c : Nat) (bs : List Nat) (hx : a.eval x = .slice A m c) (h : Vals w A m (cel bs)) (k : Nat) (hk : n + m = k) (zs : List Nat) (hz : xs ++ bs = zs) (hn : k ≤ 1000000) (hb : base ≤ w.heap.size)
    (hK : ∀ A' c' w', Hid (w'.ownsRow base 5 1 (.slice A' k c') k (cel zs)) → Hid (w.grownBy w' v.ownBlock) → Hid ((Value.slice A' k c').ownBlock = v.ownBlock ∨ (Value.slice A' k c').ownBlock = some w.heap.size) →
      wpList Try.prog ops Q rest (a.put o.dst (.slice A' k c')) w') : wpList Try.prog ops Q (o :: rest) a w := by
  subst hk hz
  refine wpList_plain hgd fun K hK' => ?_
  obtain ⟨v', w', hrun, h2, h3, h4⟩ := run_append_vals (P := Try.prog) w base 63 o.type 5 (.int .u8 0) 1 Try.underlying63 info5 rfl v n (cel xs) hown A m c (cel bs) h (cel_one bs) hn (by omega) hb
  rw [← cel_app] at h2
  obtain ⟨A', c', rfl, _⟩ := Vals.of_row h2
  unfold Oper.wp
  simp [execOp, ho, resolve, invoke, builtin, hs, hx, hrun, Result.andThen]
  exact hK' _ _ (hK A' c' w' h2 h3 h4)

/-- What the document's Sum has: its four numbers at block g, its bytes as an own row. -/
structure RSum (w : World) (g : Nat) (v : V4) (r : Value) (t : Nat) (bs : List Nat) (w' : World) : Prop where
  own : Blk w' g 85 (vCells v.a v.b v.c v.d)
  row : w'.ownsRow w.heap.size 5 1 r t (cel bs)
  be : Below w.heap.size w w'
  ge : w.heap.size ≤ g
theorem RSum.alloc {w w' : World} {g t : Nat} {v : V4} {r : Value} {bs : List Nat} (h : RSum w g v r t bs w') (o : Obj) : RSum w g v r t bs (w'.alloc o) := ⟨h.own.alloc o, h.row.alloc o, h.be.alloc h.be.size o, h.ge⟩
theorem RSum.more {w w1 w2 : World} {g t t' : Nat} {v : V4} {r r' : Value} {bs bs' : List Nat} (h : RSum w g v r t bs w1) (ho : w2.ownsRow w.heap.size 5 1 r' t' (cel bs')) (hg : w1.grownBy w2 r.ownBlock) : RSum w g v r' t' bs' w2 :=
  ⟨h.own.grown hg (h.own.row_apart h.row (by decide)), ho, h.be.grown hg h.be.size (fun k e => (h.row.lt k e).1), h.ge⟩
theorem RSum.only {w w1 w2 : World} {g t : Nat} {v v' : V4} {r : Value} {bs : List Nat} (h : RSum w g v r t bs w1) (ho : Blk w2 g 85 (vCells v'.a v'.b v'.c v'.d)) (hf : Far (only g) w1 w2) : RSum w g v' r t bs w2 :=
  ⟨ho, hf.row h.row (fun k e e' => by
    have : k = g := e'
    subst this
    exact h.own.row_apart h.row (by decide) e), h.be.trans (hf.below h.be.size (fun k hk e => by have : k = g := e; have := h.ge; omega)), h.ge⟩
theorem RSum.below {w w1 w2 : World} {g t : Nat} {v : V4} {r : Value} {bs : List Nat} (h : RSum w g v r t bs w1) (hb : Below w1.heap.size w1 w2) : RSum w g v r t bs w2 :=
  h.only (h.own.far (S := fun _ => False) (Far.of_below hb _) (fun e => e)) (Far.of_below hb _)

theorem RSum.put {w w1 : World} {g t : Nat} {v : V4} {r : Value} {bs : List Nat} (h : RSum w g v r t bs w1) (i : Nat) (u : Value) {v' : V4} (e : (vCells v.a v.b v.c v.d).set i u = vCells v'.a v'.b v'.c v'.d) : RSum w g v' r t bs (w1.setCell ⟨g, i, none⟩ u) :=
  h.only (by rw [← e]; exact h.own.set_ i u) (StAt.far_set (Far.refl _ _) u)
theorem RSum.put4 {w w1 : World} {g t : Nat} {v : V4} {r : Value} {bs : List Nat} (h : RSum w g v r t bs w1) (a b c d : Nat) : RSum w g ⟨a, b, c, d⟩ r t bs ((((w1.setCell ⟨g, 0, none⟩ (.int .u64 (a : Nat))).setCell ⟨g, 1, none⟩ (.int .u64 (b : Nat))).setCell ⟨g, 2, none⟩ (.int .u64 (c : Nat))).setCell ⟨g, 3, none⟩ (.int .u64 (d : Nat))) :=
  (((h.put 0 _ (v' := ⟨a, v.b, v.c, v.d⟩) rfl).put 1 _ (v' := ⟨a, b, v.c, v.d⟩) rfl).put 2 _ (v' := ⟨a, b, c, v.d⟩) rfl).put 3 _ (v' := ⟨a, b, c, d⟩) rfl
theorem out_four {v r1 r2 r3 r4 : V4} {s : Nat} (h1 : rnd v = r1) (h2 : rnd r1 = r2) (h3 : rnd r2 = r3) (h4 : rnd r3 = r4) (h : outV (rnds 4 v) = s) : outV r4 = s := by
  have e1 : rnds 1 v = r1 := h1
  have e2 : rnds 2 v = r2 := by show rnd (rnds 1 v) = r2; rw [e1, h2]
  have e3 : rnds 3 v = r3 := by show rnd (rnds 2 v) = r3; rw [e2, h3]
  have e4 : rnds 4 v = r4 := by show rnd (rnds 3 v) = r4; rw [e3, h4]
  rw [← e4]
  exact h
theorem ref_rd (a b c d ra rb rc rd : Nat) (w : World) (h : rnd ⟨a, b, c, d⟩ = ⟨ra, rb, rc, rd⟩) (hv : (⟨a, b, c, d⟩ : V4).Ok) : Calls Try.prog 48 #[.agg #[.int .u64 (a : Nat), .int .u64 (b : Nat), .int .u64 (c : Nat), .int .u64 (d : Nat)]] w fun e w' => e = .returned (.agg #[.int .u64 (ra : Nat), .int .u64 (rb : Nat), .int .u64 (rc : Nat), .int .u64 (rd : Nat)]) ∧ Below w.heap.size w w' := by
  have := ref_round ⟨a, b, c, d⟩ w hv
  rw [h] at this
  exact this
/-- How long a slice is. -/
def lenV : Value → Nat
  | .slice _ n _ => n
  | _ => 0
theorem byte_out (n : Nat) (l : List Nat) (h : l.length = n) : IntKind.u8.wrap (n : Int) = ((stC l : Nat) : Int) := by
  subst h
  rw [IntKind.wrap_u8']
  unfold stC
  omega
theorem pad_snoc (l : List Nat) {n t : Nat} (h : n ≤ t) : l ++ List.replicate (t - n) 0 ++ [0] = l ++ List.replicate (t + 1 - n) 0 := by
  rw [show t + 1 - n = (t - n) + 1 by omega, List.append_assoc, ← List.replicate_succ']
/-- Eight of an own row's bytes. -/
theorem run_eight {w : World} {base T cp a : Nat} {A : Option Addr} {bs : List Nat} (h : w.ownsRow base 5 1 (.slice A T cp) T (cel bs)) (ha : a + 8 ≤ T) :
    ∃ Z, (∀ W, (Instr.slice 63 (.slice A T cp) (some (.int .i64 (a : Nat))) (some (.int .i64 ((a : Int) + 8))) none).run Try.prog W = .ok (.slice Z 8 (cp - a)) W) ∧ Vals w Z 8 (cel ((bs.drop a).take 8)) := by
  obtain ⟨A', c', e, hc, _, hv, _⟩ := Vals.of_row h
  cases e
  have h1 := (hv.from_ (k := a) (cap := cp) (by omega) hc).upto (k := 8) (by omega)
  rw [cel_drop, cel_take] at h1
  refine ⟨_, fun W => ?_, h1⟩
  have h2 := run_slice_lh (P := Try.prog) (w := W) 63 A T cp (by kernel_rfl) .i64 .i64 (a : Int) ((a : Int) + 8) (by omega) (by omega) (by omega)
  rw [h2]
  simp [sliced, go_sem]
  omega

set_option maxRecDepth 100000 in
set_option maxHeartbeats 4000000 in
theorem ref_sum (k : List Nat) (A : Option Addr) (n c : Nat) (l : List Nat) (w : World) (hk : Octs k) (h16 : k.length = 16) (h : Vals w A n (cel l)) (hn : n ≤ 1000) (hl : Octs l) :
    Calls Try.prog 41 #[.agg (cel k).toArray, .slice A n c] w fun e w' => e = .returned (.int .u64 (sip k l : Nat)) ∧ Below w.heap.size w w' := by
  have hln : l.length = n := by have := h.1; rw [cel_length] at this; exact this
  have V0 := Lib.hid (begV_ok hk h16)
  have HS : Hid (∀ x y, le (k.take 8) = x → le (k.drop 8) = y → begV k = ⟨x ^^^ 8317987319222330741, y ^^^ 7237128888997146477, x ^^^ 7816392313619706465, y ^^^ 8387220255154660723⟩) := fun x y h1 h2 => by subst h1 h2; rfl
  have HT : Hid (finV (absorb (n / 8 + 1) (begV k) (filled l)) = sip k l) := by show _ = _; rw [← hln]; exact sumOf_filled _ _
  generalize sip k l = s at *
  have B0 : Hid (Blk (w.alloc (.cells (cel k).toArray 22)).drew w.heap.size 22 (cel k)) := Blk.new w 22 (cel k)
  have W0 : Hid (Below w.heap.size w (w.alloc (.cells (cel k).toArray 22)).drew) := ((Below.refl _ w).alloc (Nat.le_refl _) _).drew
  have V1 := Lib.hid (halves B0.out h16)
  have O1 := Lib.hid (hk.take 8)
  have O2 := Lib.hid (hk.drop 8)
  have u1 : U (le (k.take 8)) := le_u (hk.take _) (by simp; omega)
  have u2 : U (le (k.drop 8)) := le_u (hk.drop _) (by simp; omega)
  have HV := Lib.hid h
  have HL := Lib.hid hln
  clear h hln h16
  go_enter Try.func41, Try.ntmps41
  go_wp2_with fail
  refine wp_region_still_lit (by kernel_rfl) (by kernel_rfl) ?_
  change wpStill _ _ (w.alloc (.cells (cel k).toArray 22)).drew (fun a' => Exit.then _ _ Exit.normal a' (w.alloc (.cells (cel k).toArray 22)).drew) _ _
  generalize (w.alloc (.cells (cel k).toArray 22)).drew = x at *
  repeat (first | still_step | still_call (still (word_is _ _ (k.take 8) _ V1.out.1 O1.out)) | still_call (still (word_is _ _ (k.drop 8) _ V1.out.2 O2.out)))
  refine wpStill_nil ?_
  have c1 : U 8317987319222330741 := by unfold U; decide
  have c2 : U 7237128888997146477 := by unfold U; decide
  have c3 : U 7816392313619706465 := by unfold U; decide
  have c4 : U 8387220255154660723 := by unfold U; decide
  have e1 : bits .xor .u64 ((le (k.take 8) : Nat) : Int) 8317987319222330741 = _ := xor_out u1 c1
  have e2 : bits .xor .u64 ((le (k.drop 8) : Nat) : Int) 7237128888997146477 = _ := xor_out u2 c2
  have e3 : bits .xor .u64 ((le (k.take 8) : Nat) : Int) 7816392313619706465 = _ := xor_out u1 c3
  have e4 : bits .xor .u64 ((le (k.drop 8) : Nat) : Int) 8387220255154660723 = _ := xor_out u2 c4
  have HV1 := Lib.hid (HS.out _ _ rfl rfl)
  clear c1 c2 c3 c4 u1 u2 O1 O2 V1 HS
  generalize le (k.take 8) = y1 at *
  generalize le (k.drop 8) = y2 at *
  generalize y1 ^^^ 8317987319222330741 = v1 at *
  generalize y2 ^^^ 7237128888997146477 = v2 at *
  generalize y1 ^^^ 7816392313619706465 = v3 at *
  generalize y2 ^^^ 8387220255154660723 = v4 at *
  generalize begV k = bv at *
  obtain ⟨p1, p2, p3, p4⟩ := bv
  have i0 := HV1.out
  injection i0 with i1 i2 i3 i4
  subst i1 i2 i3 i4
  clear HV1
  have hws := W0.out.size
  go_upto_region 3 with (fail)
  have B1 : Hid (Blk (x.alloc (.cells #[.int .u64 (p1 : Nat), .int .u64 (p2 : Nat), .int .u64 (p3 : Nat), .int .u64 (p4 : Nat)] 85)) x.heap.size 85 (vCells p1 p2 p3 p4)) := Blk.new x 85 (vCells p1 p2 p3 p4)
  have W1 : Hid (Below w.heap.size w (x.alloc (.cells #[.int .u64 (p1 : Nat), .int .u64 (p2 : Nat), .int .u64 (p3 : Nat), .int .u64 (p4 : Nat)] 85))) := W0.out.alloc hws _
  clear W0 B0 e1 e2 e3 e4
  generalize x.alloc (.cells #[.int .u64 (p1 : Nat), .int .u64 (p2 : Nat), .int .u64 (p3 : Nat), .int .u64 (p4 : Nat)] 85) = w1 at *
  generalize x.heap.size = g at *
  have hws1 := W1.out.size
  have R1 : Hid (RSum w g ⟨p1, p2, p3, p4⟩ (.slice (some ⟨w1.heap.size, 0, none⟩) 0 0) 0 [] (w1.alloc (.cells #[] 5))) := ⟨B1.out.alloc _, World.ownsRow_made w1 #[] 0 hws1 (by decide) rfl, W1.out.alloc hws1 _, hws⟩
  have HV1 : Hid (Vals (w1.alloc (.cells #[] 5)) A n (cel l)) := (HV.out.below W1.out).below ((Below.refl _ _).alloc (Nat.le_refl _) _)
  go_upto_region 4 with (at_builtin; refine wpList_app rfl (.tmp 24) (.tmp 25) rfl w.heap.size (.slice (some ⟨w1.heap.size, 0, none⟩) 0 0) 0 [] rfl (by exact R1.out.row) A n c l rfl (by exact HV1.out) n (by omega) l rfl (by omega) (by simp; omega) ?_; intro A2 c2 w2 H1 H2 H3)
  have R2 := Lib.hid (R1.out.more H1.out H2.out)
  clear H1 H2 H3 R1 HV1 W1 B1
  go_loopw [8] (fun r w' => ∃ (t : Nat) (A' : Option Addr) (c' : Nat), r = .slice A' t c' ∧ n ≤ t ∧ t ≤ n + (7 - n % 8) ∧ RSum w g ⟨p1, p2, p3, p4⟩ r t (l ++ List.replicate (t - n) 0) w') (fun r _ => n + 7 - lenV r)
  case atStart => exact ⟨n, A2, c2, rfl, by omega, by omega, by simpa using R2.out⟩
  case round =>
    obtain ⟨t, A3, c3, rfl, ht, ht2, hr⟩ := hrel
    have HR := Lib.hid hr
    clear hr
    have hws2 := HR.out.be.size
    by_cases hd : t % 8 = 7
    · have hd1 : (((t : Nat) : Int) % 8 != 7) = false := by simp; omega
      have ec := byte_out n l HL.out
      have HF : Hid (l ++ List.replicate (t - n) 0 ++ [stC l] = filled l) := by
        show _ = _
        unfold filled
        rw [HL.out, show t - n = 7 - n % 8 by omega]
      have HFL : Hid ((filled l).length = 8 * (n / 8 + 1)) := by show _ = _; rw [filled_length, HL.out]
      have HFO := Lib.hid (filled_octs hl)
      generalize filled l = F at *
      generalize stC l = b at *
      generalize l ++ List.replicate (t - n) 0 = M at *
      go_upto_region 7 with (at_builtin; refine wpList_app rfl (.tmp 34) (.tmp 38) rfl w.heap.size (.slice A3 t c3) t M rfl (by exact (HR.out.alloc _).row) (some ⟨wr.heap.size, 0, none⟩) 1 1 [b] rfl (by exact Vals.of_blk (vs := cel [b]) (Blk.new wr 5 (cel [b])) rfl) (t + 1) rfl F HF.out (by omega) (by simp; omega) ?_; intro A4 c4 w4 H1 H2 H3)
      have R4 := Lib.hid ((HR.out.alloc _).more H1.out H2.out)
      have hT1 : t + 1 ≤ 8 * (n / 8 + 1) := by omega
      have hT2 : 8 * (n / 8 + 1) ≤ t + 1 := by omega
      have hT3 : t + 1 ≤ 2000 := by omega
      clear H1 H2 H3 HR HF ec hd1 hd
      generalize t + 1 = T at *
      generalize n / 8 + 1 = q at *
      go_wp2_with fail
      go_loopw [9, 10] (fun y _ w' => ∃ (a j : Nat) (v : V4), y = .int .i64 (a : Nat) ∧ a = 8 * j ∧ j ≤ q ∧ v = absorb j ⟨p1, p2, p3, p4⟩ F ∧ RSum w g v (.slice A4 T c4) T F w') (fun y _ _ => T - (intOf y).toNat)
      case atStart => exact ⟨0, 0, _, rfl, rfl, by omega, rfl, R4.out⟩
      case round =>
        obtain ⟨a, j, v, rfl, ha, hj, hv, hr⟩ := hrel
        have HA := Lib.hid ha
        have HVV := Lib.hid hv
        have HR := Lib.hid hr
        have ha1 : a ≤ 8 * j := by omega
        have ha2 : 8 * j ≤ a := by omega
        have OK := Lib.hid (hv ▸ absorb_ok V0.out HFO.out j : v.Ok)
        clear hr ha hv
        obtain ⟨va, vb, vc, vd⟩ := v
        by_cases hlt : j < q
        · have hd2 : decide ((a : Int) < (T : Int)) = true := by simp; omega
          have hd3 : decide (a < T) = true := by simp; omega
          obtain ⟨Z, hsl, hvz⟩ := run_eight (a := a) HR.out.row (by omega)
          have HVZ := Lib.hid hvz
          have HO8 := Lib.hid ((HFO.out.drop a).take 8)
          have um := le_u HO8.out (by simp; omega)
          have ex := xor_out OK.out.d um
          have ud := xor_u OK.out.d um
          have HM : Hid (∀ r, rnd (rnd ⟨va, vb, vc, vd ^^^ le ((F.drop a).take 8)⟩) = r → (⟨r.a ^^^ le ((F.drop a).take 8), r.b, r.c, r.d⟩ : V4) = absorb (j + 1) ⟨p1, p2, p3, p4⟩ F) := fun r e => by
            subst e
            simp only [absorb]
            rw [← HVV.out, HA.out]
            rfl
          have HW := Lib.hid (word_is Z (c4 - a) _ wr HVZ.out HO8.out)
          simp only [] at ex ud
          generalize le ((F.drop a).take 8) = m at *
          obtain ⟨d1, hd1⟩ : ∃ d1, d1 = vd ^^^ m := ⟨_, rfl⟩
          rw [← hd1] at ex ud HM
          clear hd1 hvz
          have k0 : wr.cell? ⟨g, 0, none⟩ = some (.int .u64 (va : Nat)) := HR.out.own.cell 0
          have k1 : wr.cell? ⟨g, 1, none⟩ = some (.int .u64 (vb : Nat)) := HR.out.own.cell 1
          have k2 : wr.cell? ⟨g, 2, none⟩ = some (.int .u64 (vc : Nat)) := HR.out.own.cell 2
          have k3 : wr.cell? ⟨g, 3, none⟩ = some (.int .u64 (vd : Nat)) := HR.out.own.cell 3
          have f3 := HR.out.own.frozen 3
          go_upto_region 12 with (go_at_call 47; (with_reducible refine HW.out.mono ?_); rintro e w5 ⟨rfl, rfl⟩)
          have R6 : Hid (RSum w g ⟨va, vb, vc, d1⟩ (.slice A4 T c4) T F (wr.setCell ⟨g, 3, none⟩ (.int .u64 (d1 : Nat)))) := HR.out.put 3 _ rfl
          have OK1 : Hid ((⟨va, vb, vc, d1⟩ : V4).Ok) := ⟨OK.out.a, OK.out.b, OK.out.c, ud⟩
          clear k0 k1 k2 k3 f3 ex ud HW HVZ HO8 hsl HR HVV OK R4
          generalize wr.setCell ⟨g, 3, none⟩ (.int .u64 (d1 : Nat)) = w6 at *
          obtain ⟨r1, hr1⟩ : ∃ r, rnd ⟨va, vb, vc, d1⟩ = r := ⟨_, rfl⟩
          have OK2 := Lib.hid (hr1 ▸ rnd_ok OK1.out : r1.Ok)
          rw [hr1] at HM
          have HR1 := Lib.hid hr1
          clear hr1
          obtain ⟨a1, b1, c1, e1⟩ := r1
          obtain ⟨r2, hr2⟩ : ∃ r, rnd ⟨a1, b1, c1, e1⟩ = r := ⟨_, rfl⟩
          have OK3 := Lib.hid (hr2 ▸ rnd_ok OK2.out : r2.Ok)
          have HE := Lib.hid (HM.out r2 hr2)
          have HR2 := Lib.hid hr2
          clear hr2 HM
          obtain ⟨a2, b2, c2', e2⟩ := r2
          have k0 : w6.cell? ⟨g, 0, none⟩ = some (.int .u64 (va : Nat)) := R6.out.own.cell 0
          have k1 : w6.cell? ⟨g, 1, none⟩ = some (.int .u64 (vb : Nat)) := R6.out.own.cell 1
          have k2 : w6.cell? ⟨g, 2, none⟩ = some (.int .u64 (vc : Nat)) := R6.out.own.cell 2
          have k3 : w6.cell? ⟨g, 3, none⟩ = some (.int .u64 (d1 : Nat)) := R6.out.own.cell 3
          go_upto_region 13 with (first | (go_at_call 48; (with_reducible refine (ref_rd va vb vc d1 a1 b1 c1 e1 w6 HR1.out OK1.out).mono ?_); rintro e w7 ⟨rfl, hb7⟩; have S7 := Lib.hid (R6.out.below hb7); clear hb7) | (go_at_call 48; (with_reducible refine (ref_rd a1 b1 c1 e1 a2 b2 c2' e2 w7 HR2.out OK2.out).mono ?_); rintro e w8 ⟨rfl, hb8⟩; have S8 := Lib.hid (S7.out.below hb8); clear hb8; have j0 : w8.cell? ⟨g, 0, none⟩ = some (.int .u64 (va : Nat)) := S8.out.own.cell 0; have j1 : w8.cell? ⟨g, 1, none⟩ = some (.int .u64 (vb : Nat)) := S8.out.own.cell 1; have j2 : w8.cell? ⟨g, 2, none⟩ = some (.int .u64 (vc : Nat)) := S8.out.own.cell 2; have j3 : w8.cell? ⟨g, 3, none⟩ = some (.int .u64 (d1 : Nat)) := S8.out.own.cell 3; have g0 := S8.out.own.frozen 0; have g1 := S8.out.own.frozen 1; have g2 := S8.out.own.frozen 2; have g3 := S8.out.own.frozen 3))
          have R9 := Lib.hid (S8.out.put4 a2 b2 c2' e2)
          clear k0 k1 k2 k3 j0 j1 j2 j3 g0 g1 g2 g3 S7 S8 R6
          generalize (((w8.setCell ⟨g, 0, none⟩ (.int .u64 (a2 : Nat))).setCell ⟨g, 1, none⟩ (.int .u64 (b2 : Nat))).setCell ⟨g, 2, none⟩ (.int .u64 (c2' : Nat))).setCell ⟨g, 3, none⟩ (.int .u64 (e2 : Nat)) = w9 at *
          have k0 : w9.cell? ⟨g, 0, none⟩ = some (.int .u64 (a2 : Nat)) := R9.out.own.cell 0
          have f0 := R9.out.own.frozen 0
          have ex := xor_out OK3.out.a um
          simp only [] at ex
          go_wp2_with fail
          go_roundw
          case rel => exact ⟨a + 8, j + 1, _, by go_num, by rw [HA.out]; omega, by omega, HE.out, R9.out.put 0 _ rfl⟩
          case measure => simp [intOf]; omega
        · have hd2 : decide ((a : Int) < (T : Int)) = false := by simp; omega
          have hd3 : decide (a < T) = false := by simp; omega
          have hjq : j = q := by omega
          have HT2 : Hid (outV (rnds 4 ⟨va, vb, vc ^^^ 255, vd⟩) = s) := by
            show _ = _
            rw [← HT.out, ← hjq, ← HVV.out]
            rfl
          have ex : bits .xor .u64 (vc : Int) 255 = ((vc ^^^ 255 : Nat) : Int) := xor_out (y := 255) OK.out.c (by unfold U; omega)
          have OK1 := Lib.hid (fin_ok OK.out)
          simp only [] at OK1
          obtain ⟨d0, hd0⟩ : ∃ d0, d0 = vc ^^^ 255 := ⟨_, rfl⟩
          rw [← hd0] at ex OK1 HT2
          clear hd0 hjq
          have k2 : wr.cell? ⟨g, 2, none⟩ = some (.int .u64 (vc : Nat)) := HR.out.own.cell 2
          have f2 := HR.out.own.frozen 2
          go_upto_region 15 with (fail)
          have R6 : Hid (RSum w g ⟨va, vb, d0, vd⟩ (.slice A4 T c4) T F (wr.setCell ⟨g, 2, none⟩ (.int .u64 (d0 : Nat)))) := HR.out.put 2 _ rfl
          clear k2 f2 ex HR HVV OK R4 HT
          generalize wr.setCell ⟨g, 2, none⟩ (.int .u64 (d0 : Nat)) = w6 at *
          have k0 : w6.cell? ⟨g, 0, none⟩ = some (.int .u64 (va : Nat)) := R6.out.own.cell 0
          have k1 : w6.cell? ⟨g, 1, none⟩ = some (.int .u64 (vb : Nat)) := R6.out.own.cell 1
          have k2 : w6.cell? ⟨g, 2, none⟩ = some (.int .u64 (d0 : Nat)) := R6.out.own.cell 2
          have k3 : w6.cell? ⟨g, 3, none⟩ = some (.int .u64 (vd : Nat)) := R6.out.own.cell 3
          obtain ⟨r1, hr1⟩ : ∃ r, rnd ⟨va, vb, d0, vd⟩ = r := ⟨_, rfl⟩
          have OK2 := Lib.hid (hr1 ▸ rnd_ok OK1.out : r1.Ok)
          have HR1 := Lib.hid hr1
          clear hr1
          obtain ⟨ra1, rb1, rc1, rd1⟩ := r1
          obtain ⟨r2, hr2⟩ : ∃ r, rnd ⟨ra1, rb1, rc1, rd1⟩ = r := ⟨_, rfl⟩
          have OK3 := Lib.hid (hr2 ▸ rnd_ok OK2.out : r2.Ok)
          have HR2 := Lib.hid hr2
          clear hr2
          obtain ⟨ra2, rb2, rc2, rd2⟩ := r2
          obtain ⟨r3, hr3⟩ : ∃ r, rnd ⟨ra2, rb2, rc2, rd2⟩ = r := ⟨_, rfl⟩
          have OK4 := Lib.hid (hr3 ▸ rnd_ok OK3.out : r3.Ok)
          have HR3 := Lib.hid hr3
          clear hr3
          obtain ⟨ra3, rb3, rc3, rd3⟩ := r3
          obtain ⟨r4, hr4⟩ : ∃ r, rnd ⟨ra3, rb3, rc3, rd3⟩ = r := ⟨_, rfl⟩
          have OK5 := Lib.hid (hr4 ▸ rnd_ok OK4.out : r4.Ok)
          have HR4 := Lib.hid hr4
          clear hr4
          obtain ⟨ra4, rb4, rc4, rd4⟩ := r4
          have HT3 : Hid (outV ⟨ra4, rb4, rc4, rd4⟩ = s) := out_four HR1.out HR2.out HR3.out HR4.out HT2.out
          clear HT2
          go_upto_region 16 with (first | (go_at_call 48; (with_reducible refine (ref_rd va vb d0 vd ra1 rb1 rc1 rd1 w6 HR1.out OK1.out).mono ?_); rintro e x1 ⟨rfl, hb⟩; have S1 := Lib.hid (R6.out.below hb); clear hb) | (go_at_call 48; (with_reducible refine (ref_rd ra1 rb1 rc1 rd1 ra2 rb2 rc2 rd2 x1 HR2.out OK2.out).mono ?_); rintro e x2 ⟨rfl, hb⟩; have S2 := Lib.hid (S1.out.below hb); clear hb) | (go_at_call 48; (with_reducible refine (ref_rd ra2 rb2 rc2 rd2 ra3 rb3 rc3 rd3 x2 HR3.out OK3.out).mono ?_); rintro e x3 ⟨rfl, hb⟩; have S3 := Lib.hid (S2.out.below hb); clear hb) | (go_at_call 48; (with_reducible refine (ref_rd ra3 rb3 rc3 rd3 ra4 rb4 rc4 rd4 x3 HR4.out OK4.out).mono ?_); rintro e x4 ⟨rfl, hb⟩; have S4 := Lib.hid (S3.out.below hb); clear hb; have j0 : x4.cell? ⟨g, 0, none⟩ = some (.int .u64 (va : Nat)) := S4.out.own.cell 0; have g0 := S4.out.own.frozen 0; have j1 : x4.cell? ⟨g, 1, none⟩ = some (.int .u64 (vb : Nat)) := S4.out.own.cell 1; have g1 := S4.out.own.frozen 1; have j2 : x4.cell? ⟨g, 2, none⟩ = some (.int .u64 (d0 : Nat)) := S4.out.own.cell 2; have g2 := S4.out.own.frozen 2; have j3 : x4.cell? ⟨g, 3, none⟩ = some (.int .u64 (vd : Nat)) := S4.out.own.cell 3; have g3 := S4.out.own.frozen 3))
          have R9 := Lib.hid (S4.out.put4 ra4 rb4 rc4 rd4)
          clear k0 k1 k2 k3 j0 j1 j2 j3 g0 g1 g2 g3 S1 S2 S3 S4 R6
          generalize (((x4.setCell ⟨g, 0, none⟩ (.int .u64 (ra4 : Nat))).setCell ⟨g, 1, none⟩ (.int .u64 (rb4 : Nat))).setCell ⟨g, 2, none⟩ (.int .u64 (rc4 : Nat))).setCell ⟨g, 3, none⟩ (.int .u64 (rd4 : Nat)) = w9 at *
          have k0 : w9.cell? ⟨g, 0, none⟩ = some (.int .u64 (ra4 : Nat)) := R9.out.own.cell 0
          have k1 : w9.cell? ⟨g, 1, none⟩ = some (.int .u64 (rb4 : Nat)) := R9.out.own.cell 1
          have k2 : w9.cell? ⟨g, 2, none⟩ = some (.int .u64 (rc4 : Nat)) := R9.out.own.cell 2
          have k3 : w9.cell? ⟨g, 3, none⟩ = some (.int .u64 (rd4 : Nat)) := R9.out.own.cell 3
          have e1 := xor_out OK5.out.a OK5.out.b
          have u1 := xor_u OK5.out.a OK5.out.b
          have e2 := xor_out u1 OK5.out.c
          have u2 := xor_u u1 OK5.out.c
          have e3 := xor_out u2 OK5.out.d
          simp only [] at e1 e2 e3
          clear u1 u2
          go_wp2
          go_ret
          refine ⟨?_, R9.out.be⟩
          rw [← HT3.out]
          rfl
    · have hd1 : (((t : Nat) : Int) % 8 != 7) = true := by simp; omega
      have HP := Lib.hid (pad_snoc l ht)
      go_wp2_with (at_builtin; refine wpList_app rfl (.tmp 31) (.tmp 32) rfl w.heap.size (.slice A3 t c3) t _ rfl (by exact (HR.out.alloc _).row) (some ⟨wr.heap.size, 0, none⟩) 1 1 [0] rfl (by exact Vals.of_blk (vs := cel [0]) (Blk.new wr 5 (cel [0])) rfl) (t + 1) rfl _ HP.out (by omega) (by simp; omega) ?_; intro A4 c4 w4 H1 H2 H3)
      go_roundw
      case rel => exact ⟨t + 1, A4, c4, rfl, by omega, by omega, (HR.out.alloc _).more H1.out H2.out⟩
      case measure => simp [lenV]; omega
end Go.Proofs.Ytfhlgmmfknfamaa.kd.summ
