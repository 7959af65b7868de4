/- The walk of the law EtherTags: for any bytes and any tags it returns true and turns nothing that was there. -/
import Derived.Test.YtmnakdmmkkombaaTags1
import Derived.Deep.RegionHeld3
namespace Go.Proofs.Ytmnakdmmkkombaa
open Go.RowKit

/-- What must stay while tags are laid: the two arrays, the link of the frame itself, and all that was there. -/
structure Kept (w : World) (O : Nat → Bool) (X : Nat → Nat) (L : Nat) (b : Bool) (W : World) : Prop where
  bx : Blk W w.heap.size 33 [.int .u16 (X 0 : Nat), .int .u16 (X 1 : Nat), .int .u16 (X 2 : Nat)]
  bo : Blk W (w.heap.size + 1) 34 [.bool (O 0), .bool (O 1), .bool (O 2)]
  lk : Blk W L 25 [.bool b, .int .i64 14]
  be : Below w.heap.size w W
section
variable {w W W' : World} {O : Nat → Bool} {X : Nat → Nat} {L : Nat} {b : Bool}
theorem Kept.below (h : Kept w O X L b W) (hb : Below W.heap.size W W') : Kept w O X L b W' :=
  ⟨h.bx.far (Far.of_below hb nobody) (fun e => e), h.bo.far (Far.of_below hb nobody) (fun e => e), h.lk.far (Far.of_below hb nobody) (fun e => e), h.be.trans (hb.mono h.be.size)⟩
theorem Kept.alloc (h : Kept w O X L b W) (o : Obj) : Kept w O X L b (W.alloc o) := h.below ((Below.refl _ _).alloc (Nat.le_refl _) _)
theorem Kept.drew (h : Kept w O X L b W) : Kept w O X L b W.drew := h.below (Below.refl _ _).drew
theorem Kept.grown {v : Value} {n : Nat} {xs : List Value} (h : Kept w O X L b W) (ho : W.ownsRow w.heap.size 5 1 v n xs) (hg : W.grownBy W' v.ownBlock) : Kept w O X L b W' :=
  ⟨h.bx.grown hg (h.bx.row_apart ho (by decide)), h.bo.grown hg (h.bo.row_apart ho (by decide)), h.lk.grown hg (h.lk.row_apart ho (by decide)), h.be.grown hg h.be.size (fun k e => (ho.lt k e).1)⟩
theorem Kept.x (h : Kept w O X L b W) {k : Nat} (hk : k < 3) : W.cell? ⟨w.heap.size, k, none⟩ = some (.int .u16 (X k : Nat)) := by
  rw [h.bx.cell]
  rcases (by omega : k = 0 ∨ k = 1 ∨ k = 2) with rfl | rfl | rfl <;> rfl
theorem Kept.o (h : Kept w O X L b W) {k : Nat} (hk : k < 3) : W.cell? ⟨w.heap.size + 1, k, none⟩ = some (.bool (O k)) := by
  rw [h.bo.cell]
  rcases (by omega : k = 0 ∨ k = 1 ∨ k = 2) with rfl | rfl | rfl <;> rfl
end

/-- append of bytes onto an own row, in a region that draws. -/
theorem step_app {ops : Array Oper} {o : Oper} {a : Act} {w : World} {K : Act → World → Prop} {Q : Exit → Act → World → Prop} {E : Prop} (hgd : o.guard = none) (s x : Operand)
    (ho : o.op = .call { callee := .builtin .append, args := #[s, x], argTypes := #[22, 22] })
    (base : Nat) (v : Value) (n : Nat) (xs : List Int) (hs : a.eval s = v) (hown : w.ownsRow base 5 1 v n (cel xs))
    (A : Option Addr) (m c : Nat) (bs : List Int) (hx : a.eval x = .slice A m c) (h : Byts w A m bs) (k : Nat) (hk : n + m = k) (zs : List Int) (hz : xs ++ bs = zs) (hn : k ≤ 1000000) (hb : base ≤ w.heap.size)
    (hK : ∀ A' c' w', Hid (w'.ownsRow base 5 1 (.slice A' k c') k (cel zs)) → Hid (w.grownBy w' v.ownBlock) → K (a.put o.dst (.slice A' k c')) w') : if Region.wanted o (yielded ops a.tmps) = true then Oper.wp Try.prog o a w K Q else E := by
  subst hk hz
  have hw : Region.wanted o (yielded ops a.tmps) = true := by simp [Region.wanted, hgd]
  rw [if_pos hw]
  obtain ⟨v', w', hrun, h2, h3, _⟩ := run_append_bytes (P := Try.prog) w base 22 o.type 5 Try.underlying22 info5 v n xs hown A m c bs h hn hb
  obtain ⟨A', c', rfl, _⟩ := Byts.of_row h2
  unfold Oper.wp
  simp [execOp, ho, resolve, invoke, builtin, hs, hx, hrun, Result.andThen]
  exact hK A' c' w' h2 h3
theorem tagB_in (x : Nat) : [129, 0, (x : Int) / 256, (x : Int) % 256] = tagB false x := by simp [tagB]
theorem tagB_out (x : Nat) : [136, 168, (x : Int) / 256, (x : Int) % 256] = tagB true x := by simp [tagB]

set_option maxRecDepth 100000 in
set_option maxHeartbeats 1000000 in
theorem tags_far (A : Option Addr) (n c : Nat) (O : Nat → Bool) (X : Nat → Nat) (w : World) (hn : n < 14 ∨ 500 < n) :
    Calls Try.prog 4 #[.slice A n c, .agg #[.int .u16 (X 0 : Nat), .int .u16 (X 1 : Nat), .int .u16 (X 2 : Nat)], .agg #[.bool (O 0), .bool (O 1), .bool (O 2)]] w fun e w' => e = .returned (.bool true) ∧ Below w.heap.size w w' := by
  have W0 : Hid (Below w.heap.size w ((w.alloc (.cells #[.int .u16 (X 0 : Nat), .int .u16 (X 1 : Nat), .int .u16 (X 2 : Nat)] 33)).alloc (.cells #[.bool (O 0), .bool (O 1), .bool (O 2)] 34))) := ((Below.refl _ w).alloc (Nat.le_refl _) _).alloc (by simp) _
  by_cases h : n < 14
  · have hd : decide ((n : Int) < 14) = true := by simp; omega
    have hd2 : decide (n < 14) = true := by simpa using h
    go_enter Try.func4, Try.ntmps4
    go_wp2_with fail
    refine (awake_any _).mono ?_
    rintro e w1 ⟨rfl, hb⟩
    have W1 : Hid (Below w.heap.size w w1) := W0.out.trans (hb.mono W0.out.size)
    clear hb
    go_wp2_with fail
    refine (awake_any _).mono ?_
    rintro e w2 ⟨rfl, hb⟩
    have W2 : Hid (Below w.heap.size w w2) := W1.out.trans (hb.mono W1.out.size)
    clear hb
    go_wp2
    go_ret
    exact ⟨rfl, W2.out⟩
  · have hd : decide ((n : Int) < 14) = false := by simp; omega
    have hd2 : decide (n < 14) = false := by simpa using h
    have hd3 : decide ((500 : Int) < (n : Int)) = true := by simp; omega
    have hd4 : decide (500 < n) = true := by simp; omega
    go_enter Try.func4, Try.ntmps4
    go_wp2_with fail
    refine (awake_any _).mono ?_
    rintro e w1 ⟨rfl, hb⟩
    have W1 : Hid (Below w.heap.size w w1) := W0.out.trans (hb.mono W0.out.size)
    clear hb
    go_wp2_with fail
    refine (awake_any _).mono ?_
    rintro e w2 ⟨rfl, hb⟩
    have W2 : Hid (Below w.heap.size w w2) := W1.out.trans (hb.mono W1.out.size)
    clear hb
    go_wp2
    go_ret
    exact ⟨rfl, W2.out⟩

set_option maxRecDepth 100000 in
set_option maxHeartbeats 4000000 in
theorem tags_near (A : Option Addr) (n c : Nat) (bs : List Int) (O : Nat → Bool) (X : Nat → Nat) (w : World) (h : Byts w A n bs) (ho : Octs bs) (hc : n ≤ c) (hX : ∀ k, X k ≤ 65535) (hn : 14 ≤ n) (hm : n ≤ 500) :
    Calls Try.prog 4 #[.slice A n c, .agg #[.int .u16 (X 0 : Nat), .int .u16 (X 1 : Nat), .int .u16 (X 2 : Nat)], .agg #[.bool (O 0), .bool (O 1), .bool (O 2)]] w fun e w' => e = .returned (.bool true) ∧ Below w.heap.size w w' := by
  have hd : decide ((n : Int) < 14) = false := by simp; omega
  have hd2 : decide (n < 14) = false := by simp; omega
  have hd3 : decide ((500 : Int) < (n : Int)) = false := by simp; omega
  have hd4 : decide (500 < n) = false := by simp; omega
  have X0 : Hid (Blk ((w.alloc (.cells #[.int .u16 (X 0 : Nat), .int .u16 (X 1 : Nat), .int .u16 (X 2 : Nat)] 33)).alloc (.cells #[.bool (O 0), .bool (O 1), .bool (O 2)] 34)) w.heap.size 33 [.int .u16 (X 0 : Nat), .int .u16 (X 1 : Nat), .int .u16 (X 2 : Nat)]) := (Blk.new w 33 [.int .u16 (X 0 : Nat), .int .u16 (X 1 : Nat), .int .u16 (X 2 : Nat)]).alloc _
  have O0 : Hid (Blk ((w.alloc (.cells #[.int .u16 (X 0 : Nat), .int .u16 (X 1 : Nat), .int .u16 (X 2 : Nat)] 33)).alloc (.cells #[.bool (O 0), .bool (O 1), .bool (O 2)] 34)) (w.heap.size + 1) 34 [.bool (O 0), .bool (O 1), .bool (O 2)]) := by
    have := Blk.new (w.alloc (.cells #[.int .u16 (X 0 : Nat), .int .u16 (X 1 : Nat), .int .u16 (X 2 : Nat)] 33)) 34 [.bool (O 0), .bool (O 1), .bool (O 2)]
    simpa [Hid, Blk] using this
  have W0 : Hid (Below w.heap.size w ((w.alloc (.cells #[.int .u16 (X 0 : Nat), .int .u16 (X 1 : Nat), .int .u16 (X 2 : Nat)] 33)).alloc (.cells #[.bool (O 0), .bool (O 1), .bool (O 2)] 34))) := ((Below.refl _ w).alloc (Nat.le_refl _) _).alloc (by simp) _
  obtain ⟨b, a, r, hl⟩ : ∃ b a r, look bs 3 12 = (b, a, r) := ⟨_, _, _, rfl⟩
  have hbn := h.1
  have H := Lib.hid h
  have HO := Lib.hid ho
  have HL := Lib.hid hl
  have HX := Lib.hid hX
  clear h ho hl hX
  go_enter Try.func4, Try.ntmps4
  go_wp2_with fail
  refine (awake_any _).mono ?_
  rintro e w1 ⟨rfl, hb⟩
  have W1 : Hid (Below w.heap.size w w1) := W0.out.trans (hb.mono W0.out.size)
  have X1 := Lib.hid (X0.out.far (Far.of_below hb nobody) (fun e => e))
  have O1 := Lib.hid (O0.out.far (Far.of_below hb nobody) (fun e => e))
  clear hb X0 O0 W0
  go_wp2_with fail
  refine (parse_any A n c bs b a r _ (H.out.below W1.out) HO.out hc HL.out).mono ?_
  rintro e w2 ⟨rfl, hb⟩
  have W2 : Hid (Below w.heap.size w w2) := W1.out.trans (hb.mono W1.out.size)
  have X2 := Lib.hid (X1.out.far (Far.of_below hb nobody) (fun e => e))
  have O2 := Lib.hid (O1.out.far (Far.of_below hb nobody) (fun e => e))
  clear hb X1 O1 W1
  have W3 : Hid (Below w.heap.size w (w2.alloc (.cells #[.bool b, .int .i64 (a : Nat)] 25))) := W2.out.alloc W2.out.size _
  have L3 : Hid (Blk (w2.alloc (.cells #[.bool b, .int .i64 (a : Nat)] 25)) w2.heap.size 25 [.bool b, .int .i64 (a : Nat)]) := Blk.new w2 25 _
  by_cases hr : r = 0
  · subst hr
    by_cases ha : a = 14
    · subst ha
      have KP : Hid (Kept w O X w2.heap.size b (w2.alloc (.cells #[.bool b, .int .i64 14] 25))) := ⟨X2.out.alloc _, O2.out.alloc _, L3.out, W3.out⟩
      have hcut : ∀ W, (Instr.slice 22 (.slice A n c) none (some (.int .i64 12)) none).run Try.prog W = .ok (.slice A 12 c) W := fun W => run_upto (A := A) (n := n) (c := c) (k := 12) W (by omega)
      have hcut2 : ∀ W, (Instr.slice 22 (.slice A n c) (some (.int .i64 12)) none none).run Try.prog W = .ok (.slice (if c = 12 then A else A.map (·.add 12)) (n - 12) (c - 12)) W := fun W => run_from (A := A) (n := n) (c := c) (k := 12) W (by omega)
      have HZ : Hid (Byts w (if c = 12 then A else A.map (·.add 12)) (n - 12) (bs.drop 12)) := H.out.from_ (by omega) hc
      generalize (if c = 12 then A else A.map (·.add 12)) = Z at *
      have hc1 : (w2.alloc (.cells #[.bool b, .int .i64 14] 25)).cell? ⟨w2.heap.size, 1, none⟩ = some (.int .i64 14) := L3.out.cell 1
      have H14 : Hid (14 ≤ bs.length) := (look_plain HL.out).2.2
      clear X2 O2 W3 L3
      go_wp2_with fail
      clear hc1
      go_loopw [9] (fun y w' => ∃ q : Nat, y = .int .i64 q ∧ 1 ≤ q ∧ q ≤ 4 ∧ Kept w O X w2.heap.size b w') (fun y _ => 4 - (intOf y).toNat)
      case atStart => exact ⟨1, rfl, by omega, by omega, KP.out⟩
      case round =>
        obtain ⟨q, rfl, hq1, hq4, hk⟩ := hrel
        have KQ := Lib.hid hk
        clear hk KP
        by_cases hq : q ≤ 3
        · have dq : decide ((q : Int) ≤ 3) = true := by simp; omega
          have KA := Lib.hid (KQ.out.alloc (.cells #[] 5))
          have OA := Lib.hid (own_new wr w.heap.size KQ.out.be.size)
          have HB12 : Hid (Byts (wr.alloc (.cells #[] 5)) A 12 (bs.take 12)) := (H.out.below KA.out.be).upto (by omega)
          have hza := KA.out.be.size
          go_wp2_with (at_builtin; refine wpList_app_to rfl (.tmp 44) (.tmp 46) rfl w.heap.size (.slice (some ⟨wr.heap.size, 0, none⟩) 0 0) 0 [] rfl (by exact OA.out) A 12 c (bs.take 12) rfl (by exact HB12.out) 12 (by omega) (bs.take 12) rfl (by omega) (by exact hza) ?_; intro A5 c5 w5 R5 G5 B5; have K5 := Lib.hid (KA.out.grown OA.out G5.out))
          clear KA OA HB12 hza
          go_loopw [10, 49] (fun s y w' => ∃ (k : Nat) (A' : Option Addr) (c' : Nat), y = .int .i64 k ∧ s = .slice A' (12 + 4 * k) c' ∧ k ≤ q ∧ w'.ownsRow w.heap.size 5 1 s (12 + 4 * k) (cel (bs.take 12 ++ tagsB O X k)) ∧ Kept w O X w2.heap.size b w') (fun _ y _ => q - (intOf y).toNat)
          case atStart => exact ⟨0, A5, c5, rfl, rfl, by omega, by simpa [tagsB] using R5.out, K5.out⟩
          case round =>
            clear R5 G5 B5 K5 KQ
            obtain ⟨k, A6, c6, rfl, rfl, hkq, ho6, hk6⟩ := hrel
            have R6 := Lib.hid ho6
            have K6 := Lib.hid hk6
            clear ho6 hk6
            by_cases hlt : k < q
            · have dk : decide ((k : Int) < (q : Int)) = true := by simp; omega
              have hk3 : k < 3 := by omega
              have hco := K6.out.o hk3
              have hcx := K6.out.x hk3
              have HLN : Hid ((bs.take 12 ++ tagsB O X k).length = 12 + 4 * k) := by
                show _ = _
                rw [List.length_append, tagsB_len, List.length_take]
                have := H14.out
                omega
              obtain ⟨p, hp⟩ : ∃ p, 12 + 4 * k = p := ⟨_, rfl⟩
              rw [hp] at R6 HLN
              have HP := Lib.hid hp
              have hx := HX.out k
              obtain ⟨x, hxx⟩ : ∃ x, X k = x := ⟨_, rfl⟩
              rw [hxx] at hx hcx
              have HXX := Lib.hid hxx
              obtain ⟨o, hoo⟩ : ∃ o, O k = o := ⟨_, rfl⟩
              rw [hoo] at hco
              have HOO := Lib.hid hoo
              clear hp hxx hoo
              have hki : (k : Int) < 3 := by omega
              have hw1 : IntKind.u8.wrap ((x : Int) / 256) = (x : Int) / 256 := by rw [IntKind.wrap_u8]; omega
              have hw2 : IntKind.u8.wrap (x : Int) = (x : Int) % 256 := by rw [IntKind.wrap_u8]
              rw [HP.out]
              cases o
              · go_upto_region 16 with (fail)
                refine wp_region_noPanic ?_
                refine wp_region_held_drew (S := fun W => W.cell? ⟨w.heap.size, k, none⟩ = some (.int .u16 (x : Nat))) (by kernel_rfl) ?_ (fun hHeld => ?_)
                · exact hcx
                refine wpAnyH_take (i := 0) (oi := ⟨some 55, _, _, _, _, _⟩) (v := ?_) rfl (by kernel_rfl) (by kernel_rfl) (by kernel_rfl) (fun _ _ _ h => h) (Or.inl ⟨by rfl, ?_⟩) (by assumption) ?_
                rotate_left
                · (intro w hSw; (try dsimp only at hSw); go_simp)
                  first | done | (with_reducible rfl)
                try simp only [Act.put, List.setIfInBounds_toArray, List.set_cons_zero, List.set_cons_succ]
                refine wpAnyH_take (i := 1) (oi := ⟨some 56, _, _, _, _, _⟩) (v := ?_) rfl (by kernel_rfl) (by kernel_rfl) (by kernel_rfl) (fun _ _ _ h => h) (Or.inl ⟨by rfl, ?_⟩) (by assumption) ?_
                rotate_left
                · (intro w hSw; (try dsimp only at hSw); go_simp)
                  first | done | (with_reducible rfl)
                try simp only [Act.put, List.setIfInBounds_toArray, List.set_cons_zero, List.set_cons_succ]
                refine wpAnyH_take (i := 2) (oi := ⟨some 57, _, _, _, _, _⟩) (v := ?_) rfl (by kernel_rfl) (by kernel_rfl) (by kernel_rfl) (fun _ _ _ h => h) (Or.inl ⟨by rfl, ?_⟩) (by assumption) ?_
                rotate_left
                · (intro w hSw; (try dsimp only at hSw); go_simp)
                  first | done | (with_reducible rfl)
                try simp only [Act.put, List.setIfInBounds_toArray, List.set_cons_zero, List.set_cons_succ]
                refine wpAnyH_take (i := 3) (oi := ⟨some 58, _, _, _, _, _⟩) (v := .int .u8 129) rfl (by kernel_rfl) (by kernel_rfl) (by kernel_rfl) (fun _ _ _ h => h) (Or.inl ⟨by rfl, ?_⟩) (by assumption) ?_
                · (intro w hSw; (try dsimp only at hSw); go_simp)
                  first | done | rfl
                try simp only [Act.put, List.setIfInBounds_toArray, List.set_cons_zero, List.set_cons_succ]
                refine wpAnyH_take (i := 4) (oi := ⟨some 59, _, _, _, _, _⟩) (v := ?_) rfl (by kernel_rfl) (by kernel_rfl) (by kernel_rfl) (fun _ _ _ h => h) (Or.inl ⟨by rfl, ?_⟩) (by assumption) ?_
                rotate_left
                · (intro w hSw; (try dsimp only at hSw); go_simp)
                  first | done | (with_reducible rfl)
                try simp only [Act.put, List.setIfInBounds_toArray, List.set_cons_zero, List.set_cons_succ]
                refine wpAnyH_take (i := 5) (oi := ⟨some 60, _, _, _, _, _⟩) (v := .int .u8 0) rfl (by kernel_rfl) (by kernel_rfl) (by kernel_rfl) (fun _ _ _ h => h) (Or.inl ⟨by rfl, ?_⟩) (by assumption) ?_
                · (intro w hSw; (try dsimp only at hSw); go_simp)
                  first | done | rfl
                try simp only [Act.put, List.setIfInBounds_toArray, List.set_cons_zero, List.set_cons_succ]
                refine wpAnyH_take (i := 6) (oi := ⟨some 61, _, _, _, _, _⟩) (v := ?_) rfl (by kernel_rfl) (by kernel_rfl) (by kernel_rfl) (fun _ _ _ h => h) (Or.inl ⟨by rfl, ?_⟩) (by assumption) ?_
                rotate_left
                · (intro w hSw; (try dsimp only at hSw); go_simp)
                  first | done | (with_reducible rfl)
                try simp only [Act.put, List.setIfInBounds_toArray, List.set_cons_zero, List.set_cons_succ]
                refine wpAnyH_take (i := 7) (oi := ⟨some 62, _, _, _, _, _⟩) (v := .pointer (some ⟨w.heap.size, k, none⟩)) rfl (by kernel_rfl) (by kernel_rfl) (by kernel_rfl) (fun _ _ _ h => h) (Or.inl ⟨by rfl, ?_⟩) (by assumption) ?_
                · (intro w hSw; (try dsimp only at hSw); go_simp)
                  first | done | rfl
                try simp only [Act.put, List.setIfInBounds_toArray, List.set_cons_zero, List.set_cons_succ]
                refine wpAnyH_take (i := 8) (oi := ⟨some 63, _, _, _, _, _⟩) (v := .int .u16 (x : Nat)) rfl (by kernel_rfl) (by kernel_rfl) (by kernel_rfl) (fun _ _ _ h => h) (Or.inl ⟨by rfl, ?_⟩) (by assumption) ?_
                · (intro w hSw; (try dsimp only at hSw); go_simp)
                  first | done | rfl
                try simp only [Act.put, List.setIfInBounds_toArray, List.set_cons_zero, List.set_cons_succ]
                refine wpAnyH_take (i := 9) (oi := ⟨some 64, _, _, _, _, _⟩) (v := .int .u16 ((x : Int) / 256)) rfl (by kernel_rfl) (by kernel_rfl) (by kernel_rfl) (fun _ _ _ h => h) (Or.inl ⟨by rfl, ?_⟩) (by assumption) ?_
                · (intro w hSw; (try dsimp only at hSw); go_simp)
                  first | done | rfl
                try simp only [Act.put, List.setIfInBounds_toArray, List.set_cons_zero, List.set_cons_succ]
                refine wpAnyH_take (i := 10) (oi := ⟨some 65, _, _, _, _, _⟩) (v := .int .u8 ((x : Int) / 256)) rfl (by kernel_rfl) (by kernel_rfl) (by kernel_rfl) (fun _ _ _ h => h) (Or.inl ⟨by rfl, ?_⟩) (by assumption) ?_
                · (intro w hSw; (try dsimp only at hSw); go_simp)
                  first | done | rfl
                try simp only [Act.put, List.setIfInBounds_toArray, List.set_cons_zero, List.set_cons_succ]
                refine wpAnyH_take (i := 11) (oi := ⟨some 66, _, _, _, _, _⟩) (v := ?_) rfl (by kernel_rfl) (by kernel_rfl) (by kernel_rfl) (fun _ _ _ h => h) (Or.inl ⟨by rfl, ?_⟩) (by assumption) ?_
                rotate_left
                · (intro w hSw; (try dsimp only at hSw); go_simp)
                  first | done | (with_reducible rfl)
                try simp only [Act.put, List.setIfInBounds_toArray, List.set_cons_zero, List.set_cons_succ]
                refine wpAnyH_take (i := 12) (oi := ⟨some 67, _, _, _, _, _⟩) (v := .pointer (some ⟨w.heap.size, k, none⟩)) rfl (by kernel_rfl) (by kernel_rfl) (by kernel_rfl) (fun _ _ _ h => h) (Or.inl ⟨by rfl, ?_⟩) (by assumption) ?_
                · (intro w hSw; (try dsimp only at hSw); go_simp)
                  first | done | rfl
                try simp only [Act.put, List.setIfInBounds_toArray, List.set_cons_zero, List.set_cons_succ]
                refine wpAnyH_take (i := 13) (oi := ⟨some 68, _, _, _, _, _⟩) (v := .int .u16 (x : Nat)) rfl (by kernel_rfl) (by kernel_rfl) (by kernel_rfl) (fun _ _ _ h => h) (Or.inl ⟨by rfl, ?_⟩) (by assumption) ?_
                · (intro w hSw; (try dsimp only at hSw); go_simp)
                  first | done | rfl
                try simp only [Act.put, List.setIfInBounds_toArray, List.set_cons_zero, List.set_cons_succ]
                refine wpAnyH_take (i := 14) (oi := ⟨some 69, _, _, _, _, _⟩) (v := .int .u8 ((x : Int) % 256)) rfl (by kernel_rfl) (by kernel_rfl) (by kernel_rfl) (fun _ _ _ h => h) (Or.inl ⟨by rfl, ?_⟩) (by assumption) ?_
                · (intro w hSw; (try dsimp only at hSw); go_simp)
                  first | done | rfl
                try simp only [Act.put, List.setIfInBounds_toArray, List.set_cons_zero, List.set_cons_succ]
                refine wpAnyH_ready (rs := [15]) (by kernel_rfl) (by simp) ?_
                refine AllReadyH.cons (o := ⟨some 70, _, _, _, _, _⟩) rfl (fun K hK => ?_) (AllReadyH.nil)
                go_simp
                have K7 : Hid (Kept w O X w2.heap.size b ((wr.alloc (.cells #[.int .u8 129, .int .u8 0, .int .u8 ((x : Int) / 256), .int .u8 ((x : Int) % 256)] 5)).drew)) := (K6.out.alloc _).drew
                have B7 : Hid (Blk ((wr.alloc (.cells #[.int .u8 129, .int .u8 0, .int .u8 ((x : Int) / 256), .int .u8 ((x : Int) % 256)] 5)).drew) wr.heap.size 5 (cel [129, 0, (x : Int) / 256, (x : Int) % 256])) := Blk.new wr 5 (cel [129, 0, (x : Int) / 256, (x : Int) % 256])
                have R7 : Hid (World.ownsRow ((wr.alloc (.cells #[.int .u8 129, .int .u8 0, .int .u8 ((x : Int) / 256), .int .u8 ((x : Int) % 256)] 5)).drew) w.heap.size 5 1 (.slice A6 p c6) p (cel (bs.take 12 ++ tagsB O X k))) := R6.out.alloc _
                have s7 := (K7.out.x hk3).trans (by rw [HXX.out] : _ = some (Value.int .u16 (x : Nat)))
                generalize ((wr.alloc (.cells #[.int .u8 129, .int .u8 0, .int .u8 ((x : Int) / 256), .int .u8 ((x : Int) % 256)] 5)).drew) = w7 at *
                refine hK.out _ _ ?_ (fun hHeld => ?_)
                · exact s7
                clear hK K
                try simp only [Act.put, List.setIfInBounds_toArray, List.set_cons_zero, List.set_cons_succ]
                refine wpAnyH_ready (rs := [16]) (by kernel_rfl) (by simp) ?_
                refine AllReadyH.cons (o := ⟨some 71, _, _, _, _, _⟩) rfl (fun K hK => ?_) (AllReadyH.nil)
                refine step_app (by rfl) (.tmp 55) (.tmp 70) (by rfl) w.heap.size (.slice A6 p c6) p (bs.take 12 ++ tagsB O X k) (by rfl) R7.out (some ⟨wr.heap.size, 0, none⟩) 4 4 [129, 0, (x : Int) / 256, (x : Int) % 256] (by rfl) (Byts.of_all B7.out rfl) (12 + 4 * (k + 1)) (by have := HP.out; omega) (bs.take 12 ++ tagsB O X (k + 1)) (by rw [tagsB, HOO.out, HXX.out, tagB_in, List.append_assoc]) (by omega) K7.out.be.size ?_
                intro A8 c8 w8 R8 G8
                have K8 := Lib.hid (K7.out.grown R7.out G8.out)
                have s8 := (K8.out.x hk3).trans (by rw [HXX.out] : _ = some (Value.int .u16 (x : Nat)))
                refine hK.out _ _ ?_ (fun hHeld => ?_)
                · exact s8
                clear hK K
                try simp only [Act.put, List.setIfInBounds_toArray, List.set_cons_zero, List.set_cons_succ]
                refine wpAnyH_take (i := 17) (oi := ⟨some 10, _, _, _, _, _⟩) (v := ?_) rfl (by kernel_rfl) (by kernel_rfl) (by kernel_rfl) (fun _ _ _ h => h) (Or.inl ⟨by rfl, ?_⟩) (by assumption) ?_
                rotate_left
                · (intro w hSw; (try dsimp only at hSw); go_simp)
                  first | done | (with_reducible rfl)
                try simp only [Act.put, List.setIfInBounds_toArray, List.set_cons_zero, List.set_cons_succ]
                refine wpAnyH_done (by kernel_rfl) ?_ _
                refine NoPanic.normal ?_
                clear s7 hHeld hcx hco
                go_wp2_with fail
                exact ⟨⟨k + 1, A8, c8, by go_num, rfl, by omega, R8.out, K8.out⟩, by simp [intOf]; omega⟩
              · go_upto_region 16 with (fail)
                refine wp_region_noPanic ?_
                refine wp_region_held_drew (S := fun W => W.cell? ⟨w.heap.size, k, none⟩ = some (.int .u16 (x : Nat))) (by kernel_rfl) ?_ (fun hHeld => ?_)
                · exact hcx
                refine wpAnyH_take (i := 0) (oi := ⟨some 55, _, _, _, _, _⟩) (v := ?_) rfl (by kernel_rfl) (by kernel_rfl) (by kernel_rfl) (fun _ _ _ h => h) (Or.inl ⟨by rfl, ?_⟩) (by assumption) ?_
                rotate_left
                · (intro w hSw; (try dsimp only at hSw); go_simp)
                  first | done | (with_reducible rfl)
                try simp only [Act.put, List.setIfInBounds_toArray, List.set_cons_zero, List.set_cons_succ]
                refine wpAnyH_take (i := 1) (oi := ⟨some 56, _, _, _, _, _⟩) (v := ?_) rfl (by kernel_rfl) (by kernel_rfl) (by kernel_rfl) (fun _ _ _ h => h) (Or.inl ⟨by rfl, ?_⟩) (by assumption) ?_
                rotate_left
                · (intro w hSw; (try dsimp only at hSw); go_simp)
                  first | done | (with_reducible rfl)
                try simp only [Act.put, List.setIfInBounds_toArray, List.set_cons_zero, List.set_cons_succ]
                refine wpAnyH_take (i := 2) (oi := ⟨some 57, _, _, _, _, _⟩) (v := ?_) rfl (by kernel_rfl) (by kernel_rfl) (by kernel_rfl) (fun _ _ _ h => h) (Or.inl ⟨by rfl, ?_⟩) (by assumption) ?_
                rotate_left
                · (intro w hSw; (try dsimp only at hSw); go_simp)
                  first | done | (with_reducible rfl)
                try simp only [Act.put, List.setIfInBounds_toArray, List.set_cons_zero, List.set_cons_succ]
                refine wpAnyH_take (i := 3) (oi := ⟨some 58, _, _, _, _, _⟩) (v := .int .u8 136) rfl (by kernel_rfl) (by kernel_rfl) (by kernel_rfl) (fun _ _ _ h => h) (Or.inl ⟨by rfl, ?_⟩) (by assumption) ?_
                · (intro w hSw; (try dsimp only at hSw); go_simp)
                  first | done | rfl
                try simp only [Act.put, List.setIfInBounds_toArray, List.set_cons_zero, List.set_cons_succ]
                refine wpAnyH_take (i := 4) (oi := ⟨some 59, _, _, _, _, _⟩) (v := ?_) rfl (by kernel_rfl) (by kernel_rfl) (by kernel_rfl) (fun _ _ _ h => h) (Or.inl ⟨by rfl, ?_⟩) (by assumption) ?_
                rotate_left
                · (intro w hSw; (try dsimp only at hSw); go_simp)
                  first | done | (with_reducible rfl)
                try simp only [Act.put, List.setIfInBounds_toArray, List.set_cons_zero, List.set_cons_succ]
                refine wpAnyH_take (i := 5) (oi := ⟨some 60, _, _, _, _, _⟩) (v := .int .u8 168) rfl (by kernel_rfl) (by kernel_rfl) (by kernel_rfl) (fun _ _ _ h => h) (Or.inl ⟨by rfl, ?_⟩) (by assumption) ?_
                · (intro w hSw; (try dsimp only at hSw); go_simp)
                  first | done | rfl
                try simp only [Act.put, List.setIfInBounds_toArray, List.set_cons_zero, List.set_cons_succ]
                refine wpAnyH_take (i := 6) (oi := ⟨some 61, _, _, _, _, _⟩) (v := ?_) rfl (by kernel_rfl) (by kernel_rfl) (by kernel_rfl) (fun _ _ _ h => h) (Or.inl ⟨by rfl, ?_⟩) (by assumption) ?_
                rotate_left
                · (intro w hSw; (try dsimp only at hSw); go_simp)
                  first | done | (with_reducible rfl)
                try simp only [Act.put, List.setIfInBounds_toArray, List.set_cons_zero, List.set_cons_succ]
                refine wpAnyH_take (i := 7) (oi := ⟨some 62, _, _, _, _, _⟩) (v := .pointer (some ⟨w.heap.size, k, none⟩)) rfl (by kernel_rfl) (by kernel_rfl) (by kernel_rfl) (fun _ _ _ h => h) (Or.inl ⟨by rfl, ?_⟩) (by assumption) ?_
                · (intro w hSw; (try dsimp only at hSw); go_simp)
                  first | done | rfl
                try simp only [Act.put, List.setIfInBounds_toArray, List.set_cons_zero, List.set_cons_succ]
                refine wpAnyH_take (i := 8) (oi := ⟨some 63, _, _, _, _, _⟩) (v := .int .u16 (x : Nat)) rfl (by kernel_rfl) (by kernel_rfl) (by kernel_rfl) (fun _ _ _ h => h) (Or.inl ⟨by rfl, ?_⟩) (by assumption) ?_
                · (intro w hSw; (try dsimp only at hSw); go_simp)
                  first | done | rfl
                try simp only [Act.put, List.setIfInBounds_toArray, List.set_cons_zero, List.set_cons_succ]
                refine wpAnyH_take (i := 9) (oi := ⟨some 64, _, _, _, _, _⟩) (v := .int .u16 ((x : Int) / 256)) rfl (by kernel_rfl) (by kernel_rfl) (by kernel_rfl) (fun _ _ _ h => h) (Or.inl ⟨by rfl, ?_⟩) (by assumption) ?_
                · (intro w hSw; (try dsimp only at hSw); go_simp)
                  first | done | rfl
                try simp only [Act.put, List.setIfInBounds_toArray, List.set_cons_zero, List.set_cons_succ]
                refine wpAnyH_take (i := 10) (oi := ⟨some 65, _, _, _, _, _⟩) (v := .int .u8 ((x : Int) / 256)) rfl (by kernel_rfl) (by kernel_rfl) (by kernel_rfl) (fun _ _ _ h => h) (Or.inl ⟨by rfl, ?_⟩) (by assumption) ?_
                · (intro w hSw; (try dsimp only at hSw); go_simp)
                  first | done | rfl
                try simp only [Act.put, List.setIfInBounds_toArray, List.set_cons_zero, List.set_cons_succ]
                refine wpAnyH_take (i := 11) (oi := ⟨some 66, _, _, _, _, _⟩) (v := ?_) rfl (by kernel_rfl) (by kernel_rfl) (by kernel_rfl) (fun _ _ _ h => h) (Or.inl ⟨by rfl, ?_⟩) (by assumption) ?_
                rotate_left
                · (intro w hSw; (try dsimp only at hSw); go_simp)
                  first | done | (with_reducible rfl)
                try simp only [Act.put, List.setIfInBounds_toArray, List.set_cons_zero, List.set_cons_succ]
                refine wpAnyH_take (i := 12) (oi := ⟨some 67, _, _, _, _, _⟩) (v := .pointer (some ⟨w.heap.size, k, none⟩)) rfl (by kernel_rfl) (by kernel_rfl) (by kernel_rfl) (fun _ _ _ h => h) (Or.inl ⟨by rfl, ?_⟩) (by assumption) ?_
                · (intro w hSw; (try dsimp only at hSw); go_simp)
                  first | done | rfl
                try simp only [Act.put, List.setIfInBounds_toArray, List.set_cons_zero, List.set_cons_succ]
                refine wpAnyH_take (i := 13) (oi := ⟨some 68, _, _, _, _, _⟩) (v := .int .u16 (x : Nat)) rfl (by kernel_rfl) (by kernel_rfl) (by kernel_rfl) (fun _ _ _ h => h) (Or.inl ⟨by rfl, ?_⟩) (by assumption) ?_
                · (intro w hSw; (try dsimp only at hSw); go_simp)
                  first | done | rfl
                try simp only [Act.put, List.setIfInBounds_toArray, List.set_cons_zero, List.set_cons_succ]
                refine wpAnyH_take (i := 14) (oi := ⟨some 69, _, _, _, _, _⟩) (v := .int .u8 ((x : Int) % 256)) rfl (by kernel_rfl) (by kernel_rfl) (by kernel_rfl) (fun _ _ _ h => h) (Or.inl ⟨by rfl, ?_⟩) (by assumption) ?_
                · (intro w hSw; (try dsimp only at hSw); go_simp)
                  first | done | rfl
                try simp only [Act.put, List.setIfInBounds_toArray, List.set_cons_zero, List.set_cons_succ]
                refine wpAnyH_ready (rs := [15]) (by kernel_rfl) (by simp) ?_
                refine AllReadyH.cons (o := ⟨some 70, _, _, _, _, _⟩) rfl (fun K hK => ?_) (AllReadyH.nil)
                go_simp
                have K7 : Hid (Kept w O X w2.heap.size b ((wr.alloc (.cells #[.int .u8 136, .int .u8 168, .int .u8 ((x : Int) / 256), .int .u8 ((x : Int) % 256)] 5)).drew)) := (K6.out.alloc _).drew
                have B7 : Hid (Blk ((wr.alloc (.cells #[.int .u8 136, .int .u8 168, .int .u8 ((x : Int) / 256), .int .u8 ((x : Int) % 256)] 5)).drew) wr.heap.size 5 (cel [136, 168, (x : Int) / 256, (x : Int) % 256])) := Blk.new wr 5 (cel [136, 168, (x : Int) / 256, (x : Int) % 256])
                have R7 : Hid (World.ownsRow ((wr.alloc (.cells #[.int .u8 136, .int .u8 168, .int .u8 ((x : Int) / 256), .int .u8 ((x : Int) % 256)] 5)).drew) w.heap.size 5 1 (.slice A6 p c6) p (cel (bs.take 12 ++ tagsB O X k))) := R6.out.alloc _
                have s7 := (K7.out.x hk3).trans (by rw [HXX.out] : _ = some (Value.int .u16 (x : Nat)))
                generalize ((wr.alloc (.cells #[.int .u8 136, .int .u8 168, .int .u8 ((x : Int) / 256), .int .u8 ((x : Int) % 256)] 5)).drew) = w7 at *
                refine hK.out _ _ ?_ (fun hHeld => ?_)
                · exact s7
                clear hK K
                try simp only [Act.put, List.setIfInBounds_toArray, List.set_cons_zero, List.set_cons_succ]
                refine wpAnyH_ready (rs := [16]) (by kernel_rfl) (by simp) ?_
                refine AllReadyH.cons (o := ⟨some 71, _, _, _, _, _⟩) rfl (fun K hK => ?_) (AllReadyH.nil)
                refine step_app (by rfl) (.tmp 55) (.tmp 70) (by rfl) w.heap.size (.slice A6 p c6) p (bs.take 12 ++ tagsB O X k) (by rfl) R7.out (some ⟨wr.heap.size, 0, none⟩) 4 4 [136, 168, (x : Int) / 256, (x : Int) % 256] (by rfl) (Byts.of_all B7.out rfl) (12 + 4 * (k + 1)) (by have := HP.out; omega) (bs.take 12 ++ tagsB O X (k + 1)) (by rw [tagsB, HOO.out, HXX.out, tagB_out, List.append_assoc]) (by omega) K7.out.be.size ?_
                intro A8 c8 w8 R8 G8
                have K8 := Lib.hid (K7.out.grown R7.out G8.out)
                have s8 := (K8.out.x hk3).trans (by rw [HXX.out] : _ = some (Value.int .u16 (x : Nat)))
                refine hK.out _ _ ?_ (fun hHeld => ?_)
                · exact s8
                clear hK K
                try simp only [Act.put, List.setIfInBounds_toArray, List.set_cons_zero, List.set_cons_succ]
                refine wpAnyH_take (i := 17) (oi := ⟨some 10, _, _, _, _, _⟩) (v := ?_) rfl (by kernel_rfl) (by kernel_rfl) (by kernel_rfl) (fun _ _ _ h => h) (Or.inl ⟨by rfl, ?_⟩) (by assumption) ?_
                rotate_left
                · (intro w hSw; (try dsimp only at hSw); go_simp)
                  first | done | (with_reducible rfl)
                try simp only [Act.put, List.setIfInBounds_toArray, List.set_cons_zero, List.set_cons_succ]
                refine wpAnyH_done (by kernel_rfl) ?_ _
                refine NoPanic.normal ?_
                clear s7 hHeld hcx hco
                go_wp2_with fail
                exact ⟨⟨k + 1, A8, c8, by go_num, rfl, by omega, R8.out, K8.out⟩, by simp [intOf]; omega⟩
            · have dk : decide ((k : Int) < (q : Int)) = false := by simp; omega
              obtain rfl : k = q := by omega
              have hln : 12 + 4 * k + (n - 12) = n + 4 * k := by omega
              have HZ6 := Lib.hid (HZ.out.below K6.out.be)
              have hz6 := K6.out.be.size
              have HOT := Lib.hid (tagged_octs O X HX.out HO.out k)
              obtain ⟨z, hz⟩ : ∃ z : Nat, 14 + 4 * k = z := ⟨_, rfl⟩
              have hzi : (14 : Int) + 4 * (k : Int) = (z : Int) := by omega
              have HLN := Lib.hid hln
              by_cases h3 : k < 3
              · have d3 : decide ((k : Int) < 3) = true := by simp; omega
                have e3 : ((k : Int) == 3) = false := by simp; omega
                have HLK : Hid (look (tagged O X bs k) 3 12 = (b, z, 0)) := by
                  rw [← hz]
                  exact look_tagged O X H14.out HL.out k h3
                clear hz hln
                go_wp2_with (first | (at_builtin; refine wpList_app_to rfl (.tmp 74) (.tmp 76) rfl w.heap.size (.slice A6 (12 + 4 * k) c6) (12 + 4 * k) (bs.take 12 ++ tagsB O X k) rfl (by exact R6.out) Z (n - 12) (c - 12) (bs.drop 12) rfl (by exact HZ6.out) (n + 4 * k) (by exact HLN.out) (tagged O X bs k) rfl (by omega) (by exact hz6) ?_; intro A7 c7 w7 R7 G7 B7; have K7 := Lib.hid (K6.out.grown R6.out G7.out)) | (go_at_call 8; (with_reducible refine (parse_any A7 (n + 4 * k) c7 (tagged O X bs k) b z 0 _ (Byts.of_own R7.out) HOT.out (own_cap R7.out) HLK.out).mono ?_); rintro e w8 ⟨rfl, hb⟩; have K8 := Lib.hid ((K7.out.below hb).alloc (.cells #[.bool b, .int .i64 (z : Nat)] 25)); have d0 : (w8.alloc (.cells #[.bool b, .int .i64 (z : Nat)] 25)).cell? ⟨w2.heap.size, 0, none⟩ = some (.bool b) := K8.out.lk.cell 0; clear hb))
                exact ⟨⟨k + 1, by go_num, by omega, by omega, K8.out⟩, by simp [intOf]; omega⟩
              · have d3 : decide ((k : Int) < 3) = false := by simp; omega
                have e3 : ((k : Int) == 3) = true := by simp; omega
                have HLK : Hid (look (tagged O X bs k) 3 12 = (false, 0, 6)) := by
                  rw [show k = 3 by omega]
                  exact look_many O X H14.out
                clear hz hln hzi
                go_wp2_with (first | (at_builtin; refine wpList_app_to rfl (.tmp 74) (.tmp 76) rfl w.heap.size (.slice A6 (12 + 4 * k) c6) (12 + 4 * k) (bs.take 12 ++ tagsB O X k) rfl (by exact R6.out) Z (n - 12) (c - 12) (bs.drop 12) rfl (by exact HZ6.out) (n + 4 * k) (by exact HLN.out) (tagged O X bs k) rfl (by omega) (by exact hz6) ?_; intro A7 c7 w7 R7 G7 B7; have K7 := Lib.hid (K6.out.grown R6.out G7.out)) | (go_at_call 8; (with_reducible refine (parse_any A7 (n + 4 * k) c7 (tagged O X bs k) false 0 6 _ (Byts.of_own R7.out) HOT.out (own_cap R7.out) HLK.out).mono ?_); rintro e w8 ⟨rfl, hb⟩; have K8 := Lib.hid ((K7.out.below hb).alloc (.cells #[.bool false, .int .i64 0] 25)); have d0 : (w8.alloc (.cells #[.bool false, .int .i64 0] 25)).cell? ⟨w2.heap.size, 0, none⟩ = some (.bool b) := K8.out.lk.cell 0; clear hb))
                exact ⟨⟨k + 1, by go_num, by omega, by omega, K8.out⟩, by simp [intOf]; omega⟩
        · have dq : decide ((q : Int) ≤ 3) = false := by simp; omega
          go_wp2_with fail
          go_ret
          exact ⟨rfl, KQ.out.be⟩
    · have d5 : ((a : Int) != 14) = true := by simp; omega
      have hc1 : (w2.alloc (.cells #[.bool b, .int .i64 (a : Nat)] 25)).cell? ⟨w2.heap.size, 1, none⟩ = some (.int .i64 (a : Nat)) := L3.out.cell 1
      go_wp2_with fail
      go_ret
      exact ⟨rfl, W3.out⟩
  · have d5 : ((r : Int) != 0) = true := by simp; omega
    go_wp2_with fail
    go_ret
    exact ⟨rfl, W3.out⟩
end Go.Proofs.Ytmnakdmmkkombaa
