/- The contracts of table's Del and All at box's stays, and of nobody's. Conditions: those of each theorem. -/
import Derived.Test.YtpjeeccgpnpokaaPutT
import Derived.Test.YtpjeeccgpnpokaaAll
namespace Go.Proofs.Ytpjeeccgpnpokaa
open Go.RowKit

/-- A slice made since. -/
def DResF {α : Type} (K : Kin α) (L : List α) (w : World) (e : Ending) (w' : World) : Prop :=
  ∃ A c, e = .returned (.slice A L.length c) ∧ L.length ≤ c ∧ Els K w' A L ∧ Below w.heap.size w w' ∧ ∀ ad, A = some ad → w.heap.size ≤ ad.block
set_option maxRecDepth 100000 in
set_option maxHeartbeats 1000000 in
theorem delT_ (f : Pre → Nat) (g q n : Nat) (L : List Ent) (p : Pre) (w : World) (h : TbAt (kSt f) 85 91 w g q n L) (ho : POks L) (hp : p.Ok) :
    Calls Try.prog 33 #[.pointer (some ⟨g, 0, none⟩), .agg p.cs.toArray] w (ActT (kSt f) 85 91 g q n (del L p) (.bool (has L p)) w) := by
  have P1 := Lib.hid (Blk.new w 31 p.cs)
  have W1 : Hid (Below w.heap.size w (w.alloc (.cells p.cs.toArray 31))) := (Below.refl _ w).alloc (Nat.le_refl _) _
  have HF := Lib.hid (fun W (hW : Below w.heap.size w W) => findT_ f g q n L p W (h.below hW) ho hp)
  have HT := Lib.hid (fun W (hW : Below w.heap.size w W) => h.below hW)
  have hfit := h.fit
  have hle := h.le
  rcases hh : has L p with _ | _
  · have hdel : del L p = L := by simp [del, hh]
    rw [hdel]
    rw [hh] at HF
    clear h ho hp hh hdel
    generalize plc L p = m at *
    go_enter Try.func33, Try.ntmps33
    go_upto_region 1 with fail
    generalize (w.alloc (.cells p.cs.toArray 31)) = x1 at *
    go_wp2_with (first | (refine wpList_pre (by rfl) (.tmp 3) rfl _ _ rfl p (whole_at P1.out) ?_) | (go_at_call 34; (with_reducible refine (HF.out _ W1.out).mono ?_); rintro e x2 ⟨rfl, hb⟩; have W2 : Hid (Below w.heap.size w x2) := W1.out.trans (hb.mono W1.out.size); clear hb))
    go_ret
    exact ⟨rfl, HT.out _ W2.out, Far.of_below W2.out _⟩
  · have hi := has_iff.1 hh
    have hpi := h.srt.plc_idx hh
    have hdel : del L p = L.take (idx L p) ++ L.drop (idx L p + 1) := by simp [del, hh]
    rw [hdel]
    rw [hh, hpi] at HF
    have HS := Lib.hid (h.srt.out_ hi)
    have HN : Hid ((L.take (idx L p) ++ L.drop (idx L p + 1)).length ≤ n) := by show _ ≤ _; simp; omega
    have HD := Lib.hid (fun W hb => deleT_ f q (idx L p) n L W hb hi hfit)
    clear h ho hp hh hpi hdel
    generalize L.take (idx L p) ++ L.drop (idx L p + 1) = L' at *
    generalize idx L p = m at *
    obtain ⟨l, hl⟩ : ∃ l, L.length = l := ⟨_, rfl⟩
    rw [hl] at HD hi hfit
    have HL := Lib.hid hl
    clear hl
    go_enter Try.func33, Try.ntmps33
    go_upto_region 1 with fail
    generalize (w.alloc (.cells p.cs.toArray 31)) = x1 at *
    go_upto_region 3 with (first | (refine wpList_pre (by rfl) (.tmp 3) rfl _ _ rfl p (whole_at P1.out) ?_) | (go_at_call 34; (with_reducible refine (HF.out _ W1.out).mono ?_); rintro e x2 ⟨rfl, hb⟩; have W2 : Hid (Below w.heap.size w x2) := W1.out.trans (hb.mono W1.out.size); clear hb))
    have T2 := Lib.hid (HT.out _ W2.out)
    have c0 : x2.cell? ⟨g, 0, none⟩ = some (.slice (some ⟨q, 0, none⟩) (l : Nat) n) := HL.out ▸ T2.out.cells.1
    have HD2 := Lib.hid (HD.out x2 (HL.out ▸ T2.out.row))
    clear HD HF HT
    go_wp2_with (go_at_call 40; (refine HD2.out.mono ?_); rintro e x3 ⟨rfl, hb3, hf3⟩; have hg3 := T2.out.head.far hf3 T2.out.ne; have c1 : x3.cell? ⟨g, 0, none⟩ = some (.slice (some ⟨q, 0, none⟩) (l : Nat) n) := HL.out ▸ hg3.cell 0; have c2 := hg3.frozen 0; have FIN : Hid (ActT (kSt f) 85 91 g q n L' (.bool true) w (.returned (.bool true)) (x3.setCell ⟨g, 0, none⟩ (.slice (some ⟨q, 0, none⟩) (L'.length : Nat) n))) := ⟨rfl, (T2.out.next hb3 hf3 HN.out HS.out).1, (Far.of_below W2.out _).trans (T2.out.next hb3 hf3 HN.out HS.out).2 (fun _ _ e => e)⟩; clear hb3 hf3 hg3 c0)
    go_ret
    exact FIN.out
set_option maxRecDepth 100000 in
set_option maxHeartbeats 1000000 in
theorem allF_ (f : Pre → Nat) (g q n : Nat) (L : List Ent) (w : World) (h : TbAt (kSt f) 85 91 w g q n L) : Calls Try.prog 26 #[.pointer (some ⟨g, 0, none⟩)] w (DResF kPre (pres L) w) := by
  have H := Lib.hid h
  have c0 := h.cells.1
  have hl : L.length ≤ 64 := by have := h.fit; have := h.le; omega
  obtain ⟨l, hn⟩ : ∃ l, L.length = l := ⟨_, rfl⟩
  have HN := Lib.hid hn
  rw [hn] at hl c0
  clear h hn
  go_enter Try.func26, Try.ntmps26
  go_wp2_with fail
  go_loopw [3, 5, 13] (fun v _ i w' => ∃ k : Nat, k ≤ l ∧ i = .int .i64 k ∧ Ow kPre 31 w.heap.size v (pres (L.take k)) w' ∧ Below w.heap.size w w') (fun _ _ i _ => l - (intOf i).toNat)
  case atStart => exact ⟨0, by omega, rfl, Ow.nil, Below.refl _ _⟩
  case round =>
    clear c0
    obtain ⟨k, hk, rfl, ho, hbe⟩ := hrel
    have W2 := Lib.hid hbe
    have O2 := Lib.hid ho
    clear hbe ho
    by_cases hlt : k < l
    · have hkL : k < L.length := by rw [HN.out]; exact hlt
      obtain ⟨q', o', e', hs0⟩ := (H.out.below W2.out).els k _ (at_some hkL)
      cases e'
      have HS : Hid (wr.rangeAt q (k * 10) (((kSt f)).cs (at_ L k))) := by
        have h9 : wr.rangeAt q (0 + k * 10) (((kSt f)).cs (at_ L k)) := hs0
        rw [Nat.zero_add] at h9
        exact h9
      have HX := Lib.hid (pres_next hkL)
      have hz := W2.out.size
      have hb0 : Hid (Blk (wr.alloc (.cells (((kSt f)).cs ent0).toArray 91)) wr.heap.size 91 (((kSt f)).cs ent0)) := Blk.new wr 91 _
      have HR : Hid (∀ W, Blk W wr.heap.size 91 (((kSt f)).cs (at_ L k)) → W.rangeAt wr.heap.size 0 (at_ L k).p.cs) := fun W hW j u hj => whole_at hW j u (by
        rw [show ((kSt f)).cs (at_ L k) = (at_ L k).p.cs ++ sv f (at_ L k) from rfl, List.getElem?_append_left (List.getElem?_eq_some_iff.1 hj).1]
        exact hj)
      have hall : (((kSt f)).cs (at_ L k)).toArray.all (·.oneCell') = true := all_oneCell_toArray (((kSt f)).one _)
      go_upto_region 6 with fail
      go_upto_region 7 with (first | (refine wpList_loadE (by rfl) 91 _ Try.underlying91 rfl (.tmp 15) rfl q (k * 10) rfl _ HS.out (sizeET f ) ?_) | (refine wpList_lay rfl 91 10 (sizeET f ) (.tmp 5) (.tmp 16) rfl _ (((kSt f)).cs (at_ L k)) rfl rfl 91 (((kSt f)).cs ent0) hb0.out rfl rfl hall ?_; intro w4 hB4 hF4; have B4 : Hid (Below wr.heap.size wr w4) := below_only ((Below.refl _ wr).alloc (Nat.le_refl _) _) hF4.out (Nat.le_refl _) (by simp); have R4 := Lib.hid (HR.out w4 hB4.out); clear hB4 hF4))
      have O4 := Lib.hid (O2.out.below B4.out)
      have W4 : Hid (Below w.heap.size w w4) := W2.out.trans (B4.out.mono hz)
      have hz4 := W4.out.size
      clear hb0 HR hall HS
      generalize (at_ L k).p = p at *
      have hb3 : Below w4.heap.size w4 (w4.alloc (.cells p.cs.toArray 31)) := (Below.refl _ _).alloc (Nat.le_refl _) _
      obtain ⟨v3, w3, hrun, o3, g3, b3⟩ := run_app (P := Try.prog) (R := [p]) (w4.alloc (.cells p.cs.toArray 31)) 33 33 (.agg pre0.cs.toArray) 8 Try.underlying33 info31 rfl (by decide) (O4.out.below hb3) (Els.of_blk (Blk.new w4 31 p.cs)) 1 (by simp [pres]; omega) (by simp; omega)
      rw [HX.out] at o3
      have O3 := Lib.hid o3
      have W3 : Hid (Below w.heap.size w w3) := (W4.out.trans (hb3.mono hz4)).trans ((Far.grown (S := fun k => w.heap.size ≤ k) (Far.refl _ _) g3 (fun k hk _ => (O4.out.lt k hk).1)).below (by simp; omega) (fun k hk e => by omega))
      rw [show ([p] : List Pre).length = 1 from rfl] at hrun
      clear o3 g3 b3 hb3 hkL
      go_upto_region 8 with (first | (refine wpList_pre (by rfl) (.tmp 18) rfl _ 0 rfl p R4.out ?_) | (refine wpList_onep rfl (.tmp 19) rfl p rfl ?_) | (at_builtin; refine wpList_app rfl 33 (.tmp 17) (.tmp 20) rfl _ _ _ rfl rfl hrun ?_; clear hrun))
      go_wp2_with fail
      go_roundw
      case rel => exact ⟨k + 1, by omega, by go_num, O3.out, W3.out⟩
      case measure => simp [intOf]; omega
    · have hkn : k = l := by omega
      obtain ⟨A', c', e, hc', _, E', hw', _⟩ := O2.out.els
      have HL' : ∀ ad, A' = some ad → w.heap.size ≤ ad.block := fun ad e0 => (O2.out.lt _ (by rw [hw', e0]; rfl)).1
      clear hw'
      rw [hkn, List.take_of_length_le (by rw [HN.out]; omega)] at e hc' E'
      have FIN : Hid (DResF kPre (pres L) w (.returned (.slice A' (pres L).length c')) wr) := ⟨A', c', rfl, hc', E', W2.out, HL'⟩
      clear hc' E' HL'
      subst e
      go_wp2
      go_ret
      exact FIN.out
set_option maxRecDepth 100000 in
set_option maxHeartbeats 1000000 in
theorem getT_nil (p : Pre) (w : World) : Calls Try.prog 23 #[.pointer none, .agg p.cs.toArray] w (Ans (.tuple #[.agg #[.int .i64 0, .pointer none], .bool false]) w) := by
  obtain ⟨n0, n1, n2⟩ := box_stay p w
  have P1 := Lib.hid n0
  have Z1 := Lib.hid n1
  have W1 := Lib.hid n2
  clear n0 n1 n2
  go_enter Try.func23, Try.ntmps23
  go_upto_region 1 with fail
  generalize ((w.alloc (.cells p.cs.toArray 31)).alloc (.cells #[.int .i64 0, .pointer none] 60)) = x1 at *
  go_upto_region 3 with (first | (refine wpList_pre (by rfl) (.tmp 3) rfl _ _ rfl p (whole_at P1.out) ?_) | (go_at_call 34; (with_reducible refine (findT_nil p _).mono ?_); rintro e x2 ⟨rfl, hb⟩; have W2 : Hid (Below w.heap.size w x2) := W1.out.trans (hb.mono W1.out.size); have Z2 := Lib.hid (Z1.out.below hb); clear hb))
  go_upto_region 4 with fail
  have hb3 : Below x2.heap.size x2 (x2.alloc (.cells #[.int .i64 0, .pointer none] 60)) := (Below.refl _ _).alloc (Nat.le_refl _) _
  have N3 := Lib.hid (Blk.new x2 60 [.int .i64 0, .pointer none])
  have W3 : Hid (Below w.heap.size w (x2.alloc (.cells #[.int .i64 0, .pointer none] 60))) := W2.out.trans (hb3.mono W2.out.size)
  have Z3 := Lib.hid (Z2.out.below hb3)
  have hz := W2.out.size
  clear hb3
  go_wp2_with (first | (refine wpList_loadE (by rfl) 60 _ Try.underlying60 rfl (.tmp 8) rfl x2.heap.size 0 rfl [.int .i64 0, .pointer none] (whole_at N3.out) size60 ?_) | (refine wpList_lay rfl 60 2 size60 (.tmp 4) (.tmp 17) rfl (w.heap.size + 1) [.int .i64 0, .pointer none] rfl rfl 60 _ Z3.out rfl rfl (stay_one _ _) ?_; intro x4 hB4 hF4; have W4 : Hid (Below w.heap.size w x4) := below_only W3.out hF4.out (Nat.le_succ _) W3.out.size; have c0 := hB4.out.cell 0; have c1 := hB4.out.cell 1; clear hB4 hF4))
  refine bodyPost_ret (v := .tuple #[.agg #[.int .i64 0, .pointer none], .bool false]) (by simp [results, Try.results23, go_sem, c0, c1]) rfl ?_
  exact ⟨rfl, W4.out⟩
set_option maxRecDepth 100000 in
set_option maxHeartbeats 400000 in
theorem allT_nil (w : World) : Calls Try.prog 26 #[.pointer none] w (DRes kPre [] w) := by
  go_enter Try.func26, Try.ntmps26
  go_wp2
  go_ret
  exact ⟨none, 0, rfl, Nat.le_refl _, Els.nil, Below.refl _ _⟩
end Go.Proofs.Ytpjeeccgpnpokaa
