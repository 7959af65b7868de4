/- The contracts of the turns' last and Awake. Conditions: those of each theorem. -/
import Derived.Test.YtknalphhnicffaaTCalls
namespace Go.Proofs.Ytknalphhnicffaa
open Go.RowKit

/-- One block. -/
def sole (g : Nat) : Nat → Prop := fun k => k = g
theorem row_far (w : World) (g : Nat) (cs : Array Value) : Far (sole g) w (w.setRow g cs) :=
  ⟨rfl, rfl, rfl, by simp [World.setRow], fun k _ hn => by
    have : ¬ g = k := fun e => hn e.symm
    simp [World.setRow, Array.getElem?_modify, this]⟩
theorem row_blk {w : World} {g : Nat} {t : TypeId} {cs : List Value} (h : Blk w g t cs) (xs : List Value) : Blk (w.setRow g xs.toArray) g t xs := by
  unfold Blk at h ⊢
  simp [World.setRow, Array.getElem?_modify, h]
/-- A copy into a block that is known whole. -/
theorem wpList_copy_in {P : Program} {w : World} {ops : Array Oper} {rest : List Oper} {o : Oper} {a : Act} {Q : Exit → Act → World → Prop} (hgd : o.guard = none) (d s : Operand) (dT sT : TypeId)
    (ho : o.op = .call { callee := .builtin .copy, args := #[d, s], argTypes := #[dT, sT] }) (elem : TypeId) (hu : P.underlying dT = some (.slice elem)) (hsz : (P.info? elem).map (·.size) = some 1)
    (dp sp : Option Addr) (dLen dCap sLen sCap : Nat) (hd : a.eval d = .slice dp dLen dCap) (hs : a.eval s = .slice sp sLen sCap)
    (g off : Nat) (cur : List Value) (t : TypeId) (hg : Blk w g t cur) (cs : List Value) (hn : cs.length = Nat.min sLen dLen)
    (hpos : 0 < cs.length → dp = some ⟨g, off, none⟩ ∧ ∃ ad, sp = some ad ∧ ∀ j v, cs[j]? = some v → w.cell? (ad.add j) = some v)
    (hfit : off + cs.length ≤ cur.length) (h1 : ∀ v ∈ cs, v.oneCell' = true)
    (h : ∀ w', Hid (Blk w' g t (splice cur off cs)) → Hid (Far (sole g) w w') → wpList P ops Q rest (a.put o.dst (goInt cs.length)) w') :
    wpList P ops Q (o :: rest) a w := by
  by_cases h0 : cs.length = 0
  · obtain rfl : cs = [] := List.eq_nil_of_length_eq_zero h0
    refine wpList_copy_nothing hgd d s dT sT ho elem hu hsz dp sp dLen dCap sLen sCap hd hs (by simpa using hn.symm) ?_
    exact h w (show Blk _ _ _ _ by simpa [splice] using hg) (Far.refl _ _)
  · obtain ⟨rfl, ad, rfl, hsrc⟩ := hpos (by omega)
    refine wpList_copy_own hgd d s dT sT ho elem hu hsz g off dLen dCap ad sLen sCap hd hs cur.toArray t hg cs hn hsrc (by simpa using hfit) h1 ?_
    have e : cur.toArray.toList.take off ++ (cs ++ cur.toArray.toList.drop (off + cs.length)) = splice cur off cs := rfl
    rw [e]
    exact h _ (row_blk hg _) (row_far _ _ _)
theorem size3 : (Try.prog.info? 3).map (·.size) = some 1 := by kernel_rfl
theorem TAt.open_ {b : Nat → Prop} {w : World} {g n Q : Nat} {L : List Cls} (h : TAt b w g n Q L) : ∃ cs, Hid (Blk w g 65 cs) ∧ Hid (Good n Q L cs) := by
  obtain ⟨h1, h2, h3, h4, h5, cs, h6, h7⟩ := h
  exact ⟨cs, h6, h7⟩
theorem TAt.put {b : Nat → Prop} {w w' : World} {g n Q : Nat} {L L' : List Cls} {cs : List Value} (h : TAt b w g n Q L) (ho : Ok n Q L') (hb : Blk w' g 65 cs) (hg : Good n Q L' cs) : TAt b w' g n Q L' := ⟨h.1, h.2.1, h.2.2.1, h.2.2.2.1, ho, cs, hb, hg⟩
theorem tail_cells {w : World} {g n Q k : Nat} {L : List Cls} {cs : List Value} (hb : Blk w g 65 cs) (hg : Good n Q L cs) : ∀ j v, (tailOf L k)[j]? = some v → w.cell? ((⟨g, 261 + k + 1, none⟩ : Addr).add j) = some v := by
  intro j v hj
  rw [Addr.add_at, hb.cell, show 261 + k + 1 + j = 261 + (k + 1 + j) by omega]
  exact hg.tail hj
theorem copy_len (L : List Cls) (k : Nat) : (tailOf L k).length = Nat.min (L.length - k - 1) (L.length - k) := by
  rw [tail_length]
  show _ = min _ _
  omega
theorem copy_fit {n Q k : Nat} {L : List Cls} {cs : List Value} (hg : Good n Q L cs) (hk : k < L.length) (hl : L.length ≤ 129) : 261 + k + (tailOf L k).length ≤ cs.length := by
  rw [tail_length, hg.size]
  omega
theorem copy_no {L : List Cls} {k : Nat} (hk : k < L.length) (hl : L.length ≤ 129) (h1 : 129 - k = 0 + 1) (h0 : 0 < (tailOf L k).length) : False := by
  rw [tail_length] at h0
  omega
theorem last_cell {w : World} {g n Q k : Nat} {c : Cls} {L : List Cls} {cs : List Value} (hb : Blk w g 65 (splice cs (261 + k) (tailOf L k))) (hg : Good n Q L cs) (hk : L[k]? = some c) (hl : L.length ≤ 129) : ∃ u, w.cell? ⟨g, 261 + k + (L.length - k - 1), none⟩ = some u := by
  have hkl := (List.getElem?_eq_some_iff.1 hk).1
  rw [hb.cell]
  have := length_splice cs (261 + k) (tailOf L k) (by rw [tail_length, hg.size]; omega)
  exact ⟨_, List.getElem?_eq_getElem (by rw [this, hg.size]; omega)⟩
theorem last_put {b : Nat → Prop} {w w2 : World} {g n Q k : Nat} {c : Cls} {L : List Cls} {cs : List Value} (h : TAt b w g n Q L) (hb : Blk w2 g 65 (splice cs (261 + k) (tailOf L k))) (hg : Good n Q L cs) (hk : L[k]? = some c) :
    TAt b (w2.setCell ⟨g, 261 + k + (L.length - k - 1), none⟩ (.int .i64 (c.n : Nat))) g n Q (lastOf L k c) := by
  have hkl := (List.getElem?_eq_some_iff.1 hk).1
  have e : 261 + k + (L.length - k - 1) = 261 + (L.length - 1) := by omega
  have h2 := hb.set_ (261 + k + (L.length - k - 1)) (.int .i64 (c.n : Nat))
  rw [e] at h2 ⊢
  exact h.put (h.ok.last hk) h2 (hg.last h.ok hk h.len_le)
set_option maxHeartbeats 1000000 in
theorem last_ (b : Nat → Prop) (g n Q k : Nat) (x : Int) (c : Cls) (L : List Cls) (w : World) (h : TAt b w g n Q L) (hx : x = k) (hk : L[k]? = some c) :
    Calls Try.prog 29 #[.pointer (some ⟨g, 0, none⟩), .int .i64 x] w fun e w' => e = .returned (.tuple #[]) ∧ TAt b w' g n Q (lastOf L k c) ∧ Far (sole g) w w' := by
  subst hx
  have HT := Lib.hid h
  have HK := Lib.hid hk
  have hkl := (List.getElem?_eq_some_iff.1 hk).1
  have hl := h.len_le
  clear h hk
  have HL : Hid (L.length ≤ 129) := hl
  obtain ⟨m, hm⟩ : ∃ m, m = L.length := ⟨_, rfl⟩
  have HM := Lib.hid hm
  have e129 : ¬ (129 = k) := by omega
  obtain ⟨r, hk1⟩ : ∃ r, 129 - k = r + 1 := ⟨129 - k - 1, by omega⟩
  rcases r with _ | r
  all_goals
    go_enter Try.func29, Try.ntmps29
    go_upto_region 2 with ((go_at_call 24; (with_reducible refine (line_ b g n Q L _ HT.out).mono ?_); rintro e w1 ⟨rfl, hb⟩; have B1 := Lib.hid hb; have T1 := Lib.hid (HT.out.below hb); clear hb; obtain ⟨cs, HB, HG⟩ := TAt.open_ T1.out; have c1 : w1.cell? ⟨g, 261 + k, none⟩ = some (.int .i64 (c.n : Nat)) := (HB.out.cell _).trans (HG.out.line k c.n (by simp [names, HK.out]))))
    go_wp2_with ((refine wpList_copy_in rfl (.tmp 13) (.tmp 15) 30 30 rfl 3 Try.underlying30 size3 _ _ _ _ _ _ rfl rfl g (261 + k) cs 65 HB.out (tailOf L k) (copy_len L k) (by first | exact fun _ => ⟨rfl, _, rfl, tail_cells HB.out HG.out⟩ | exact fun h0 => (copy_no hkl hl hk1 h0).elim) (copy_fit HG.out hkl hl) (tail_one L k) ?_; intro w2 HB2 HF2; have c2 := HB2.out.frozen (261 + k + (L.length - k - 1)); obtain ⟨u, c3⟩ := last_cell HB2.out HG.out HK.out hl))
    first | (go_end0; exact ⟨rfl, last_put T1.out HB2.out HG.out HK.out, ((Far.of_below B1.out (sole g)).trans (Far.set_ (S := sole g) (p := ⟨g, 261 + k + (L.length - k - 1), none⟩) HF2.out (fun _ => rfl) _) (fun _ _ e => e))⟩) | (exfalso; trace_state; done)
end Go.Proofs.Ytknalphhnicffaa
