/- The contracts of cursor's Out: what is put, and all that was put. Conditions: those of each theorem. -/
import Derived.Test.YtfhlgmmfknfamaaKdWords
namespace Go.Proofs.Ytfhlgmmfknfamaa.kd
open Go.RowKit

/-- An Out at block g, whose bytes lie in block r, if there is one. -/
def OutAt (w : World) (base g : Nat) (r : Option Nat) (bs : List Int) : Prop :=
  ∃ A c, Blk w g 68 [.slice A bs.length c] ∧ w.ownsRow base 5 1 (.slice A bs.length c) bs.length (cel bs) ∧ (Value.slice A bs.length c).ownBlock = r
/-- What putting into it may turn. -/
def outS (g : Nat) (r : Option Nat) : Nat → Prop := fun k => k = g ∨ r = some k
/-- What has become of it. -/
def OutPost (w : World) (base g : Nat) (r : Option Nat) (bs : List Int) (w' : World) : Prop :=
  ∃ r', OutAt w' base g r' bs ∧ Far (outS g r) w w' ∧ (r' = r ∨ ∃ k, r' = some k ∧ w.heap.size ≤ k)

theorem out_put {w w1 w' : World} {base g : Nat} {r : Option Nat} {bs news : List Int} {A A' : Option Addr} {c c' m : Nat} (hg : Blk w1 g 68 [.slice A bs.length c]) (ho : w1.ownsRow base 5 1 (.slice A bs.length c) bs.length (cel bs))
    (hr : (Value.slice A bs.length c).ownBlock = r) (hf : Far (outS g r) w w1) (hm : news.length = m) (h1 : w'.ownsRow base 5 1 (.slice A' (bs.length + m) c') (bs.length + m) (cel (bs ++ news)))
    (h2 : w1.grownBy w' (Value.slice A bs.length c).ownBlock) (h3 : (Value.slice A' (bs.length + m) c').ownBlock = (Value.slice A bs.length c).ownBlock ∨ (Value.slice A' (bs.length + m) c').ownBlock = some w1.heap.size) :
    OutPost w base g r (bs ++ news) (w'.setCell ⟨g, 0, none⟩ (.slice A' (bs.length + m) c')) := by
  have hl : (bs ++ news).length = bs.length + m := by simp [hm]
  have hb' : Blk w' g 68 [.slice A bs.length c] := hg.grown h2 (hg.row_apart ho (by decide))
  have hne : (Value.slice A' (bs.length + m) c').ownBlock ≠ some g := hb'.row_apart h1 (by decide)
  refine ⟨(Value.slice A' (bs.length + m) c').ownBlock, ⟨A', c', ?_, ?_, ?_⟩, ?_, ?_⟩
  · rw [hl]; exact hb'.set_ 0 _
  · rw [hl]
    exact (Far.set_ (S := fun k => k = g) (Far.refl _ _) (fun _ => rfl) _).row h1 (fun k hk e => hne (by rw [hk, e]))
  · rw [hl]
  · refine (hf.grown h2 (fun k hk _ => .inr (hr ▸ hk))).set_ (fun _ => .inl rfl) _
  · rcases h3 with h | h
    · exact .inl (h.trans hr)
    · exact .inr ⟨_, h, hf.size⟩

set_option maxHeartbeats 400000 in
theorem outU8_any (base g : Nat) (r : Option Nat) (bs : List Int) (x : Int) (w : World) (h : OutAt w base g r bs) (hn : bs.length ≤ 100000) (hb : base ≤ w.heap.size) :
    Calls Try.prog 36 #[.pointer (some ⟨g, 0, none⟩), .int .u8 x] w fun e w' => e = .returned (.tuple #[]) ∧ OutPost w base g r (bs ++ [x]) w' := by
  obtain ⟨A, c, hg, ho, hr⟩ := h
  have hgl := hg.lt
  have hc0 : w.cell? ⟨g, 0, none⟩ = some (.slice A bs.length c) := hg.cell 0
  have hne : w.heap.size ≠ g := by omega
  have HG := Lib.hid hg
  have HO := Lib.hid ho
  have HR := Lib.hid hr
  clear hg ho hr
  go_enter Try.func36, Try.ntmps36
  go_wp2_with (at_builtin; refine wpList_app rfl (.tmp 10) (.tmp 12) rfl base (.slice A bs.length c) bs.length bs rfl (by exact HO.out.alloc _) (some ⟨w.heap.size, 0, none⟩) 1 1 [x] rfl (by exact Byts.of_blk (bs := [x]) (Blk.new w 5 (cel [x])) 0 (by simp)) (by omega) (by simp; omega) ?_; intro A' c' w' H1 H2 H3; have hB := (HG.out.alloc _).grown H2.out (HG.out.row_apart HO.out (by decide)); have hc1 : w'.cell? ⟨g, 0, none⟩ = some (.slice A bs.length c) := hB.cell 0; have hf1 := hB.frozen 0; clear hB)
  go_end0
  exact ⟨rfl, out_put (HG.out.alloc _) (HO.out.alloc _) HR.out ((Far.refl _ _).alloc _) rfl H1.out H2.out H3.out⟩

theorem OutPost.behind {w w1 w2 : World} {base g : Nat} {r r1 : Option Nat} {bs : List Int} (hf : Far (outS g r) w w1) (hr : r1 = r ∨ ∃ k, r1 = some k ∧ w.heap.size ≤ k) (h : OutPost w1 base g r1 bs w2) : OutPost w base g r bs w2 := by
  obtain ⟨r2, h1, h2, h3⟩ := h
  refine ⟨r2, h1, hf.trans h2 (fun i hi hs => ?_), ?_⟩
  · rcases hs with hs | hs
    · exact .inl hs
    · rcases hr with rfl | ⟨k, rfl, hk⟩
      · exact .inr hs
      · injection hs with hs; omega
  · rcases h3 with rfl | ⟨k, rfl, hk⟩
    · exact hr
    · exact .inr ⟨k, rfl, Nat.le_trans hf.size hk⟩

set_option maxHeartbeats 400000 in
theorem outU16_any (base g : Nat) (r : Option Nat) (bs : List Int) (x : Int) (w : World) (h : OutAt w base g r bs) (hn : bs.length ≤ 90000) (hb : base ≤ w.heap.size) (h0 : 0 ≤ x) (hm : x < 65536) :
    Calls Try.prog 38 #[.pointer (some ⟨g, 0, none⟩), .int .u16 x] w fun e w' => e = .returned (.tuple #[]) ∧ OutPost w base g r (bs ++ numB x.toNat 2) w' := by
  have H := Lib.hid h
  clear h
  go_enter Try.func38, Try.ntmps38
  go_wp2_with fail
  refine (outU8_any base g r bs _ _ H.out (by omega) hb).mono ?_
  rintro e w1 ⟨rfl, r1, ho, hf, hr⟩
  have hb1 : base ≤ w1.heap.size := Nat.le_trans hb hf.size
  have HO := Lib.hid ho
  have HF := Lib.hid hf
  have HR := Lib.hid hr
  clear ho hf hr
  go_wp2_with fail
  refine (outU8_any base g r1 _ _ _ HO.out (by simp; omega) hb1).mono ?_
  rintro e w2 ⟨rfl, hp⟩
  have HP := Lib.hid hp
  clear hp
  go_wp2
  go_end0
  refine ⟨rfl, ?_⟩
  have := HP.out.behind HF.out HR.out
  rw [List.append_assoc] at this
  have e : [x / 256] ++ [x % 256] = numB x.toNat 2 := by simp [numB]; omega
  rwa [e] at this

set_option maxHeartbeats 400000 in
theorem outRaw_any (base g : Nat) (r : Option Nat) (bs news : List Int) (A : Option Addr) (n c : Nat) (w : World) (h : OutAt w base g r bs) (hn : bs.length ≤ 90000) (hm : n ≤ 90000) (hb : base ≤ w.heap.size) (hw : Byts w A n news) :
    Calls Try.prog 37 #[.pointer (some ⟨g, 0, none⟩), .slice A n c] w fun e w' => e = .returned (.tuple #[]) ∧ OutPost w base g r (bs ++ news) w' := by
  obtain ⟨A0, c0, hg, ho, hr⟩ := h
  have hc0 : w.cell? ⟨g, 0, none⟩ = some (.slice A0 bs.length c0) := hg.cell 0
  have HG := Lib.hid hg
  have HO := Lib.hid ho
  have HR := Lib.hid hr
  have HW := Lib.hid hw
  clear hg ho hr hw
  go_enter Try.func37, Try.ntmps37
  go_wp2_with (at_builtin; refine wpList_app rfl (.tmp 10) (.tmp 11) rfl base (.slice A0 bs.length c0) bs.length bs rfl (by exact HO.out) A n c news rfl (by exact HW.out) (by omega) (by exact hb) ?_; intro A' c' w' H1 H2 H3; have hB := HG.out.grown H2.out (HG.out.row_apart HO.out (by decide)); have hc1 : w'.cell? ⟨g, 0, none⟩ = some (.slice A0 bs.length c0) := hB.cell 0; have hf1 := hB.frozen 0; clear hB)
  go_end0
  exact ⟨rfl, out_put HG.out HO.out HR.out (Far.refl _ _) HW.out.1 H1.out H2.out H3.out⟩

set_option maxHeartbeats 400000 in
theorem outBytes_any (base g : Nat) (r : Option Nat) (bs : List Int) (w : World) (h : OutAt w base g r bs) (hn : bs.length ≤ 1000000) :
    Calls Try.prog 39 #[.pointer (some ⟨g, 0, none⟩)] w fun e w' => e = .returned (.slice (some ⟨w.heap.size, 0, none⟩) bs.length bs.length) ∧ w.alloc (.cells (cel bs).toArray 5) = w' := by
  obtain ⟨A0, c0, hg, ho, hr⟩ := h
  have hc0 : w.cell? ⟨g, 0, none⟩ = some (.slice A0 bs.length c0) := hg.cell 0
  have hw : Byts w A0 bs.length bs := by
    obtain ⟨A1, c1, e, _, _, h, _⟩ := Byts.of_row ho
    cases e
    exact h
  have HW := Lib.hid hw
  clear hg ho hr hw
  go_enter Try.func39, Try.ntmps39
  go_wp2_with (go_at_call 43; (with_reducible refine (copied_any _ _ _ bs _ (by omega) HW.out).mono ?_); rintro e w' ⟨rfl, rfl⟩)
  go_ret
  exact ⟨rfl, rfl⟩

end Go.Proofs.Ytfhlgmmfknfamaa.kd
