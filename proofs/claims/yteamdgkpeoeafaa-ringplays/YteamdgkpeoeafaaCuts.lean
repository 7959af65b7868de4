/- The contracts of ring's Cut and Pop. Conditions: those of each theorem. -/
import Derived.Test.YteamdgkpeoeafaaCalls
import Derived.RegionTactic
import Derived.ChangeAlike
namespace Go.Proofs.Yteamdgkpeoeafaa
open Go.RowKit


/-- Where a cutting stands: those from j on up to K have come one up. -/
def CutRel (T E : TypeId) (w : World) (g q n f K j : Nat) (vs : List Value) (w' : World) : Prop :=
  ∃ cs : List Value, Blk w' g T [.slice (some ⟨q, 0, none⟩) n n, .int .i64 (f : Nat), .int .i64 (vs.length : Nat)] ∧ Blk w' q E cs ∧ cs.length = n ∧
    (∀ i, i < vs.length → cs[pl f i n]? = if j < i ∧ i ≤ K then vs[i - 1]? else vs[i]?) ∧ Far (both g q) w w'

theorem cut_step {T E : TypeId} {w w' : World} {g q n f K j : Nat} {vs : List Value} {v : Value} (h : CutRel T E w g q n f K (j + 1) vs w') (hf : f < n) (hv : vs.length ≤ n) (hK : K < vs.length) (hj : j + 1 ≤ K) (hne : g ≠ q) (hx : vs[j]? = some v) (N : Nat) :
    CutRel T E w g q n f K j vs ((w'.drewN N).setCell ⟨q, pl f (j + 1) n, none⟩ v) := by
  obtain ⟨cs, h1, h2, hl, hc, hfar⟩ := h
  refine ⟨cs.set (pl f (j + 1) n) v, (h1.drewN N).other (p := ⟨q, pl f (j + 1) n, none⟩) hne v, (h2.drewN N).set_ _ v, by simpa using hl, fun i hi => ?_, (hfar.drewN N).set_ (p := ⟨q, pl f (j + 1) n, none⟩) (fun _ => .inr rfl) v⟩
  have hp := pl_lt (k := j + 1) hf (by omega)
  by_cases e : i = j + 1
  · subst e
    rw [List.getElem?_set_self (by omega), if_pos ⟨by omega, hj⟩]
    simpa using hx.symm
  · have hne2 : pl f (j + 1) n ≠ pl f i n := fun h => e (pl_inj (by omega) (by omega) h).symm
    rw [List.getElem?_set_ne hne2, hc i hi]
    by_cases h2 : j < i ∧ i ≤ K
    · rw [if_pos h2, if_pos ⟨by omega, h2.2⟩]
    · rw [if_neg h2, if_neg (by omega)]

theorem ring_cut {T E : TypeId} {w w' : World} {g q n f K : Nat} {vs : List Value} (h : CutRel T E w g q n f K 0 vs w') (hf : f < n) (hv : vs.length ≤ n) (hn : n ≤ 4096) (hK : K < vs.length) (hne : g ≠ q) (z : Value) (M : Nat) :
    RingAt T E ((((w'.setCell ⟨q, f, none⟩ z).drewN M).setCell ⟨g, 1, none⟩ (.int .i64 ((pl f 1 n : Nat) : Int))).setCell ⟨g, 2, none⟩ (.int .i64 ((vs.length : Int) - 1))) g q n (vs.eraseIdx K) ∧
    Far (both g q) w ((((w'.setCell ⟨q, f, none⟩ z).drewN M).setCell ⟨g, 1, none⟩ (.int .i64 ((pl f 1 n : Nat) : Int))).setCell ⟨g, 2, none⟩ (.int .i64 ((vs.length : Int) - 1))) := by
  obtain ⟨cs, h1, h2, hl, hc, hfar⟩ := h
  have hle : (vs.eraseIdx K).length = vs.length - 1 := by rw [List.length_eraseIdx, if_pos hK]
  refine ⟨⟨pl f 1 n, cs.set f z, ?_, ?_, by simpa using hl, pl_lt hf (by omega), by omega, hn, hne, fun k hk => ?_⟩, ?_⟩
  · have := (((h1.other (p := ⟨q, f, none⟩) hne z).drewN M).set_ 1 (.int .i64 ((pl f 1 n : Nat) : Int))).set_ 2 (.int .i64 ((vs.length : Int) - 1))
    have e : ((vs.length - 1 : Nat) : Int) = (vs.length : Int) - 1 := by omega
    rw [hle, e]
    simpa using this
  · exact ((((h2.set_ f z).drewN M).other (p := ⟨g, 1, none⟩) (fun e => hne e.symm) _)).other (p := ⟨g, 2, none⟩) (fun e => hne e.symm) _
  · rw [hle] at hk
    have h0 : pl f 0 n ≠ pl f (k + 1) n := fun e => by have := pl_inj (i := 0) (j := k + 1) (by omega) (by omega) e; omega
    rw [pl_zero hf] at h0
    rw [pl_succ hf (by omega), List.getElem?_set_ne h0, hc _ (by omega), List.getElem?_eraseIdx]
    by_cases e : k < K
    · rw [if_pos ⟨by omega, by omega⟩, if_pos e]
      simp
    · rw [if_neg (by omega), if_neg e]
  · exact (((hfar.set_ (p := ⟨q, f, none⟩) (fun _ => .inr rfl) z).drewN M).set_ (p := ⟨g, 1, none⟩) (fun _ => .inl rfl) _).set_ (p := ⟨g, 2, none⟩) (fun _ => .inl rfl) _
set_option maxHeartbeats 400000 in
theorem cutnone_I (g q n : Nat) (x : Int) (vs : List Value) (w : World) (h : RingAt 54 3 w g q n vs) (hx : x < 0 ∨ (vs.length : Int) ≤ x) :
    Calls Try.prog 13 #[.pointer (some ⟨g, 0, none⟩), .int .i64 x] w fun e w' => e = .returned (.tuple #[.int .i64 0, .bool false]) ∧ w = w' := by
  have H := Lib.hid h
  have HX := Lib.hid hx
  clear h hx
  go_enter Try.func13, Try.ntmps13
  go_wp2_with (go_at_call 14; (with_reducible refine (atnone_I g q n x vs _ H.out HX.out).mono ?_); rintro e w' ⟨rfl, rfl⟩)
  go_ret2
  exact ⟨rfl, rfl⟩
set_option maxHeartbeats 1000000 in
theorem cut0_I (g q n k : Nat) (x : Int) (vs : List Value) (v : Value) (w : World) (h : RingAt 54 3 w g q n vs) (hx : x = k) (hk : vs[k]? = some v) (hs : k = 0) :
    Calls Try.prog 13 #[.pointer (some ⟨g, 0, none⟩), .int .i64 x] w fun e w' => e = .returned (.tuple #[v, .bool true]) ∧ RingAt 54 3 w' g q n (vs.eraseIdx k) ∧ Far (both g q) w w' := by
  subst hx
  have HI := Lib.hid h
  obtain ⟨f, cs, h1, h2, hl, hf, hv, hn, hne, hc⟩ := h
  have hkv : k < vs.length := (List.getElem?_eq_some_iff.1 hk).1
  have HC0 : Hid (∀ N, CutRel 54 3 w g q n f k k vs (w.drewN N)) := fun N => ⟨cs, h1.drewN N, h2.drewN N, hl, fun i hi => by rw [if_neg (by omega)]; exact hc i hi, (Far.refl _ _).drewN N⟩
  have HK := Lib.hid hk
  have HS0 := Lib.hid hs
  clear h1 h2 hc hk hs
  obtain ⟨len, hlen⟩ : ∃ m, vs.length = m := ⟨_, rfl⟩
  have HLEN := Lib.hid hlen
  have hgq : g ≠ q := hne
  have hqg : q ≠ g := fun e => hne e.symm
  rw [hlen] at hkv hv
  clear hlen
  go_enter Try.func13, Try.ntmps13
  go_wp2_with (go_at_call 14; (with_reducible refine (at_I g q n k _ vs v _ HI.out rfl HK.out).mono ?_); rintro e w' ⟨rfl, m0, rfl⟩)
  go_loopw [1] (fun i w' => ∃ j : Nat, j ≤ k ∧ i = .int .i64 j ∧ CutRel 54 3 w g q n f k j vs w') (fun i _ => (intOf i).toNat)
  case atStart => exact ⟨k, Nat.le_refl _, rfl, HC0.out _⟩
  case round =>
    obtain ⟨j, hj, rfl, hr⟩ := hrel
    have HR := Lib.hid hr
    obtain ⟨cs', b1, b2, hl', hc', hfar⟩ := hr
    rw [HLEN.out] at b1
    have hc0 : wr.cell? ⟨g, 0, none⟩ = some (.slice (some ⟨q, 0, none⟩) n n) := b1.cell 0
    have hc1 : wr.cell? ⟨g, 1, none⟩ = some (.int .i64 f) := b1.cell 1
    have hc2 : wr.cell? ⟨g, 2, none⟩ = some (.int .i64 len) := b1.cell 2
    have hf1 := b1.frozen 1
    have hf2 := b1.frozen 2
    have B1 := Lib.hid b1
    rcases j with _ | j
    · obtain ⟨o, ho⟩ : ∃ o, wr.cell? ⟨q, f, none⟩ = some o := by rw [b2.cell]; exact ⟨_, List.getElem?_eq_getElem (by omega)⟩
      have hfo := b2.frozen f
      have hp0 : (0 : Int) ≤ ((f : Nat) : Int) := by omega
      have hp1 : ((f : Nat) : Int) < (n : Int) := by omega
      clear b1 b2 hc' hfar
      go_wp2
      go_region
      go_wp2_with (go_at_call 21; (with_reducible refine (place_I g f 1 n n _ _ _ _ (B1.out.other (p := ⟨q, f, none⟩) hgq _).drew (by omega) hf (by omega) hn).mono ?_); rintro e w' ⟨rfl, md, rfl⟩)
      go_ret2
      refine ⟨rfl, ?_⟩
      have := ring_cut HR.out hf (by have := HLEN.out; omega) hn (by have := HLEN.out; omega) hne (.int .i64 0) (1 + md)
      rw [HLEN.out] at this
      exact this
    · have := HS0.out; omega
set_option maxHeartbeats 400000 in
theorem cutnone_S (g q n : Nat) (x : Int) (vs : List Value) (w : World) (h : RingAt 57 9 w g q n vs) (hx : x < 0 ∨ (vs.length : Int) ≤ x) :
    Calls Try.prog 28 #[.pointer (some ⟨g, 0, none⟩), .int .i64 x] w fun e w' => e = .returned (.tuple #[.string { data := #[] }, .bool false]) ∧ w = w' := by
  have H := Lib.hid h
  have HX := Lib.hid hx
  clear h hx
  go_enter Try.func28, Try.ntmps28
  go_wp2_with (go_at_call 30; (with_reducible refine (atnone_S g q n x vs _ H.out HX.out).mono ?_); rintro e w' ⟨rfl, rfl⟩)
  go_ret2
  exact ⟨rfl, rfl⟩
set_option maxHeartbeats 1000000 in
theorem cut0_S (g q n k : Nat) (x : Int) (vs : List Value) (v : Value) (w : World) (h : RingAt 57 9 w g q n vs) (hx : x = k) (hk : vs[k]? = some v) (hs : k = 0) :
    Calls Try.prog 28 #[.pointer (some ⟨g, 0, none⟩), .int .i64 x] w fun e w' => e = .returned (.tuple #[v, .bool true]) ∧ RingAt 57 9 w' g q n (vs.eraseIdx k) ∧ Far (both g q) w w' := by
  subst hx
  have HI := Lib.hid h
  obtain ⟨f, cs, h1, h2, hl, hf, hv, hn, hne, hc⟩ := h
  have hkv : k < vs.length := (List.getElem?_eq_some_iff.1 hk).1
  have HC0 : Hid (∀ N, CutRel 57 9 w g q n f k k vs (w.drewN N)) := fun N => ⟨cs, h1.drewN N, h2.drewN N, hl, fun i hi => by rw [if_neg (by omega)]; exact hc i hi, (Far.refl _ _).drewN N⟩
  have HK := Lib.hid hk
  have HS0 := Lib.hid hs
  clear h1 h2 hc hk hs
  obtain ⟨len, hlen⟩ : ∃ m, vs.length = m := ⟨_, rfl⟩
  have HLEN := Lib.hid hlen
  have hgq : g ≠ q := hne
  have hqg : q ≠ g := fun e => hne e.symm
  rw [hlen] at hkv hv
  clear hlen
  go_enter Try.func28, Try.ntmps28
  go_wp2_with (go_at_call 30; (with_reducible refine (at_S g q n k _ vs v _ HI.out rfl HK.out).mono ?_); rintro e w' ⟨rfl, m0, rfl⟩)
  go_loopw [1] (fun i w' => ∃ j : Nat, j ≤ k ∧ i = .int .i64 j ∧ CutRel 57 9 w g q n f k j vs w') (fun i _ => (intOf i).toNat)
  case atStart => exact ⟨k, Nat.le_refl _, rfl, HC0.out _⟩
  case round =>
    obtain ⟨j, hj, rfl, hr⟩ := hrel
    have HR := Lib.hid hr
    obtain ⟨cs', b1, b2, hl', hc', hfar⟩ := hr
    rw [HLEN.out] at b1
    have hc0 : wr.cell? ⟨g, 0, none⟩ = some (.slice (some ⟨q, 0, none⟩) n n) := b1.cell 0
    have hc1 : wr.cell? ⟨g, 1, none⟩ = some (.int .i64 f) := b1.cell 1
    have hc2 : wr.cell? ⟨g, 2, none⟩ = some (.int .i64 len) := b1.cell 2
    have hf1 := b1.frozen 1
    have hf2 := b1.frozen 2
    have B1 := Lib.hid b1
    rcases j with _ | j
    · obtain ⟨o, ho⟩ : ∃ o, wr.cell? ⟨q, f, none⟩ = some o := by rw [b2.cell]; exact ⟨_, List.getElem?_eq_getElem (by omega)⟩
      have hfo := b2.frozen f
      have hp0 : (0 : Int) ≤ ((f : Nat) : Int) := by omega
      have hp1 : ((f : Nat) : Int) < (n : Int) := by omega
      clear b1 b2 hc' hfar
      go_wp2
      go_region
      go_wp2_with (go_at_call 24; (with_reducible refine (place_S g f 1 n n _ _ _ _ (B1.out.other (p := ⟨q, f, none⟩) hgq _).drew (by omega) hf (by omega) hn).mono ?_); rintro e w' ⟨rfl, md, rfl⟩)
      go_ret2
      refine ⟨rfl, ?_⟩
      have := ring_cut HR.out hf (by have := HLEN.out; omega) hn (by have := HLEN.out; omega) hne (.string { data := #[] }) (1 + md)
      rw [HLEN.out] at this
      exact this
    · have := HS0.out; omega
set_option maxHeartbeats 400000 in
theorem cutnone_L (g q n : Nat) (x : Int) (vs : List Value) (w : World) (h : RingAt 60 37 w g q n vs) (hx : x < 0 ∨ (vs.length : Int) ≤ x) :
    Calls Try.prog 29 #[.pointer (some ⟨g, 0, none⟩), .int .i64 x] w fun e w' => e = .returned (.tuple #[.slice none 0 0, .bool false]) ∧ w = w' := by
  have H := Lib.hid h
  have HX := Lib.hid hx
  clear h hx
  go_enter Try.func29, Try.ntmps29
  go_wp2_with (go_at_call 31; (with_reducible refine (atnone_L g q n x vs _ H.out HX.out).mono ?_); rintro e w' ⟨rfl, rfl⟩)
  go_ret2
  exact ⟨rfl, rfl⟩
set_option maxHeartbeats 1000000 in
theorem cut0_L (g q n k : Nat) (x : Int) (vs : List Value) (v : Value) (w : World) (h : RingAt 60 37 w g q n vs) (hx : x = k) (hk : vs[k]? = some v) (hs : k = 0) :
    Calls Try.prog 29 #[.pointer (some ⟨g, 0, none⟩), .int .i64 x] w fun e w' => e = .returned (.tuple #[v, .bool true]) ∧ RingAt 60 37 w' g q n (vs.eraseIdx k) ∧ Far (both g q) w w' := by
  subst hx
  have HI := Lib.hid h
  obtain ⟨f, cs, h1, h2, hl, hf, hv, hn, hne, hc⟩ := h
  have hkv : k < vs.length := (List.getElem?_eq_some_iff.1 hk).1
  have HC0 : Hid (∀ N, CutRel 60 37 w g q n f k k vs (w.drewN N)) := fun N => ⟨cs, h1.drewN N, h2.drewN N, hl, fun i hi => by rw [if_neg (by omega)]; exact hc i hi, (Far.refl _ _).drewN N⟩
  have HK := Lib.hid hk
  have HS0 := Lib.hid hs
  clear h1 h2 hc hk hs
  obtain ⟨len, hlen⟩ : ∃ m, vs.length = m := ⟨_, rfl⟩
  have HLEN := Lib.hid hlen
  have hgq : g ≠ q := hne
  have hqg : q ≠ g := fun e => hne e.symm
  rw [hlen] at hkv hv
  clear hlen
  go_enter Try.func29, Try.ntmps29
  go_wp2_with (go_at_call 31; (with_reducible refine (at_L g q n k _ vs v _ HI.out rfl HK.out).mono ?_); rintro e w' ⟨rfl, m0, rfl⟩)
  go_loopw [1] (fun i w' => ∃ j : Nat, j ≤ k ∧ i = .int .i64 j ∧ CutRel 60 37 w g q n f k j vs w') (fun i _ => (intOf i).toNat)
  case atStart => exact ⟨k, Nat.le_refl _, rfl, HC0.out _⟩
  case round =>
    obtain ⟨j, hj, rfl, hr⟩ := hrel
    have HR := Lib.hid hr
    obtain ⟨cs', b1, b2, hl', hc', hfar⟩ := hr
    rw [HLEN.out] at b1
    have hc0 : wr.cell? ⟨g, 0, none⟩ = some (.slice (some ⟨q, 0, none⟩) n n) := b1.cell 0
    have hc1 : wr.cell? ⟨g, 1, none⟩ = some (.int .i64 f) := b1.cell 1
    have hc2 : wr.cell? ⟨g, 2, none⟩ = some (.int .i64 len) := b1.cell 2
    have hf1 := b1.frozen 1
    have hf2 := b1.frozen 2
    have B1 := Lib.hid b1
    rcases j with _ | j
    · obtain ⟨o, ho⟩ : ∃ o, wr.cell? ⟨q, f, none⟩ = some o := by rw [b2.cell]; exact ⟨_, List.getElem?_eq_getElem (by omega)⟩
      have hfo := b2.frozen f
      have hp0 : (0 : Int) ≤ ((f : Nat) : Int) := by omega
      have hp1 : ((f : Nat) : Int) < (n : Int) := by omega
      clear b1 b2 hc' hfar
      go_wp2
      go_region
      go_wp2_with (go_at_call 27; (with_reducible refine (place_L g f 1 n n _ _ _ _ (B1.out.other (p := ⟨q, f, none⟩) hgq _).drew (by omega) hf (by omega) hn).mono ?_); rintro e w' ⟨rfl, md, rfl⟩)
      go_ret2
      refine ⟨rfl, ?_⟩
      have := ring_cut HR.out hf (by have := HLEN.out; omega) hn (by have := HLEN.out; omega) hne (.slice none 0 0) (1 + md)
      rw [HLEN.out] at this
      exact this
    · have := HS0.out; omega
set_option maxHeartbeats 1000000 in
theorem cut_I (g q n k : Nat) (x : Int) (vs : List Value) (v : Value) (w : World) (h : RingAt 54 3 w g q n vs) (hx : x = k) (hk : vs[k]? = some v) (hs : ∀ i, i < k → ∃ z, vs[i]? = some (.int .i64 z)) :
    Calls Try.prog 13 #[.pointer (some ⟨g, 0, none⟩), .int .i64 x] w fun e w' => e = .returned (.tuple #[v, .bool true]) ∧ RingAt 54 3 w' g q n (vs.eraseIdx k) ∧ Far (both g q) w w' := by
  subst hx
  have HI := Lib.hid h
  obtain ⟨f, cs, h1, h2, hl, hf, hv, hn, hne, hc⟩ := h
  have hkv : k < vs.length := (List.getElem?_eq_some_iff.1 hk).1
  have HC0 : Hid (∀ N, CutRel 54 3 w g q n f k k vs (w.drewN N)) := fun N => ⟨cs, h1.drewN N, h2.drewN N, hl, fun i hi => by rw [if_neg (by omega)]; exact hc i hi, (Far.refl _ _).drewN N⟩
  have HK := Lib.hid hk
  have HS := Lib.hid hs
  clear h1 h2 hc hk hs
  obtain ⟨len, hlen⟩ : ∃ m, vs.length = m := ⟨_, rfl⟩
  have HLEN := Lib.hid hlen
  have hgq : g ≠ q := hne
  have hqg : q ≠ g := fun e => hne e.symm
  rw [hlen] at hkv hv
  clear hlen
  go_enter Try.func13, Try.ntmps13
  go_wp2_with (go_at_call 14; (with_reducible refine (at_I g q n k _ vs v _ HI.out rfl HK.out).mono ?_); rintro e w' ⟨rfl, m0, rfl⟩)
  go_loopw [1] (fun i w' => ∃ j : Nat, j ≤ k ∧ i = .int .i64 j ∧ CutRel 54 3 w g q n f k j vs w') (fun i _ => (intOf i).toNat)
  case atStart => exact ⟨k, Nat.le_refl _, rfl, HC0.out _⟩
  case round =>
    obtain ⟨j, hj, rfl, hr⟩ := hrel
    have HR := Lib.hid hr
    obtain ⟨cs', b1, b2, hl', hc', hfar⟩ := hr
    rw [HLEN.out] at b1
    have hc0 : wr.cell? ⟨g, 0, none⟩ = some (.slice (some ⟨q, 0, none⟩) n n) := b1.cell 0
    have hc1 : wr.cell? ⟨g, 1, none⟩ = some (.int .i64 f) := b1.cell 1
    have hc2 : wr.cell? ⟨g, 2, none⟩ = some (.int .i64 len) := b1.cell 2
    have hf1 := b1.frozen 1
    have hf2 := b1.frozen 2
    have B1 := Lib.hid b1
    rcases j with _ | j
    · obtain ⟨o, ho⟩ : ∃ o, wr.cell? ⟨q, f, none⟩ = some o := by rw [b2.cell]; exact ⟨_, List.getElem?_eq_getElem (by omega)⟩
      have hfo := b2.frozen f
      have hp0 : (0 : Int) ≤ ((f : Nat) : Int) := by omega
      have hp1 : ((f : Nat) : Int) < (n : Int) := by omega
      clear b1 b2 hc' hfar
      go_wp2
      go_region
      go_wp2_with (go_at_call 21; (with_reducible refine (place_I g f 1 n n _ _ _ _ (B1.out.other (p := ⟨q, f, none⟩) hgq _).drew (by omega) hf (by omega) hn).mono ?_); rintro e w' ⟨rfl, md, rfl⟩)
      go_ret2
      refine ⟨rfl, ?_⟩
      have := ring_cut HR.out hf (by have := HLEN.out; omega) hn (by have := HLEN.out; omega) hne (.int .i64 0) (1 + md)
      rw [HLEN.out] at this
      exact this
    · have hpj := pl_lt (k := j) hf (by omega)
      have hpk := pl_lt (k := j + 1) hf (by omega)
      obtain ⟨z, hz⟩ := HS.out j (by omega)
      have hcz : wr.cell? ⟨q, pl f j n, none⟩ = some (.int .i64 z) := by rw [b2.cell, hc' j (by have := HLEN.out; omega), if_neg (by omega)]; exact hz
      obtain ⟨o, ho⟩ : ∃ o, wr.cell? ⟨q, pl f (j + 1) n, none⟩ = some o := by rw [b2.cell]; exact ⟨_, List.getElem?_eq_getElem (by omega)⟩
      have hfo := b2.frozen (pl f (j + 1) n)
      have HZ := Lib.hid hz
      clear b1 b2 hc' hfar hz
      have hp0 : (0 : Int) ≤ ((pl f j n : Nat) : Int) := by omega
      have hp1 : ((pl f j n : Nat) : Int) < (n : Int) := by omega
      have hq0 : (0 : Int) ≤ ((pl f (j + 1) n : Nat) : Int) := by omega
      have hq1 : ((pl f (j + 1) n : Nat) : Int) < (n : Int) := by omega
      have hwj : IntKind.i64.wrap (j : Int) = j := by rw [IntKind.wrap_i64]; omega
      go_wp2_with fail
      go_region_with (first | (go_at_call 21; (with_reducible refine (place_I g f (j + 1) n n _ _ _ _ B1.out.drew (by omega) hf (by omega) hn).mono ?_); rintro e w' ⟨rfl, md1, rfl⟩) | (go_at_call 21; (with_reducible refine (place_I g f j n n _ _ _ _ (B1.out.drewN _) (by first | rfl | exact hwj | omega) hf (by omega) hn).mono ?_); rintro e w' ⟨rfl, md2, rfl⟩))
      all_goals
        go_wp2_with fail
        exact ⟨⟨j, by omega, rfl, cut_step HR.out hf (by have := HLEN.out; omega) (by have := HLEN.out; omega) hj hne HZ.out _⟩, by simp [intOf]⟩
end Go.Proofs.Yteamdgkpeoeafaa
