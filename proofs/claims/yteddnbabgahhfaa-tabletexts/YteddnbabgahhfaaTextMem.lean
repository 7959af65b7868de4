/- What a round of TableTexts keeps. Conditions: those of each theorem. -/
import Derived.Test.YteddnbabgahhfaaOutS
import Derived.Test.YteddnbabgahhfaaMaps
import Derived.Test.YteddnbabgahhfaaDel
import Derived.Test.YteddnbabgahhfaaHolds
namespace Go.Proofs.Yteddnbabgahhfaa
open Go.RowKit

/-- The same prefixes, each with a 1. -/
def one (L : List Ent) : List Ent := L.map fun e => ⟨e.p, 1⟩
section
variable {L : List Ent} {p : Pre} {k : Nat} {r : Int}
theorem one_len : (one L).length = L.length := by simp [one]
theorem one_pres : pres (one L) = pres L := by simp [one, pres]
theorem one_idx : idx (one L) p = idx L p := by
  unfold idx one
  rw [List.findIdx_map]
  rfl
theorem one_plc : plc (one L) p = plc L p := by
  unfold plc one
  rw [List.findIdx_map]
  rfl
theorem one_has : has (one L) p = has L p := by unfold has; rw [one_idx, one_len]
theorem one_at (h : k < L.length) : at_ (one L) k = ⟨(at_ L k).p, 1⟩ := at_of (by rw [one, List.getElem?_map, at_some h]; rfl)
theorem one_val (h : has L p = true) : val (one L) p = 1 := by
  unfold val
  rw [one_has, if_pos h, one_idx, one_at (has_iff.1 h)]
theorem one_put : put (one L) r p 1 = one (put L r p 0) := by
  rcases hh : has L p with _ | _
  · have hh' : has (one L) p = false := by rw [one_has]; exact hh
    by_cases hr : r ≤ L.length
    · rw [put_full hh hr, put_full hh' (by rw [one_len]; exact hr)]
    · rw [put_room hh hr, put_room hh' (by rw [one_len]; exact hr), one_plc]
      simp [one, ins, List.map_take, List.map_drop]
  · have hh' : has (one L) p = true := by rw [one_has]; exact hh
    rw [put_has hh, put_has hh', one_idx, one_at (has_iff.1 hh)]
    simp [one, List.map_set]
theorem one_del : del (one L) p = one (del L p) := by
  rcases hh : has L p with _ | _
  · have hh' : has (one L) p = false := by rw [one_has]; exact hh
    simp [del, hh, hh']
  · have hh' : has (one L) p = true := by rw [one_has]; exact hh
    simp only [del, hh, hh', if_true, one_idx]
    simp [one, List.map_take, List.map_drop]
theorem Oks.one_ (h : Oks L) : Oks (one L) := fun s hs => by
  obtain ⟨e, he, rfl⟩ := List.mem_map.1 hs
  exact ⟨(h e he).1, (show (-9223372036854775808 : Int) ≤ 1 by omega), (show (1 : Int) ≤ 9223372036854775807 by omega)⟩
theorem put_sub {v : Int} {s : Ent} (h : s ∈ put L r p v) : s.p = p ∨ s ∈ L := by
  rcases hh : has L p with _ | _
  · by_cases hr : r ≤ L.length
    · rw [put_full hh hr] at h; exact .inr h
    · rw [put_room hh hr, (ins_perm _ _).mem_iff] at h
      rcases List.mem_cons.1 h with rfl | h
      · exact .inl rfl
      · exact .inr h
  · rw [put_has hh] at h
    rcases List.mem_or_eq_of_mem_set h with h | rfl
    · exact .inr h
    · exact .inl (idx_at (has_iff.1 hh))
end
theorem tx_one (s : ByteArray) : tx s 1 = s := rfl
/-- Both hold L; all of it is one of R. -/
structure TX (s : ByteArray) (w : World) (g q : Nat) (R : List Pre) (L : List Ent) (A : Option Addr) (c : Nat) (W : World) : Prop where
  els : Els kEnt W A L
  cap : L.length ≤ c
  tab : TbAt (kTx s) 71 73 W g q 64 (one L)
  be : Below w.heap.size w W
  lo : w.heap.size ≤ g ∧ w.heap.size ≤ q
  apart : ∀ ad, A = some ad → ¬ two g q ad.block
  ok : Oks L
  uni : Uni L
  sub : ∀ e ∈ L, e.p ∈ R
section
variable {s : ByteArray} {w W W' : World} {g q c : Nat} {R R' : List Pre} {L L' : List Ent} {A A' : Option Addr} {p : Pre}
theorem TX.below (h : TX s w g q R L A c W) (hb : Below W.heap.size W W') : TX s w g q R L A c W' := ⟨h.els.below hb, h.cap, h.tab.below hb, h.be.trans (hb.mono h.be.size), h.lo, h.apart, h.ok, h.uni, h.sub⟩
theorem TX.size (h : TX s w g q R L A c W) : L.length ≤ 64 := by
  have := h.tab.fit
  rw [one_len] at this
  exact this
/-- Behind the program's act. -/
theorem TX.act (h : TX s w g q R L A c W) (hf : Far (two g q) W W') : Els kEnt W' A L ∧ Below w.heap.size w W' :=
  ⟨h.els.far hf (fun _ _ e n => h.apart _ e n), h.be.trans (hf.below h.be.size (fun k hk e => by have := h.lo; rcases e with e | e <;> omega))⟩
/-- Behind the document's. -/
theorem TX.next (ht : TbAt (kTx s) 71 73 W g q 64 (one L')) (hbe : Below w.heap.size w W) (hlo : w.heap.size ≤ g ∧ w.heap.size ≤ q) (ha : ∀ ad, A = some ad → ¬ two g q ad.block) (hb : Below W.heap.size W W') (he : Els kEnt W' A' L') (hc : L'.length ≤ c) (hf : Frm A W W' A') (ho : Oks L') (hu : Uni L') (hs : ∀ e ∈ L', e.p ∈ R) : TX s w g q R L' A' c W' :=
  ⟨he, hc, ht.below hb, hbe.trans (hb.mono hbe.size), hlo, fun ad e n => by
    rcases hf with hf | hf
    · exact ha ad (hf ▸ e) n
    · have := (hf ad e).1
      have := ht.lt
      rcases n with n | n <;> omega, ho, hu, hs⟩
end
end Go.Proofs.Yteddnbabgahhfaa
