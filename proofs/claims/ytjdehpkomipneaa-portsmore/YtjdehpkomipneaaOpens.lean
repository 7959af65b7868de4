/- A struct of a number, two arrays of sixteen bytes, a slice of bytes and a bool that came in, opened. Conditions: those of each theorem. -/
import Derived.Test.YtjdehpkomipneaaSized
import Derived.ChangeOld
namespace Go.Proofs.Ytjdehpkomipneaa
open Go.ChangeShapes Go.WideShapes Go.ChangeAt Go.RowKit

/-- Cells that are numbers of 8 bits each. -/
theorem cel_of : ∀ (cs : List Value), (∀ i, i < cs.length → ∃ z : Int, (cs.drop i).take 1 = [.int .u8 z]) → ∃ s : List Int, cs = cel s
  | [], _ => ⟨[], rfl⟩
  | v :: r, h => by
    obtain ⟨z, hz⟩ := h 0 (by simp)
    obtain ⟨s, rfl⟩ := cel_of r (fun i hi => by
      obtain ⟨y, hy⟩ := h (i + 1) (by simpa using hi)
      exact ⟨y, by simpa using hy⟩)
    obtain rfl : v = .int .u8 z := by simpa using hz
    exact ⟨z :: s, rfl⟩

/-- Sixteen bytes, as cells. -/
theorem trod_sixteen {H : Type} {enc : TypeId × Value → H} {W : World} {m : Nat} {cs : List Value} {x : DataW H × List MemPlace} (h : DataW.trod enc Try.prog W 0 (fun _ => true) true m 22 cs = some x) : ∃ s, cs = cel s ∧ Sixteen s := by
  obtain ⟨xs, k, _, _, hl, hxl, hx⟩ := DataW.trod_array Try.underlying22 h
  have hl16 : cs.length = 16 := by rw [hl]; kernel_rfl
  obtain ⟨s, rfl⟩ := cel_of cs (fun i hi => by
    have h1 := hx i (by omega)
    rw [show Try.prog.cellsOf 5 = 1 by kernel_rfl, Nat.mul_one] at h1
    obtain ⟨y, hy⟩ : ∃ y, xs[i]? = some y := ⟨_, List.getElem?_eq_getElem (by omega)⟩
    rw [hy] at h1
    obtain ⟨z, hz, _⟩ := DataW.trod_int Try.underlying5 h1
    exact ⟨z, hz⟩)
  exact ⟨s, rfl, by rw [cel_length] at hl16; exact hl16⟩

theorem split35 (l : List Value) (h : l.length = 35) : l = (l.drop 0).take 1 ++ ((l.drop 1).take 16 ++ ((l.drop 17).take 16 ++ ((l.drop 33).take 1 ++ (l.drop 34).take 1))) := by
  have e : ∀ a b : Nat, l.drop a = (l.drop a).take b ++ l.drop (a + b) := fun a b => by
    rw [← List.drop_drop]
    exact (List.take_append_drop b (l.drop a)).symm
  have e34 : (l.drop 34).take 1 = l.drop 34 := List.take_of_length_le (by rw [List.length_drop]; omega)
  rw [e34, ← e 33 1, ← e 17 16, ← e 1 16, ← e 0 1]
  rfl

/-- Such a struct. -/
theorem open_net {H : Type} {enc : TypeId × Value → H} {W : World} {base : Nat} {v : Value} {d : DataW H} {p : List MemPlace} (hok : Value.okWide Try.prog W .any base 25 v) (h : DataW.Trod enc Try.prog W 0 (fun _ => true) true 25 v d p) :
    ∃ (q : Int) (s e : List Int) (A : Option Addr) (n c : Nat) (f : Bool) (bs : List Int), v = .agg (net q s e (.slice A n c) f).toArray ∧ Sixteen s ∧ Sixteen e ∧ n ≤ c ∧ n ≤ 9223372036854775807 ∧ Byts W A n bs ∧ Octs bs := by
  unfold Value.okWide at hok
  rw [Try.underlying25] at hok
  obtain ⟨cs, rfl, hsz, _⟩ := hok
  have hsz35 : cs.toList.length = 35 := by rw [Array.length_toList, hsz]; kernel_rfl
  obtain ⟨fuel, hf⟩ := h
  obtain ⟨xs, m, _, _, _, hxl, hx⟩ := DataW.trod_struct Try.underlying25 hf
  have hv : (Value.agg cs).cells.toList = cs.toList := rfl
  rw [hv] at hx
  match xs, hxl with
  | [y0, y1, y2, y3, y4], _ =>
    have g0 : DataW.trod enc Try.prog W 0 (fun _ => true) true m 5 ((cs.toList.drop 0).take (Try.prog.cellsOf 5)) = some y0 := hx 0 _ rfl
    have g1 : DataW.trod enc Try.prog W 0 (fun _ => true) true m 22 ((cs.toList.drop 1).take (Try.prog.cellsOf 22)) = some y1 := hx 1 _ rfl
    have g2 : DataW.trod enc Try.prog W 0 (fun _ => true) true m 22 ((cs.toList.drop 17).take (Try.prog.cellsOf 22)) = some y2 := hx 2 _ rfl
    have g3 : DataW.trod enc Try.prog W 0 (fun _ => true) true m 23 ((cs.toList.drop 33).take (Try.prog.cellsOf 23)) = some y3 := hx 3 _ rfl
    have g4 : DataW.trod enc Try.prog W 0 (fun _ => true) true m 4 ((cs.toList.drop 34).take (Try.prog.cellsOf 4)) = some y4 := hx 4 _ rfl
    rw [show Try.prog.cellsOf 5 = 1 by kernel_rfl] at g0
    rw [show Try.prog.cellsOf 22 = 16 by kernel_rfl] at g1 g2
    rw [show Try.prog.cellsOf 23 = 1 by kernel_rfl] at g3
    rw [show Try.prog.cellsOf 4 = 1 by kernel_rfl] at g4
    obtain ⟨q, hq, _, _⟩ := DataW.trod_int Try.underlying5 g0
    obtain ⟨s, hs, h16⟩ := trod_sixteen g1
    obtain ⟨e, he, k16⟩ := trod_sixteen g2
    obtain ⟨f, hb, _⟩ := DataW.trod_bool Try.underlying4 g4
    have hall := split35 cs.toList hsz35
    rw [hq, hs, he, hb] at hall
    rcases open_ints Try.underlying23 Try.underlying5 (by kernel_rfl) g3 with ⟨hcs, _⟩ | ⟨x, l, c, zs, hcs, _, hl, hm, hz, _, hcell, hwz⟩
    · rw [hcs] at hall
      obtain ⟨h1, h0, h2, h3⟩ := row_byts (w := W) (zs := []) (.inl ⟨rfl, rfl, rfl, rfl⟩)
      exact ⟨q, s, e, none, 0, 0, f, _, by rw [net]; congr 1; apply Array.toList_inj.1; rw [hall]; rfl, h16, k16, h1, h0, h2, h3⟩
    · rw [hcs] at hall
      obtain ⟨h1, h0, h2, h3⟩ := row_byts (zs := zs) (.inr ⟨_, rfl, hl, hm, by simpa using hz, hcell, hwz⟩)
      exact ⟨q, s, e, some x, l, c, f, _, by rw [net]; congr 1; apply Array.toList_inj.1; rw [hall]; rfl, h16, k16, h1, h0, h2, h3⟩
end Go.Proofs.Ytjdehpkomipneaa
