/- What a frame carries, said of plain lists; the contracts of ether's isTag and carried, and of the document's two. Conditions: those of each theorem. -/
import Derived.Test.YtebpemknmcgamaaIns
import Derived.BigQuiet
namespace Go.Proofs.Ytebpemknmcgamaa.ether
open Go.RowKit

/-- The type at a place. -/
def ty (bs : List Int) (p : Nat) : Int := bs.getD p 0 * 256 + bs.getD (p + 1) 0
/-- What is carried, if so many types may be asked for, the first at p. -/
def look (bs : List Int) : Nat → Nat → Bool × Nat × Nat
  | 0, _ => (false, 0, 6)
  | k + 1, p => if bs.length < p + 2 then (false, 0, 1) else if ty bs p = 33024 ∨ ty bs p = 34984 then look bs k (p + 4)
      else if ty bs p = 2048 ∨ ty bs p = 34525 then (decide (ty bs p = 34525), p + 2, 0) else (false, 0, 2)

theorem ty_bd {bs : List Int} (ho : Octs bs) (p : Nat) : 0 ≤ ty bs p ∧ ty bs p < 65536 := by
  have h1 := ho.at_ p
  have h2 := ho.at_ (p + 1)
  unfold ty
  omega
/-- Two of the first m bytes. -/
theorem two_of {bs : List Int} {p m : Nat} (hp : p + 2 ≤ bs.length) (hm : p + 2 ≤ m) : ((bs.take m).drop p).take 2 = [bs.getD p 0, bs.getD (p + 1) 0] := by
  have hl : (bs.take m).length = min m bs.length := List.length_take
  rw [List.drop_eq_getElem_cons (by omega), List.drop_eq_getElem_cons (by omega)]
  simp [List.getD_eq_getElem?_getD, List.getElem?_eq_getElem (show p < bs.length by omega), List.getElem?_eq_getElem (show p + 1 < bs.length by omega)]
theorem two_num (bs : List Int) (p : Nat) : numF 0 [bs.getD p 0, bs.getD (p + 1) 0] = ty bs p := by
  simp only [numF, ty]
  omega
theorem two_octs {bs : List Int} (ho : Octs bs) (p : Nat) : Octs [bs.getD p 0, bs.getD (p + 1) 0] := fun z h => by
  rcases List.mem_cons.1 h with rfl | h
  · exact ho.at_ p
  · rcases List.mem_cons.1 h with rfl | h
    · exact ho.at_ (p + 1)
    · cases h

theorem isTag_yes (k : Int) (w : World) (h : k = 33024 ∨ k = 34984) : Calls Try.prog 30 #[.int .u16 k] w fun e w' => e = .returned (.bool true) ∧ w = w' := by
  rcases h with rfl | rfl
  all_goals
    go_enter Try.func30, Try.ntmps30
    go_wp2
    go_ret
    exact ⟨rfl, rfl⟩
theorem isTag_no (k : Int) (w : World) (h : ¬ (k = 33024 ∨ k = 34984)) : Calls Try.prog 30 #[.int .u16 k] w fun e w' => e = .returned (.bool false) ∧ w = w' := by
  have h1 : (k == 33024) = false := by simp; omega
  have h2 : (k == 34984) = false := by simp; omega
  clear h
  go_enter Try.func30, Try.ntmps30
  go_wp2
  go_ret
  exact ⟨rfl, rfl⟩

set_option maxHeartbeats 400000 in
theorem carried_yes (k x : Int) (b : Bool) (a : Nat) (w : World) (hx : x = a) (hb : decide (k = 34525) = b) (h : k = 2048 ∨ k = 34525) :
    Calls Try.prog 31 #[.int .u16 k, .int .i64 x] w fun e w' => e = .returned (.tuple #[.agg #[.bool b, .int .i64 (a : Nat)], .int .i64 0]) ∧ Below w.heap.size w w' := by
  subst hx hb
  rcases h with rfl | rfl
  all_goals
    go_enter Try.func31, Try.ntmps31
    go_wp2
    exact bodyPost_ret (v := .tuple #[.agg #[.bool _, .int .i64 (a : Nat)], .int .i64 0]) (by simp [results, Try.results31, go_sem]) rfl ⟨rfl, (Below.refl _ _).alloc (Nat.le_refl _) _⟩
set_option maxHeartbeats 400000 in
theorem carried_no (k x : Int) (w : World) (h : ¬ (k = 2048 ∨ k = 34525)) :
    Calls Try.prog 31 #[.int .u16 k, .int .i64 x] w fun e w' => e = .returned (.tuple #[.agg #[.bool false, .int .i64 0], .int .i64 2]) ∧ Below w.heap.size w w' := by
  have h1 : (k != 2048) = true := by simp; omega
  have h2 : (k != 34525) = true := by simp; omega
  clear h
  go_enter Try.func31, Try.ntmps31
  go_wp2
  exact bodyPost_ret (v := .tuple #[.agg #[.bool false, .int .i64 0], .int .i64 2]) (by simp [results, Try.results31, go_sem]) rfl ⟨rfl, (Below.refl _ _).alloc (Nat.le_refl _) _⟩

set_option maxHeartbeats 400000 in
theorem two_any (A : Option Addr) (n c : Nat) (bs : List Int) (x : Int) (p : Nat) (w : World) (hx : x = p) (h : Byts w A n bs) (ho : Octs bs) (hp : p + 2 ≤ n) (hn : n ≤ 9223372036854775807) :
    Calls Try.prog 35 #[.slice A n c, .int .i64 x] w fun e w' => e = .returned (.int .i64 (ty bs p)) ∧ w.drew = w' := by
  subst hx
  obtain ⟨ad, rfl, hc⟩ := h.2 (by omega)
  have hc0 := hc p (by omega)
  have hc1 : w.cell? ⟨ad.block, ad.off + (p + 1), none⟩ = some (.int .u8 (bs.getD (p + 1) 0)) := by simpa [Addr.add] using hc (p + 1) (by omega)
  have hp0 : p < n := by omega
  have hp1 : p + 1 < n := by omega
  have b0 := ho.at_ p
  have b1 := ho.at_ (p + 1)
  have HT : Hid (bs.getD p 0 * 256 + bs.getD (p + 1) 0 = ty bs p) := (rfl : _ = _)
  clear h ho hc
  generalize bs.getD p 0 = u at *
  generalize bs.getD (p + 1) 0 = v at *
  go_enter Try.func35, Try.ntmps35
  go_wp2
  go_region
  go_wp2
  go_ret
  exact ⟨ret_int HT.out, rfl⟩
end Go.Proofs.Ytebpemknmcgamaa.ether
