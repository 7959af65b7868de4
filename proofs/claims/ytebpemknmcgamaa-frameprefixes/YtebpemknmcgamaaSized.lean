/- What the form's own reach says of a slice of integers that comes in; such a slice as bytes. Conditions: those of each theorem. -/
import Derived.Test.YtebpemknmcgamaaAwake
import Derived.SizedLaws
import Derived.OpenShut
namespace Go.Proofs.Ytebpemknmcgamaa
open Go.ChangeShapes Go.WideShapes Go.ChangeAt Go.RowKit

theorem sized_len {H : Type} {enc : TypeId × Value → H} {P : Program} {w : World} {base : Nat} {spare : Nat → Bool} {held : Bool} {ts : List TypeId} {ds : List (DataW H)} (hsz : (DataW.weightsEach P ts ds).all (· ≤ reachBytes) = true)
    {j : Nat} {t e : TypeId} {k : IntKind} {a : Option Addr} {len cap : Nat} {d : DataW H} {p : List MemPlace} (ht : ts[j]? = some t) (hd : ds[j]? = some d) (hu : P.underlying t = some (.slice e)) (he : P.underlying e = some (.int k))
    (hc : P.cellsOf e = 1) (h : DataW.Trod enc P w base spare held t (.slice a len cap) d p) : len * P.bytesOf e ≤ reachBytes := by
  obtain ⟨fuel, hf⟩ := h
  rcases open_ints hu he hc hf with ⟨hcs, _⟩ | ⟨x, l, c, zs, hcs, _, hl, _, hz, hx, _, _⟩
  · simp [Value.cells] at hcs
    obtain ⟨_, rfl, _⟩ := hcs
    simp
  · simp [Value.cells] at hcs
    obtain ⟨rfl, rfl, rfl⟩ := hcs
    injection hx with hx _
    subst hx
    have h := sized_slice hsz ht hd hu
    refine Nat.le_trans (Nat.mul_le_mul_right _ ?_) h
    simp only [lits, List.length_map, List.length_take, List.length_drop]
    have : len ≤ zs.length := by rw [hz]; split <;> omega
    omega
theorem bytes5 : Try.prog.bytesOf 5 = 1 := by kernel_rfl
theorem reach5 {n : Nat} (h : n * Try.prog.bytesOf 5 ≤ reachBytes) : n ≤ 140737488355328 := by
  rw [bytes5] at h
  have := reachBytes_lt
  omega

/-- A slice of bytes that came in, as 'IsRow' of a shell tells it. -/
theorem row_byts {w : World} {a : Option Addr} {len cap : Nat} {zs : List Int} (h : (a = none ∧ len = 0 ∧ cap = 0 ∧ zs = []) ∨
    ∃ x, a = some x ∧ len ≤ cap ∧ cap ≤ maxLen ∧ zs.length = cap ∧ (∀ i, i < zs.length → w.cell? (x.add i) = some (.int .u8 (zs.getD i 0))) ∧ ∀ n ∈ zs, (Lit.int .u8 n).wf = true) :
    len ≤ cap ∧ len ≤ 9223372036854775807 ∧ Byts w a len (zs.take len) ∧ Octs (zs.take len) := by
  rcases h with ⟨rfl, rfl, rfl, rfl⟩ | ⟨x, rfl, hl, hm, hz, hc, hw⟩
  · exact ⟨Nat.le_refl _, by decide, Byts.none_, Octs.nil⟩
  · refine ⟨hl, by unfold maxLen at hm; omega, ⟨by simp; omega, fun _ => ⟨x, rfl, fun k hk => ?_⟩⟩, fun z h => ?_⟩
    · rw [hc k (by omega)]
      simp [List.getD_eq_getElem?_getD, hk]
    · have := bounds_u8 (hw z (List.mem_of_mem_take h))
      omega
end Go.Proofs.Ytebpemknmcgamaa
