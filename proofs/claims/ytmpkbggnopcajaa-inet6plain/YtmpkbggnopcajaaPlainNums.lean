/- A packet without more heads: plain lists; parts of a struct and of an array as slices of bytes. Conditions: those of each theorem. -/
import Derived.Test.YtmpkbggnopcajaaCutNums
namespace Go.Proofs.Ytmpkbggnopcajaa
open Go.RowKit

/-- The first eight bytes. -/
def front (m : Nat) (p : Int) : List Int := [111, 1, 2, 3, (m : Int) / 256, (m : Int) % 256, p, 9]
def whole (m : Nat) (p : Int) (wh ls : List Int) : List Int := (front m p ++ wh) ++ ls
theorem whole_at {m : Nat} {p : Int} {wh ls : List Int} {j : Nat} (hj : j < 8) : (whole m p wh ls).getD j 0 = (front m p).getD j 0 := by
  unfold whole
  rw [List.append_assoc, getD_left (by simpa [front] using hj)]
theorem whole_tel {m : Nat} {p : Int} {wh ls : List Int} (hw : wh.length = 32) (hl : ls.length = m) (hm : m ≤ 300) (ht : tells p = false) :
    tel (whole m p wh ls) = (0, p, ls, true) ∧ sr (whole m p wh ls) 0 = wh.take 16 ∧ ds (whole m p wh ls) 0 = wh.drop 16 := by
  have e0 : (whole m p wh ls).getD 0 0 = 111 := whole_at (by omega)
  have e4 : (whole m p wh ls).getD 4 0 = (m : Int) / 256 := whole_at (by omega)
  have e5 : (whole m p wh ls).getD 5 0 = (m : Int) % 256 := whole_at (by omega)
  have e6 : (whole m p wh ls).getD 6 0 = p := whole_at (by omega)
  have hlen : (whole m p wh ls).length = 40 + m := by unfold whole front; simp; omega
  have hwd : wd (whole m p wh ls) 4 = m := by
    unfold wd
    rw [e4, show (4 + 1) = 5 from rfl, e5]
    omega
  have hwhy : why (whole m p wh ls) = 0 := by
    unfold why
    rw [hlen, e0, hwd, if_neg (by omega), if_neg (by decide), if_neg (by omega)]
  have h40 : (front m p ++ wh).length = 40 := by unfold front; simp; omega
  have hbe : behind (whole m p wh ls) = ls := by
    unfold behind
    rw [hwd, List.take_of_length_le (by omega)]
    unfold whole
    exact List.drop_left' h40
  refine ⟨?_, ?_, ?_⟩
  · unfold tel
    rw [if_pos hwhy, e6, hbe, goes_plain ht]
  · show adr _ 8 16 = _
    unfold adr whole
    rw [List.append_assoc, List.drop_left' (by rfl), List.take_append_of_le_length (by omega)]
    simp
  · show adr _ 24 16 = _
    unfold adr whole
    rw [List.append_assoc, show (24 : Nat) = 8 + 16 from rfl, ← List.drop_drop, List.drop_left' (by rfl), List.drop_append_of_le_length (by omega), List.take_append_of_le_length (by simp; omega), List.take_of_length_le (by simp; omega)]
    simp
theorem whole_octs {m : Nat} {p : Int} {wh ls : List Int} (hm : m ≤ 300) (h0 : 0 ≤ p) (h1 : p ≤ 255) (hw : Octs wh) (hl : Octs ls) : Octs (whole m p wh ls) := by
  refine (Octs.app ?_ hw).app hl
  intro z hz
  simp [front] at hz
  omega
theorem front_cel (m : Nat) (p : Int) : cel (front m p) = [.int .u8 111, .int .u8 1, .int .u8 2, .int .u8 3, .int .u8 ((m : Int) / 256), .int .u8 ((m : Int) % 256), .int .u8 p, .int .u8 9] := rfl
/-- An address in a struct, as a slice. -/
theorem Byts.src {w : World} {g : Nat} {t : TypeId} {p : Int} {s d : List Int} {B : Value} {f : Bool} (hs : Sixteen s) (h : Blk w g t (net p s d B f)) : Byts w (some ⟨g, 1, none⟩) 16 s :=
  ⟨hs, fun _ => ⟨_, rfl, fun k hk => by
    rw [Addr.add_at]
    exact net_src h k _ (cel_at s k (by unfold Sixteen at hs; omega))⟩⟩
theorem Byts.dst {w : World} {g : Nat} {t : TypeId} {p : Int} {s d : List Int} {B : Value} {f : Bool} (hs : Sixteen s) (hd : Sixteen d) (h : Blk w g t (net p s d B f)) : Byts w (some ⟨g, 17, none⟩) 16 d :=
  ⟨hd, fun _ => ⟨_, rfl, fun k hk => by
    rw [Addr.add_at]
    exact net_dst hs h k _ (cel_at d k (by unfold Sixteen at hd; omega))⟩⟩
end Go.Proofs.Ytmpkbggnopcajaa
