/- The program's table of numbers is what the laws want of one. No conditions. -/
import Derived.Test.YteddnbabgahhfaaOutI
namespace Go.Proofs.Yteddnbabgahhfaa
open Go.RowKit

def TabI : (Nat → Prop) → World → Nat → Int → List Ent → Prop := Tab kEnt 62 64
theorem putI_len {L : List Ent} {r : Int} {p : Pre} {v : Int} (h : (L.length : Int) ≤ r) : ((put L r p v).length : Int) ≤ r := put_length h
theorem progT : ProgT TabI where
  keep := fun b w w' g r L S ⟨q, n, hr, ht, hb⟩ hf hS => ⟨q, n, hr, ht.far hf (hS g ((hb g).2 (.inl rfl))) (hS q ((hb q).2 (.inr rfl))), hb⟩
  lt := fun b w g r L ⟨q, n, hr, ht, hb⟩ k hk => by
    rcases (hb k).1 hk with rfl | rfl
    · exact ht.lt.1
    · exact ht.lt.2
  bad := fun r w _ h => newI_bad r w h
  new := fun r w h1 h2 => by
    obtain ⟨n, rfl⟩ := Int.eq_ofNat_of_zero_le (show 0 ≤ r by omega)
    exact (newI_ n w (by omega) (by omega)).mono fun e w' ⟨g, q, he, ht, hg, hq, hbe⟩ => ⟨g, two g q, he, ⟨q, n, rfl, ht, fun _ => Iff.rfl⟩, fun k hk => by rcases hk with rfl | rfl <;> assumption, hbe⟩
  get := fun b w g r L p ⟨q, n, hr, ht, hb⟩ ho hp => getI_ g q n L p w ht ho hp
  len := fun b w g r L ⟨q, n, hr, ht, hb⟩ => lenI_ g q n L w ht
  all := fun b w g r L ⟨q, n, hr, ht, hb⟩ _ => allI_ g q n L w ht
  put := fun b w g r L p v ⟨q, n, hr, ht, hb⟩ ho hp _ => by
    subst hr
    exact (putI_ g q n L p v w ht ho hp).mono fun e w' ⟨he, ht', hf⟩ => ⟨he, b, ⟨q, n, rfl, ht', hb⟩, hf.mono (fun k hk => (hb k).2 hk), fun k hk => .inl hk⟩
  del := fun b w g r L p ⟨q, n, hr, ht, hb⟩ ho hp => by
    subst hr
    exact (delI_ g q n L p w ht ho hp).mono fun e w' ⟨he, ht', hf⟩ => ⟨he, b, ⟨q, n, rfl, ht', hb⟩, hf.mono (fun k hk => (hb k).2 hk), fun k hk => .inl hk⟩
  putNil := fun p v w _ _ => putI_nil p v w
  lenNil := fun w => lenI_nil w
  allNil := fun w => allI_nil w
  delNil := fun p w _ => delI_nil p w
end Go.Proofs.Yteddnbabgahhfaa
