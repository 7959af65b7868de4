/- The program's Parse, Key and Prefix are what the laws want of them. No conditions. -/
import Derived.Test.YtebpemknmcgamaaProgParse
import Derived.Test.YtebpemknmcgamaaAwake
namespace Go.Proofs.Ytebpemknmcgamaa
open Go.RowKit

theorem prog : Prog where
  parse := fun A n c r bs P w h ho hm hc hP => progParse_any A n c r bs P w h ho hm hc hP
  key := fun v p s d a b w hs hd _ _ _ ha hb => (progKey_any v p s d a b w hs hd ha hb).mono fun _ _ h => h.rd
  pref := fun v p s d a b w hs _ _ _ _ _ _ => progPrefix_any v p s d a b w hs
end Go.Proofs.Ytebpemknmcgamaa
