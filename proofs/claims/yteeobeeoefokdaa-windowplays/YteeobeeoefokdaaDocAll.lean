/- The contract of the document's Add of a window, all ways together. Conditions: those of each theorem. -/
import Derived.Test.YteeobeeoefokdaaDocWin
namespace Go.Proofs.Yteeobeeoefokdaa
open Go.RowKit

theorem dwadd_ (A : Option Addr) (c : Nat) (V : Wn) (p : Pre) (x y : Int) (w : World) (h : LAt A V.L w) (ho : Oks V.L) (hp : p.Ok) (hl : V.L.length ≤ V.M) (h1 : 1 ≤ V.M) (h64 : V.M ≤ 64) (hns : 1 ≤ V.ns) (hno : 0 ≤ V.no) :
    Calls Try.prog 14 #[docw A V.L.length c V, .int .i64 x, .agg p.cs.toArray, .int .i64 y] w (DWOut ((V.to x).cnt p y) ((V.to x).hvy p y) w) := by
  by_cases hc : x ≤ 4611686018427387903
  · by_cases hx : x ≤ 0
    · have e : V.to x = V := to_same (by
        have : tm x = 0 := by unfold tm; omega
        rw [this, Int.zero_ediv]
        exact hno)
      rw [e]
      exact dwadd_early A c V p x y w h ho hp hl h1 h64 hns hc hx
    · have e : tm x = x := tm_id (by omega) hc
      by_cases hm : V.no < x / V.ns
      · rw [to_later (by rw [e]; exact hm), e]
        exact dwadd_moved A c V p x y w h ho hp hl h1 h64 hns hc (by omega) hm
      · rw [to_same (by rw [e]; omega)]
        exact dwadd_stays A c V p x y w h ho hp hl h1 h64 hns hc (by omega) (by omega)
  · have e : tm x = 4611686018427387903 := by unfold tm; omega
    by_cases hm : V.no < 4611686018427387903 / V.ns
    · rw [to_later (by rw [e]; exact hm), e]
      exact dwadd_cmoved A c V p x y w h ho hp hl h1 h64 hns (by omega) hm
    · rw [to_same (by rw [e]; omega)]
      exact dwadd_cstays A c V p x y w h ho hp hl h1 h64 hns (by omega) (by omega)
end Go.Proofs.Yteeobeeoefokdaa
