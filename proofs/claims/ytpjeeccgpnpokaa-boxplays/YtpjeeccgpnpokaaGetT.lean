/- The contracts of table's Get and New at box's stays. Conditions: those of each theorem. -/
import Derived.Test.YtpjeeccgpnpokaaDeleT
import Derived.Test.YtpjeeccgpnpokaaFindT
import Derived.Test.YtpjeeccgpnpokaaUntil
namespace Go.Proofs.Ytpjeeccgpnpokaa
open Go.RowKit

/-- What Put and Del leave. -/
def ActT (K : Kin Ent) (tS tE : TypeId) (g q n : Nat) (L' : List Ent) (v : Value) (w : World) (e : Ending) (w' : World) : Prop := e = .returned v ∧ TbAt K tS tE w' g q n L' ∧ Far (two g q) w w'
theorem size60 : (Try.prog.info? 60).map (·.size) = some 2 := by kernel_rfl
theorem stay_one (z : Int) (o : Option Addr) : [Value.int .i64 z, Value.pointer o].toArray.all (·.oneCell') = true := all_oneCell_toArray (by
  intro u hu
  simp only [List.mem_cons, List.not_mem_nil, or_false] at hu
  rcases hu with h | h <;> (rw [h]; rfl))
theorem below_set {w0 w : World} {B : Nat} {p : Addr} {v : Value} (h : Below B w0 w) (hp : B ≤ p.block) (hB : B ≤ w.heap.size) : Below B w0 (w.setCell p v) :=
  below_only h ((Far.refl (only p.block) w).set_ (fun _ => rfl) v) hp hB
/-- Two boxes more: a prefix, a stay of nobody. -/
theorem box_stay (p : Pre) (w : World) : Blk ((w.alloc (.cells p.cs.toArray 31)).alloc (.cells #[.int .i64 0, .pointer none] 60)) w.heap.size 31 p.cs ∧ Blk ((w.alloc (.cells p.cs.toArray 31)).alloc (.cells #[.int .i64 0, .pointer none] 60)) (w.heap.size + 1) 60 [.int .i64 0, .pointer none] ∧ Below w.heap.size w ((w.alloc (.cells p.cs.toArray 31)).alloc (.cells #[.int .i64 0, .pointer none] 60)) := by
  refine ⟨(Blk.new w 31 p.cs).alloc _, ?_, ((Below.refl _ w).alloc (Nat.le_refl _) _).alloc (by simp) _⟩
  have := Blk.new (w.alloc (.cells p.cs.toArray 31)) 60 [.int .i64 0, .pointer none]
  rwa [show (w.alloc (.cells p.cs.toArray 31)).heap.size = w.heap.size + 1 by simp] at this
/-- What Get answers. -/
def got (f : Pre → Nat) (L : List Ent) (p : Pre) : List Value := if has L p then sv f (at_ L (idx L p)) else [.int .i64 0, .pointer none]
set_option maxHeartbeats 1000000 in
theorem getT_no (f : Pre → Nat) (g q n : Nat) (L : List Ent) (p : Pre) (w : World) (h : TbAt (kSt f) 85 91 w g q n L) (ho : POks L) (hp : p.Ok) (hh : has L p = false) :
    Calls Try.prog 23 #[.pointer (some ⟨g, 0, none⟩), .agg p.cs.toArray] w (Ans (.tuple #[.agg #[.int .i64 0, .pointer none], .bool false]) w) := by
  obtain ⟨n0, n1, n2⟩ := box_stay p w
  have P1 := Lib.hid n0
  have Z1 := Lib.hid n1
  have W1 := Lib.hid n2
  have HF := Lib.hid (fun W (hW : Below w.heap.size w W) => findT_ f g q n L p W (h.below hW) ho hp)
  rw [hh] at HF
  clear h ho hp hh n0 n1 n2
  generalize plc L p = m at *
  go_enter Try.func23, Try.ntmps23
  go_upto_region 1 with fail
  generalize ((w.alloc (.cells p.cs.toArray 31)).alloc (.cells #[.int .i64 0, .pointer none] 60)) = x1 at *
  go_upto_region 3 with (first | (refine wpList_pre (by rfl) (.tmp 3) rfl _ _ rfl p (whole_at P1.out) ?_) | (go_at_call 34; (with_reducible refine (HF.out _ W1.out).mono ?_); rintro e x2 ⟨rfl, hb⟩; have W2 : Hid (Below w.heap.size w x2) := W1.out.trans (hb.mono W1.out.size); have Z2 := Lib.hid (Z1.out.below hb); clear hb))
  go_upto_region 4 with fail
  have hb3 : Below x2.heap.size x2 (x2.alloc (.cells #[.int .i64 0, .pointer none] 60)) := (Below.refl _ _).alloc (Nat.le_refl _) _
  have N3 := Lib.hid (Blk.new x2 60 [.int .i64 0, .pointer none])
  have W3 : Hid (Below w.heap.size w (x2.alloc (.cells #[.int .i64 0, .pointer none] 60))) := W2.out.trans (hb3.mono W2.out.size)
  have Z3 := Lib.hid (Z2.out.below hb3)
  have hz := W2.out.size
  clear hb3
  go_wp2_with (first | (refine wpList_loadE (by rfl) 60 _ Try.underlying60 rfl (.tmp 8) rfl x2.heap.size 0 rfl [.int .i64 0, .pointer none] (whole_at N3.out) size60 ?_) | (refine wpList_lay rfl 60 2 size60 (.tmp 4) (.tmp 17) rfl (w.heap.size + 1) [.int .i64 0, .pointer none] rfl rfl 60 _ Z3.out rfl rfl (stay_one _ _) ?_; intro x4 hB4 hF4; have W4 : Hid (Below w.heap.size w x4) := below_only W3.out hF4.out (Nat.le_succ _) W3.out.size; have c0 := hB4.out.cell 0; have c1 := hB4.out.cell 1; clear hB4 hF4))
  refine bodyPost_ret (v := .tuple #[.agg #[.int .i64 0, .pointer none], .bool false]) (by simp [results, Try.results23, go_sem, c0, c1]) rfl ?_
  exact ⟨rfl, W4.out⟩
set_option maxHeartbeats 1000000 in
theorem getT_yes (f : Pre → Nat) (g q n : Nat) (L : List Ent) (p : Pre) (w : World) (h : TbAt (kSt f) 85 91 w g q n L) (ho : POks L) (hp : p.Ok) (hh : has L p = true) (hu : (at_ L (idx L p)).u ≠ 0) :
    Calls Try.prog 23 #[.pointer (some ⟨g, 0, none⟩), .agg p.cs.toArray] w (Ans (.tuple #[.agg #[.int .i64 (at_ L (idx L p)).u, .pointer (some ⟨f p, 0, none⟩)], .bool true]) w) := by
  obtain ⟨n0, n1, n2⟩ := box_stay p w
  have P1 := Lib.hid n0
  have Z1 := Lib.hid n1
  have W1 := Lib.hid n2
  have HF := Lib.hid (fun W (hW : Below w.heap.size w W) => findT_ f g q n L p W (h.below hW) ho hp)
  have HC : Hid (∀ W, Below w.heap.size w W → W.cell? ⟨g, 0, none⟩ = some (.slice (some ⟨q, 0, none⟩) (L.length : Nat) n)) := fun W hW => (h.below hW).cells.1
  have hi := has_iff.1 hh
  have hpi := h.srt.plc_idx hh
  have HU : Hid (∀ W, Below w.heap.size w W → W.rangeAt q (idx L p * 10 + 8) [.int .i64 (at_ L (idx L p)).u, .pointer (some ⟨f p, 0, none⟩)]) := fun W hW => by
    have := els_val ((h.below hW).els) hi
    rw [sv_of f _ hu, idx_at hi, Nat.zero_add] at this
    exact this
  rw [hh, hpi] at HF
  clear h ho hp hh hpi hu n0 n1 n2
  generalize (at_ L (idx L p)).u = v at *
  generalize f p = t at *
  generalize idx L p = m at *
  generalize L.length = l at *
  go_enter Try.func23, Try.ntmps23
  go_upto_region 1 with fail
  generalize ((w.alloc (.cells p.cs.toArray 31)).alloc (.cells #[.int .i64 0, .pointer none] 60)) = x1 at *
  go_upto_region 5 with (first | (refine wpList_pre (by rfl) (.tmp 3) rfl _ _ rfl p (whole_at P1.out) ?_) | (go_at_call 34; (with_reducible refine (HF.out _ W1.out).mono ?_); rintro e x2 ⟨rfl, hb⟩; have W2 : Hid (Below w.heap.size w x2) := W1.out.trans (hb.mono W1.out.size); have Z2 := Lib.hid (Z1.out.below hb); clear hb))
  have c9 := HC.out _ W2.out
  go_wp2_with (first | (refine wpList_loadE (by rfl) 60 _ Try.underlying60 rfl (.tmp 24) rfl q (m * 10 + 8) rfl [.int .i64 v, .pointer (some ⟨t, 0, none⟩)] (HU.out _ W2.out) size60 ?_) | (refine wpList_lay rfl 60 2 size60 (.tmp 4) (.tmp 25) rfl (w.heap.size + 1) [.int .i64 v, .pointer (some ⟨t, 0, none⟩)] rfl rfl 60 _ Z2.out rfl rfl (stay_one _ _) ?_; intro x4 hB4 hF4; have W4 : Hid (Below w.heap.size w x4) := below_only W2.out hF4.out (Nat.le_succ _) W2.out.size; have c0 := hB4.out.cell 0; have c1 := hB4.out.cell 1; clear hB4 hF4))
  refine bodyPost_ret (v := .tuple #[.agg #[.int .i64 v, .pointer (some ⟨t, 0, none⟩)], .bool true]) (by simp [results, Try.results23, go_sem, c0, c1]) rfl ?_
  exact ⟨rfl, W4.out⟩
set_option maxHeartbeats 400000 in
theorem newT_bad (r : Int) (w : World) (h : ¬ (1 ≤ r ∧ r ≤ 64)) : Calls Try.prog 20 #[.int .i64 r] w (Ans (.tuple #[.pointer none, .int .i64 1]) w) := by
  go_enter Try.func20, Try.ntmps20
  by_cases h1 : r < 1
  · go_wp2
    refine bodyPost_ret (v := .tuple #[.pointer none, .int .i64 1]) (by simp [results, Try.results20]) rfl ?_
    exact ⟨rfl, Below.refl _ _⟩
  · have h2 : 64 < r := by omega
    go_wp2
    refine bodyPost_ret (v := .tuple #[.pointer none, .int .i64 1]) (by simp [results, Try.results20]) rfl ?_
    exact ⟨rfl, Below.refl _ _⟩
set_option maxRecDepth 100000 in
set_option maxHeartbeats 1000000 in
theorem newT_ (f : Pre → Nat) (n : Nat) (w : World) (h1 : 1 ≤ n) (h2 : n ≤ 64) : Calls Try.prog 20 #[.int .i64 (n : Int)] w fun e w' => ∃ g q, e = .returned (.tuple #[.pointer (some ⟨g, 0, none⟩), .int .i64 0]) ∧ TbAt (kSt f) 85 91 w' g q n [] ∧ w.heap.size ≤ g ∧ w.heap.size ≤ q ∧ Below w.heap.size w w' := by
  have hr := run_makeE (K := (kSt f)) usT (infoET f ) (by decide) (zeroT f ) n (by omega) w
  have B1 : Below w.heap.size w (w.alloc (.cells (((kSt f)).flat (zs n)).toArray 91)) := (Below.refl _ w).alloc (Nat.le_refl _) _
  have N1 := Blk.new w 91 (((kSt f)).flat (zs n))
  have hsz : (w.alloc (.cells (((kSt f)).flat (zs n)).toArray 91)).heap.size = w.heap.size + 1 := by simp
  generalize w.alloc (.cells (((kSt f)).flat (zs n)).toArray 91) = w1 at *
  have B2 : Below w.heap.size w (w1.alloc (.cells [.slice (some ⟨w.heap.size, 0, none⟩) 0 n, .int .i64 (n : Int)].toArray 85)) := B1.alloc B1.size _
  have N2 := Blk.new w1 85 [.slice (some ⟨w.heap.size, 0, none⟩) 0 n, .int .i64 (n : Int)]
  have FIN : Hid (∃ g q, Ending.returned (.tuple #[.pointer (some ⟨w.heap.size + 1, 0, none⟩), .int .i64 0]) = .returned (.tuple #[.pointer (some ⟨g, 0, none⟩), .int .i64 0]) ∧ TbAt (kSt f) 85 91 (w1.alloc (.cells [.slice (some ⟨w.heap.size, 0, none⟩) 0 n, .int .i64 (n : Int)].toArray 85)) g q n [] ∧ w.heap.size ≤ g ∧ w.heap.size ≤ q ∧ Below w.heap.size w (w1.alloc (.cells [.slice (some ⟨w.heap.size, 0, none⟩) 0 n, .int .i64 (n : Int)].toArray 85))) := by
    refine ⟨w.heap.size + 1, w.heap.size, rfl, ⟨?_, (by simpa using N1.alloc _), by omega, by simp, h1, h2, Srt.nil⟩, by omega, by omega, B2⟩
    rw [hsz] at N2
    exact N2
  have HR := Lib.hid hr
  have HZ := Lib.hid hsz
  clear hr B1 B2 N1 N2
  go_enter Try.func20, Try.ntmps20
  go_upto_region 3 with fail
  have hr := HR.out
  have hz := HZ.out
  go_wp2
  refine bodyPost_ret (v := .tuple #[.pointer (some ⟨w.heap.size + 1, 0, none⟩), .int .i64 0]) (by simp [results, Try.results20]) rfl ?_
  exact FIN.out
end Go.Proofs.Ytpjeeccgpnpokaa

