/- The contracts of table's Get, Len and New. Conditions: those of each theorem. -/
import Derived.Test.YteddnbabgahhfaaRow
namespace Go.Proofs.Yteddnbabgahhfaa
open Go.RowKit

set_option maxHeartbeats 1000000 in
theorem getI_ (g q n : Nat) (L : List Ent) (p : Pre) (w : World) (h : TbAt kEnt 62 64 w g q n L) (ho : Oks L) (hp : p.Ok) :
    Calls Try.prog 14 #[.pointer (some ⟨g, 0, none⟩), .agg p.cs.toArray] w (Ans (.tuple #[(.int .i64 (val L p)), .bool (has L p)]) w) := by
  have P1 := Lib.hid (Blk.new w 31 p.cs)
  have W1 : Hid (Below w.heap.size w (w.alloc (.cells p.cs.toArray 31))) := (Below.refl _ w).alloc (Nat.le_refl _) _
  have HF := Lib.hid (fun W (hW : Below w.heap.size w W) => findI_ g q n L p W (h.below hW) ho hp)
  have HC : Hid (∀ W, Below w.heap.size w W → W.cell? ⟨g, 0, none⟩ = some (.slice (some ⟨q, 0, none⟩) (L.length : Nat) n)) := fun W hW => (h.below hW).cells.1
  rcases hh : has L p with _ | _
  · have hv : val L p = 0 := by simp [val, hh]
    rw [hv]
    rw [hh] at HF
    clear h ho hp hh hv
    generalize plc L p = m at *
    go_enter Try.func14, Try.ntmps14
    go_upto_region 1 with fail
    generalize (w.alloc (.cells p.cs.toArray 31)) = x1 at *
    go_wp2_with (first | (refine wpList_pre (by rfl) (.tmp 3) rfl _ _ rfl p (whole_at P1.out) ?_) | (go_at_call 27; (with_reducible refine (HF.out _ W1.out).mono ?_); rintro e x2 ⟨rfl, hb⟩; have W2 : Hid (Below w.heap.size w x2) := W1.out.trans (hb.mono W1.out.size); clear hb))
    refine bodyPost_ret (v := .tuple #[(Value.int .i64 0), .bool false]) (by simp [results, Try.results14] <;> rfl) rfl ?_
    exact ⟨rfl, W2.out⟩
  · have hi := has_iff.1 hh
    have hpi := h.srt.plc_idx hh
    have hv : val L p = (at_ L (idx L p)).v := by simp [val, hh]
    rw [hv]
    have HU : Hid (∀ W, Below w.heap.size w W → W.cell? ⟨q, idx L p * 9 + 8, none⟩ = some (.int .i64 ((at_ L (idx L p)).v))) := fun W hW => by
      have := els_val (K := kEnt) rfl ((h.below hW).els) hi (u := (.int .i64 ((at_ L (idx L p)).v))) rfl
      rwa [Nat.zero_add] at this
    rw [hh, hpi] at HF
    clear h ho hp hh hpi hv
    generalize (at_ L (idx L p)).v = v at *
    generalize idx L p = m at *
    generalize L.length = l at *
    go_enter Try.func14, Try.ntmps14
    go_upto_region 1 with fail
    generalize (w.alloc (.cells p.cs.toArray 31)) = x1 at *
    go_upto_region 5 with (first | (refine wpList_pre (by rfl) (.tmp 3) rfl _ _ rfl p (whole_at P1.out) ?_) | (go_at_call 27; (with_reducible refine (HF.out _ W1.out).mono ?_); rintro e x2 ⟨rfl, hb⟩; have W2 : Hid (Below w.heap.size w x2) := W1.out.trans (hb.mono W1.out.size); clear hb))
    have c0 := HC.out _ W2.out
    have c1 := HU.out _ W2.out
    go_wp2
    refine bodyPost_ret (v := .tuple #[(.int .i64 v), .bool true]) (by simp [results, Try.results14] <;> rfl) rfl ?_
    exact ⟨rfl, W2.out⟩
set_option maxHeartbeats 400000 in
theorem lenI_ (g q n : Nat) (L : List Ent) (w : World) (h : TbAt kEnt 62 64 w g q n L) : Calls Try.prog 10 #[.pointer (some ⟨g, 0, none⟩)] w (Ans (.int .i64 (L.length : Nat)) w) := by
  have c0 := h.cells.1
  clear h
  generalize L.length = l at *
  go_enter Try.func10, Try.ntmps10
  go_wp2
  go_ret
  exact ⟨rfl, Below.refl _ _⟩
set_option maxHeartbeats 400000 in
theorem lenI_nil (w : World) : Calls Try.prog 10 #[.pointer none] w (Ans (.int .i64 0) w) := by
  go_enter Try.func10, Try.ntmps10
  go_wp2
  go_ret
  exact ⟨rfl, Below.refl _ _⟩
set_option maxHeartbeats 400000 in
theorem newI_bad (r : Int) (w : World) (h : ¬ (1 ≤ r ∧ r ≤ 64)) : Calls Try.prog 8 #[.int .i64 r] w (Ans (.tuple #[.pointer none, .int .i64 1]) w) := by
  go_enter Try.func8, Try.ntmps8
  by_cases h1 : r < 1
  · go_wp2
    refine bodyPost_ret (v := .tuple #[.pointer none, .int .i64 1]) (by simp [results, Try.results8]) rfl ?_
    exact ⟨rfl, Below.refl _ _⟩
  · have h2 : 64 < r := by omega
    go_wp2
    refine bodyPost_ret (v := .tuple #[.pointer none, .int .i64 1]) (by simp [results, Try.results8]) rfl ?_
    exact ⟨rfl, Below.refl _ _⟩
set_option maxHeartbeats 400000 in
theorem newI_ (n : Nat) (w : World) (h1 : 1 ≤ n) (h2 : n ≤ 64) : Calls Try.prog 8 #[.int .i64 (n : Int)] w fun e w' => ∃ g q, e = .returned (.tuple #[.pointer (some ⟨g, 0, none⟩), .int .i64 0]) ∧ TbAt kEnt 62 64 w' g q n [] ∧ w.heap.size ≤ g ∧ w.heap.size ≤ q ∧ Below w.heap.size w w' := by
  have hr := run_makeE (K := kEnt) usI (infoEI ) (by decide) (zeroI ) n (by omega) w
  have B1 : Below w.heap.size w (w.alloc (.cells ((kEnt).flat (zs n)).toArray 64)) := (Below.refl _ w).alloc (Nat.le_refl _) _
  have N1 := Blk.new w 64 ((kEnt).flat (zs n))
  have hsz : (w.alloc (.cells ((kEnt).flat (zs n)).toArray 64)).heap.size = w.heap.size + 1 := by simp
  generalize w.alloc (.cells ((kEnt).flat (zs n)).toArray 64) = w1 at *
  have B2 : Below w.heap.size w (w1.alloc (.cells [.slice (some ⟨w.heap.size, 0, none⟩) 0 n, .int .i64 (n : Int)].toArray 62)) := B1.alloc B1.size _
  have N2 := Blk.new w1 62 [.slice (some ⟨w.heap.size, 0, none⟩) 0 n, .int .i64 (n : Int)]
  have FIN : Hid (∃ g q, Ending.returned (.tuple #[.pointer (some ⟨w.heap.size + 1, 0, none⟩), .int .i64 0]) = .returned (.tuple #[.pointer (some ⟨g, 0, none⟩), .int .i64 0]) ∧ TbAt kEnt 62 64 (w1.alloc (.cells [.slice (some ⟨w.heap.size, 0, none⟩) 0 n, .int .i64 (n : Int)].toArray 62)) g q n [] ∧ w.heap.size ≤ g ∧ w.heap.size ≤ q ∧ Below w.heap.size w (w1.alloc (.cells [.slice (some ⟨w.heap.size, 0, none⟩) 0 n, .int .i64 (n : Int)].toArray 62))) := by
    refine ⟨w.heap.size + 1, w.heap.size, rfl, ⟨?_, (by simpa using N1.alloc _), by omega, by simp, h1, h2, Srt.nil⟩, by omega, by omega, B2⟩
    rw [hsz] at N2
    exact N2
  have HR := Lib.hid hr
  have HZ := Lib.hid hsz
  clear hr B1 B2 N1 N2
  go_enter Try.func8, Try.ntmps8
  go_upto_region 3 with fail
  have hr := HR.out
  have hz := HZ.out
  go_wp2
  refine bodyPost_ret (v := .tuple #[.pointer (some ⟨w.heap.size + 1, 0, none⟩), .int .i64 0]) (by simp [results, Try.results8]) rfl ?_
  exact FIN.out
end Go.Proofs.Yteddnbabgahhfaa
