/- The contracts of the closures that blue hands to each: one bin turned. Conditions: those of each theorem. -/
import Derived.Test.YtedpikpknlaggaaEach
namespace Go.Proofs.Ytedpikpknlaggaa
open Go.RowKit

theorem setB_self (B : Bins) (l k : Nat) : setB B l k (B l k) = B := by
  funext i j
  unfold setB
  split
  · rename_i h; rw [h.1, h.2]
  · rfl
theorem setB_twice (B : Bins) (l k : Nat) (x y : Bin) : setB (setB B l k x) l k y = setB B l k y := by
  funext i j
  unfold setB
  split <;> rfl
theorem setB_at (B : Bins) (l k : Nat) (x : Bin) : setB B l k x l k = x := by simp [setB]
section
variable {w w' : World} {g s : Nat} {q : Nat → Nat} {V : Blu} {l k : Nat}
theorem BAt.set_ (h : BAt w g s q V) (hl : l < V.n) (x : Bin) (hx : x.Ok) (hf : Far (only (q l)) w w') (hb : Blk w' (q l) 60 (cel false (fun j => if j = k then x else V.B l j) V.m)) : BAt w' g s q (V.put (setB V.B l k x)) := by
  refine h.turn hl hf ?_ (fun i hi => ?_) (h.ok.B.set_ l k hx)
  · rw [show setB V.B l k x l = fun j => if j = k then x else V.B l j by funext j; simp [setB]]
    exact hb
  · funext j
    simp [setB, hi]
theorem BAt.bytes (h : BAt w g s q V) (hl : l < V.n) (hk : k < V.m) {v : Nat} (hv : v ≤ 4611686018427387904) :
    BAt (w.setCell ⟨q l, k * 3, none⟩ (.int .i64 (v : Nat))) g s q (V.put (setB V.B l k ⟨v, (V.B l k).p, (V.B l k).c⟩)) ∧ Far (only (q l)) w (w.setCell ⟨q l, k * 3, none⟩ (.int .i64 (v : Nat))) := by
  have hf : Far (only (q l)) w (w.setCell ⟨q l, k * 3, none⟩ (.int .i64 (v : Nat))) := (Far.refl (only (q l)) w).set_ (p := ⟨q l, k * 3, none⟩) (fun _ => rfl) _
  have hb := (h.2.2.1 l hl).set_ (k * 3) (.int .i64 (v : Nat))
  rw [cel_set_b hk] at hb
  exact ⟨h.set_ hl _ ⟨hv, (h.ok.B l k).p, (h.ok.B l k).c⟩ hf hb, hf⟩
theorem BAt.prob (h : BAt w g s q V) (hl : l < V.n) (hk : k < V.m) {v : Nat} (hv : v ≤ 65536) :
    BAt (w.setCell ⟨q l, k * 3 + 1, none⟩ (.int .i64 (v : Nat))) g s q (V.put (setB V.B l k ⟨(V.B l k).b, v, (V.B l k).c⟩)) ∧ Far (only (q l)) w (w.setCell ⟨q l, k * 3 + 1, none⟩ (.int .i64 (v : Nat))) := by
  have hf : Far (only (q l)) w (w.setCell ⟨q l, k * 3 + 1, none⟩ (.int .i64 (v : Nat))) := (Far.refl (only (q l)) w).set_ (p := ⟨q l, k * 3 + 1, none⟩) (fun _ => rfl) _
  have hb := (h.2.2.1 l hl).set_ (k * 3 + 1) (.int .i64 (v : Nat))
  rw [cel_set_1 hk] at hb
  exact ⟨h.set_ hl _ ⟨(h.ok.B l k).b, hv, (h.ok.B l k).c⟩ hf hb, hf⟩
theorem BAt.moment (h : BAt w g s q V) (hl : l < V.n) (hk : k < V.m) {v : Nat} (hv : v ≤ 4611686018427387903) :
    BAt (w.setCell ⟨q l, k * 3 + 2, none⟩ (.int .i64 (v : Nat))) g s q (V.put (setB V.B l k ⟨(V.B l k).b, (V.B l k).p, v⟩)) ∧ Far (only (q l)) w (w.setCell ⟨q l, k * 3 + 2, none⟩ (.int .i64 (v : Nat))) := by
  have hf : Far (only (q l)) w (w.setCell ⟨q l, k * 3 + 2, none⟩ (.int .i64 (v : Nat))) := (Far.refl (only (q l)) w).set_ (p := ⟨q l, k * 3 + 2, none⟩) (fun _ => rfl) _
  have hb := (h.2.2.1 l hl).set_ (k * 3 + 2) (.int .i64 (v : Nat))
  rw [cel_set_2 hk] at hb
  exact ⟨h.set_ hl _ ⟨(h.ok.B l k).b, (h.ok.B l k).p, hv⟩ hf hb, hf⟩
end
/-- What a closure leaves. -/
def BinOut (g s : Nat) (q : Nat → Nat) (V : Blu) (l k : Nat) (x : Bin) (w : World) (e : Ending) (w' : World) : Prop :=
  e = .returned (.tuple #[]) ∧ BAt w' g s q (V.put (setB V.B l k x)) ∧ Far (only (q l)) w w'
theorem plus_ (b n : Nat) (w : World) (hb : b ≤ 4611686018427387904) (hn : n ≤ 4611686018427387904) :
    Calls Try.prog 29 #[.slice (some ⟨w.heap.size, 0, none⟩) 2 2] (w.alloc (.cells #[.int .i64 (b : Nat), .int .i64 (n : Nat)] 2)).drew fun e w' => e = .returned (.int .i64 (min (b + n) 4611686018427387904 : Nat)) ∧ Below w.heap.size w w' :=
  (add2_any b n w.drew w.heap.size 2 rfl).mono fun e w' ⟨h1, h2⟩ => ⟨by
    rw [h1, sumF_two, cnt_id (by omega) (by omega), cnt_id (by omega) (by omega)]
    exact ret_int (by unfold addC; split <;> omega), h2 ▸ ((Below.refl _ w).drew.alloc (Nat.le_refl _) _)⟩

set_option maxHeartbeats 1000000 in
theorem putC_ (g s : Nat) (q : Nat → Nat) (V : Blu) (l k v n : Nat) (w : World) (h : BAt w g s q V) (hl : l < V.n) (hk : k < V.m) (hv : w.cell? ⟨v, 0, none⟩ = some (.int .i64 (n : Nat))) (hn : n ≤ 1073741824) :
    Calls Try.prog 28 #[.pointer (some ⟨q l, k * 3, none⟩), .pointer (some ⟨v, 0, none⟩)] w (BinOut g s q V l k (putB n (V.B l k)) w) := by
  have HQ := Lib.hid h
  obtain ⟨c0, _, _⟩ := h.bin hl hk
  have hb := (h.ok.B l k).b
  have HP := Lib.hid (fun W (hW : Below w.heap.size w W) => (h.below hW).bytes hl hk (v := min ((V.B l k).b + n) 4611686018427387904) (Nat.min_le_right _ _))
  have HC := Lib.hid (fun W (hW : Below w.heap.size w W) => (⟨((h.below hW).bin hl hk).1, (h.below hW).soft hl (k * 3)⟩ : W.cell? ⟨q l, k * 3, none⟩ = some (.int .i64 ((V.B l k).b : Nat)) ∧ W.frozen? ⟨q l, k * 3, none⟩ = false))
  have HA := Lib.hid (fun W => plus_ (V.B l k).b n W hb (by omega))
  rw [show putB n (V.B l k) = ⟨min ((V.B l k).b + n) 4611686018427387904, (V.B l k).p, (V.B l k).c⟩ from rfl]
  clear h hl hk hn HQ
  generalize min ((V.B l k).b + n) 4611686018427387904 = z at *
  generalize (V.B l k).b = b at *
  generalize (V.B l k).p = p at *
  generalize (V.B l k).c = c at *
  go_enter Try.func28, Try.ntmps28
  go_region_with (go_at_call 29; (with_reducible refine (HA.out _).mono ?_); rintro e w2 ⟨rfl, hb2⟩; have W2 : Hid (Below w.heap.size w w2) := hb2; obtain ⟨d0, f0⟩ := HC.out _ hb2; clear hb2)
  all_goals
    go_wp2_with fail
    go_end0
    have hp := HP.out _ W2.out
    exact ⟨rfl, hp.1, (Far.of_below W2.out _).trans hp.2 (fun _ _ e => e)⟩
set_option maxHeartbeats 1000000 in
theorem takeC_ (g s : Nat) (q : Nat → Nat) (V : Blu) (l k v n : Nat) (w : World) (h : BAt w g s q V) (hl : l < V.n) (hk : k < V.m) (hv : w.cell? ⟨v, 0, none⟩ = some (.int .i64 (n : Nat))) (hn : n ≤ 1073741824) :
    Calls Try.prog 34 #[.pointer (some ⟨q l, k * 3, none⟩), .pointer (some ⟨v, 0, none⟩)] w (BinOut g s q V l k (takeB n (V.B l k)) w) := by
  have hb := (h.ok.B l k).b
  obtain ⟨c0, _, _⟩ := h.bin hl hk
  have f0 := h.soft hl (k * 3)
  have HP := Lib.hid (h.bytes hl hk (v := (V.B l k).b - n) (by omega))
  have HA := Lib.hid (fun W => sub_ (V.B l k).b n W hb (by omega))
  rw [show takeB n (V.B l k) = ⟨(V.B l k).b - n, (V.B l k).p, (V.B l k).c⟩ from rfl]
  clear h hl hk hn
  generalize (V.B l k).b - n = z at *
  generalize (V.B l k).b = b at *
  generalize (V.B l k).p = p at *
  generalize (V.B l k).c = c at *
  go_enter Try.func34, Try.ntmps34
  go_region_with (go_at_call 35; (with_reducible refine (HA.out _).mono ?_); rintro e w2 ⟨rfl, rfl⟩)
  all_goals
    go_wp2_with fail
    go_end0
    have hp := HP.out
    exact ⟨rfl, hp.1.drew, hp.2.drew⟩
end Go.Proofs.Ytedpikpknlaggaa
