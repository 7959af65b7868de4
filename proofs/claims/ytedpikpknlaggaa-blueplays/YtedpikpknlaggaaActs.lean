/- The contracts of blue's Put, Take, Touch and Mark. Conditions: those of each theorem. -/
import Derived.Test.YtedpikpknlaggaaTouch
namespace Go.Proofs.Ytedpikpknlaggaa
open Go.RowKit

set_option maxHeartbeats 400000 in
theorem touchC_ (g s : Nat) (q : Nat → Nat) (V : Blu) (l k a b T : Nat) (w : World) (h : BAt w g s q V) (hl : l < V.n) (hk : k < V.m) (ha : w.cell? ⟨a, 0, none⟩ = some (.pointer (some ⟨g, 0, none⟩))) (hb : w.cell? ⟨b, 0, none⟩ = some (.int .i64 (T : Nat))) (hT : T ≤ 4611686018427387903) :
    Calls Try.prog 37 #[.pointer (some ⟨q l, k * 3, none⟩), .pointer (some ⟨a, 0, none⟩), .pointer (some ⟨b, 0, none⟩)] w (BinOut g s q V l k (touchB V.t V.h V.u V.d T (V.B l k)) w) := by
  have HC := Lib.hid (touch_ g s q V l k T w h hl hk hT)
  clear h hl hk hT
  go_enter Try.func37, Try.ntmps37
  go_wp2_with (go_at_call 38; (with_reducible refine HC.out.mono ?_); rintro e w2 ⟨rfl, h2, h3⟩; have H2 := Lib.hid h2; have H3 := Lib.hid h3; clear h2 h3)
  go_end0
  exact ⟨rfl, H2.out, H3.out⟩
set_option maxHeartbeats 400000 in
theorem markC_ (g s : Nat) (q : Nat → Nat) (V : Blu) (l k v a : Nat) (w : World) (h : BAt w g s q V) (hl : l < V.n) (hk : k < V.m) (hv : Blk w v 3 [.int .i64 (a : Nat)]) :
    Calls Try.prog 30 #[.pointer (some ⟨q l, k * 3, none⟩), .pointer (some ⟨v, 0, none⟩)] w fun e w' => e = .returned (.tuple #[]) ∧ Blk w' v 3 [.int .i64 (min a (V.B l k).p : Nat)] ∧ Far (only v) w w' := by
  have c1 := (h.bin hl hk).2.1
  have hz : min (a : Int) ((V.B l k).p : Int) = (min a (V.B l k).p : Nat) := by omega
  have c0 : w.cell? ⟨v, 0, none⟩ = some (.int .i64 (a : Nat)) := hv.cell 0
  have f0 := hv.frozen 0
  have HS : Hid (Blk (w.setCell ⟨v, 0, none⟩ (.int .i64 (min a (V.B l k).p : Nat))) v 3 [.int .i64 (min a (V.B l k).p : Nat)]) := hv.set_ 0 _
  have HF : Hid (Far (only v) w (w.setCell ⟨v, 0, none⟩ (.int .i64 (min a (V.B l k).p : Nat)))) := (Far.refl (only v) w).set_ (p := ⟨v, 0, none⟩) (fun _ => rfl) _
  clear h hl hk hv
  generalize min a (V.B l k).p = z at *
  generalize (V.B l k).p = p at *
  go_enter Try.func30, Try.ntmps30
  go_region
  all_goals
    go_wp2_with fail
    go_end0
    exact ⟨rfl, HS.out.drew, HF.out.drew⟩

/-- Where each stands behind j levels. -/
structure Ran (f : Bin → Bin) (g s : Nat) (q : Nat → Nat) (V : Blu) (A : Option Addr) (nb : Nat) (xs : List Int) (w : World) (j : Nat) (W : World) : Prop where
  at_ : BAt W g s q (V.put (upd f xs j V.B))
  far : Far (own V.n g q) w W
  ints : Ints W A nb xs
/-- A slice that lies apart. -/
def Apart (n g : Nat) (q : Nat → Nat) (nb : Nat) (A : Option Addr) : Prop := 0 < nb → ∀ ad, A = some ad → ¬ own n g q ad.block
section
variable {f : Bin → Bin} {g s nb j : Nat} {q : Nat → Nat} {V : Blu} {A : Option Addr} {xs : List Int} {w W W' : World} {e : Ending}
theorem Ran.start (h : BAt W g s q V) (hf : Far (own V.n g q) w W) (hi : Ints W A nb xs) : Ran f g s q V A nb xs w 0 W := ⟨by rw [upd_zero, put_self]; exact h, hf, hi⟩
theorem Ran.next (h : Ran f g s q V A nb xs w j W) (hj : j < V.n) (ha : Apart V.n g q nb A) (hb : BinOut g s q (V.put (upd f xs j V.B)) j (binOf xs j) (f (upd f xs j V.B j (binOf xs j))) W e W') :
    e = .returned (.tuple #[]) ∧ Ran f g s q V A nb xs w (j + 1) W' ∧ Far (own V.n g q) W W' := by
  obtain ⟨h1, h2, h3⟩ := hb
  have h4 : Far (own V.n g q) W W' := h3.mono fun i e => .inr ⟨j, hj, e⟩
  rw [put_put, show (V.put (upd f xs j V.B)).B = upd f xs j V.B from rfl, upd_succ] at h2
  exact ⟨h1, ⟨h2, h.far.trans h4 (fun _ _ e => e), h.ints.far h4 ha⟩, h4⟩
end
theorem own_not {n g v : Nat} {q : Nat → Nat} (hg : g < v) (hq : ∀ l, l < n → q l < v) : ¬ own n g q v := by
  rintro (rfl | ⟨l, hl, rfl⟩)
  · omega
  · have := hq l hl; omega
/-- What Put, Take and Touch answer. -/
def ActOut (g s : Nat) (q : Nat → Nat) (V' : Blu) (n : Nat) (b : Bool) (w : World) (e : Ending) (w' : World) : Prop :=
  e = .returned (.bool b) ∧ BAt w' g s q V' ∧ Far (own n g q) w w'

set_option maxHeartbeats 1000000 in
theorem put_ (g s : Nat) (q : Nat → Nat) (V : Blu) (A : Option Addr) (nb cb : Nat) (xs : List Int) (x : Int) (w : World) (h : BAt w g s q V) (hi : Ints w A nb xs) (hnb : nb ≤ 1000000) (ha : Apart V.n g q nb A) :
    Calls Try.prog 11 #[.pointer (some ⟨g, 0, none⟩), .slice A nb cb, .int .i64 x] w (ActOut g s q (putV V xs x) V.n (isz x && flow V.n V.m xs) w) := by
  have HB : Hid (Below w.heap.size w (w.alloc (.cells #[.int .i64 x] 2))) := (Below.refl _ w).alloc (Nat.le_refl _) _
  have HF := Lib.hid (Far.of_below HB.out (own V.n g q))
  have H1 := Lib.hid (h.below HB.out)
  have I1 := Lib.hid (hi.below HB.out)
  rcases hz : isz x with _ | _
  · rw [show putV V xs x = V by simp [putV, hz]]
    clear h hi
    go_enter Try.func11, Try.ntmps11
    go_wp2_with (go_at_call 26; (with_reducible refine (isBytes_ _ _).mono ?_); rintro e w' ⟨rfl, rfl⟩; rw [hz])
    go_ret
    exact ⟨rfl, H1.out, HF.out⟩
  · rcases hf : flow V.n V.m xs with _ | _
    · rw [show putV V xs x = V by simp [putV, hf]]
      clear h hi
      go_enter Try.func11, Try.ntmps11
      go_wp2_with (first | (go_at_call 26; (with_reducible refine (isBytes_ _ _).mono ?_); rintro e w' ⟨rfl, rfl⟩; rw [hz]) | (go_at_call 27; (with_reducible refine (each_not g s q V A nb cb xs _ _ H1.out I1.out hnb hf).mono ?_); rintro e w' ⟨rfl, rfl⟩))
      go_ret
      exact ⟨rfl, H1.out, HF.out⟩
    · rw [show putV V xs x = V.put (upd (putB x.toNat) xs V.n V.B) by simp [putV, hz, hf]]
      obtain ⟨n, rfl, hn⟩ : ∃ n : Nat, x = n ∧ n ≤ 1073741824 := by
        simp [isz] at hz
        exact ⟨x.toNat, by omega, by omega⟩
      have hv : ¬ own V.n g q w.heap.size := own_not h.lt.1 h.lt.2.2
      rw [Int.toNat_natCast]
      have HE := Lib.hid (each_ g s q V A nb cb xs 28 #[.pointer (some ⟨w.heap.size, 0, none⟩)] (fun j W => Ran (putB n) g s q V A nb xs w j W ∧ Blk W w.heap.size 2 [.int .i64 (n : Nat)]) _ (Try.call28) H1.out I1.out hnb hf
        ⟨Ran.start H1.out HF.out I1.out, Blk.new w 2 [.int .i64 (n : Nat)]⟩ (fun j W hI => ⟨⟨_, hI.1.at_⟩, hI.1.ints⟩)
        (fun j W hj hI => (putC_ g s q _ j (binOf xs j) w.heap.size n W hI.1.at_ hj (flow_at hf hj).2 (hI.2.cell 0) hn).mono fun e W' hb => by
          obtain ⟨r1, r2, r3⟩ := hI.1.next hj ha hb
          exact ⟨r1, r2, hI.2.far r3 hv⟩))
      clear h hi
      go_enter Try.func11, Try.ntmps11
      go_wp2_with (first | (go_at_call 26; (with_reducible refine (isBytes_ _ _).mono ?_); rintro e w' ⟨rfl, rfl⟩; rw [hz]) | (go_at_call 27; (with_reducible refine HE.out.mono ?_); rintro e w2 ⟨rfl, h2, _⟩; have H2 := Lib.hid h2; clear h2))
      go_ret
      exact ⟨rfl, H2.out.at_, H2.out.far⟩
set_option maxHeartbeats 1000000 in
theorem take_ (g s : Nat) (q : Nat → Nat) (V : Blu) (A : Option Addr) (nb cb : Nat) (xs : List Int) (x : Int) (w : World) (h : BAt w g s q V) (hi : Ints w A nb xs) (hnb : nb ≤ 1000000) (ha : Apart V.n g q nb A) :
    Calls Try.prog 16 #[.pointer (some ⟨g, 0, none⟩), .slice A nb cb, .int .i64 x] w (ActOut g s q (takeV V xs x) V.n (isz x && flow V.n V.m xs) w) := by
  have HB : Hid (Below w.heap.size w (w.alloc (.cells #[.int .i64 x] 2))) := (Below.refl _ w).alloc (Nat.le_refl _) _
  have HF := Lib.hid (Far.of_below HB.out (own V.n g q))
  have H1 := Lib.hid (h.below HB.out)
  have I1 := Lib.hid (hi.below HB.out)
  rcases hz : isz x with _ | _
  · rw [show takeV V xs x = V by simp [takeV, hz]]
    clear h hi
    go_enter Try.func16, Try.ntmps16
    go_wp2_with (go_at_call 26; (with_reducible refine (isBytes_ _ _).mono ?_); rintro e w' ⟨rfl, rfl⟩; rw [hz])
    go_ret
    exact ⟨rfl, H1.out, HF.out⟩
  · rcases hf : flow V.n V.m xs with _ | _
    · rw [show takeV V xs x = V by simp [takeV, hf]]
      clear h hi
      go_enter Try.func16, Try.ntmps16
      go_wp2_with (first | (go_at_call 26; (with_reducible refine (isBytes_ _ _).mono ?_); rintro e w' ⟨rfl, rfl⟩; rw [hz]) | (go_at_call 27; (with_reducible refine (each_not g s q V A nb cb xs _ _ H1.out I1.out hnb hf).mono ?_); rintro e w' ⟨rfl, rfl⟩))
      go_ret
      exact ⟨rfl, H1.out, HF.out⟩
    · rw [show takeV V xs x = V.put (upd (takeB x.toNat) xs V.n V.B) by simp [takeV, hz, hf]]
      obtain ⟨n, rfl, hn⟩ : ∃ n : Nat, x = n ∧ n ≤ 1073741824 := by
        simp [isz] at hz
        exact ⟨x.toNat, by omega, by omega⟩
      have hv : ¬ own V.n g q w.heap.size := own_not h.lt.1 h.lt.2.2
      rw [Int.toNat_natCast]
      have HE := Lib.hid (each_ g s q V A nb cb xs 34 #[.pointer (some ⟨w.heap.size, 0, none⟩)] (fun j W => Ran (takeB n) g s q V A nb xs w j W ∧ Blk W w.heap.size 2 [.int .i64 (n : Nat)]) _ (Try.call34) H1.out I1.out hnb hf
        ⟨Ran.start H1.out HF.out I1.out, Blk.new w 2 [.int .i64 (n : Nat)]⟩ (fun j W hI => ⟨⟨_, hI.1.at_⟩, hI.1.ints⟩)
        (fun j W hj hI => (takeC_ g s q _ j (binOf xs j) w.heap.size n W hI.1.at_ hj (flow_at hf hj).2 (hI.2.cell 0) hn).mono fun e W' hb => by
          obtain ⟨r1, r2, r3⟩ := hI.1.next hj ha hb
          exact ⟨r1, r2, hI.2.far r3 hv⟩))
      clear h hi
      go_enter Try.func16, Try.ntmps16
      go_wp2_with (first | (go_at_call 26; (with_reducible refine (isBytes_ _ _).mono ?_); rintro e w' ⟨rfl, rfl⟩; rw [hz]) | (go_at_call 27; (with_reducible refine HE.out.mono ?_); rintro e w2 ⟨rfl, h2, _⟩; have H2 := Lib.hid h2; clear h2))
      go_ret
      exact ⟨rfl, H2.out.at_, H2.out.far⟩
set_option maxHeartbeats 1000000 in
theorem bTouch_ (g s : Nat) (q : Nat → Nat) (V : Blu) (A : Option Addr) (nb cb : Nat) (xs : List Int) (x : Int) (w : World) (h : BAt w g s q V) (hi : Ints w A nb xs) (hnb : nb ≤ 1000000) (ha : Apart V.n g q nb A) :
    Calls Try.prog 17 #[.pointer (some ⟨g, 0, none⟩), .slice A nb cb, .int .i64 x] w (ActOut g s q (touchV V xs x) V.n (flow V.n V.m xs) w) := by
  have HB : Hid (Below w.heap.size w ((w.alloc (.cells #[.pointer (some ⟨g, 0, none⟩)] 27)).alloc (.cells #[.int .i64 (asT x : Nat)] 2))) := ((Below.refl _ w).alloc (Nat.le_refl _) _).alloc (by simp) _
  have HF := Lib.hid (Far.of_below HB.out (own V.n g q))
  have H1 := Lib.hid (h.below HB.out)
  have I1 := Lib.hid (hi.below HB.out)
  have K1 : Hid (Blk ((w.alloc (.cells #[.pointer (some ⟨g, 0, none⟩)] 27)).alloc (.cells #[.int .i64 (asT x : Nat)] 2)) w.heap.size 27 [.pointer (some ⟨g, 0, none⟩)]) := (Blk.new w 27 [.pointer (some ⟨g, 0, none⟩)]).alloc _
  have K2 : Hid (Blk ((w.alloc (.cells #[.pointer (some ⟨g, 0, none⟩)] 27)).alloc (.cells #[.int .i64 (asT x : Nat)] 2)) (w.heap.size + 1) 2 [.int .i64 (asT x : Nat)]) := by
    have := Blk.new (w.alloc (.cells #[.pointer (some ⟨g, 0, none⟩)] 27)) 2 [.int .i64 (asT x : Nat)]
    rw [show (w.alloc (.cells #[.pointer (some ⟨g, 0, none⟩)] 27)).heap.size = w.heap.size + 1 by simp] at this
    exact this
  have hT := asT_le x
  have HA := Lib.hid (fun W => asTime_ x W)
  rcases hf : flow V.n V.m xs with _ | _
  · rw [show touchV V xs x = V by simp [touchV, hf]]
    clear h hi
    generalize asT x = T at *
    go_enter Try.func17, Try.ntmps17
    go_wp2_with (first | (go_at_call 36; (with_reducible refine (HA.out _).mono ?_); rintro e w' ⟨rfl, rfl⟩) | (go_at_call 27; (with_reducible refine (each_not g s q V A nb cb xs _ _ H1.out I1.out hnb hf).mono ?_); rintro e w' ⟨rfl, rfl⟩))
    go_ret
    exact ⟨rfl, H1.out, HF.out⟩
  · rw [show touchV V xs x = V.put (upd (touchB V.t V.h V.u V.d (asT x)) xs V.n V.B) by simp [touchV, hf]]
    have hv : ¬ own V.n g q w.heap.size := own_not h.lt.1 h.lt.2.2
    have hv2 : ¬ own V.n g q (w.heap.size + 1) := own_not (by have := h.lt.1; omega) (fun l hl => by have := h.lt.2.2 l hl; omega)
    have HE := Lib.hid (each_ g s q V A nb cb xs 37 #[.pointer (some ⟨w.heap.size, 0, none⟩), .pointer (some ⟨w.heap.size + 1, 0, none⟩)] (fun j W => Ran (touchB V.t V.h V.u V.d (asT x)) g s q V A nb xs w j W ∧ Blk W w.heap.size 27 [.pointer (some ⟨g, 0, none⟩)] ∧ Blk W (w.heap.size + 1) 2 [.int .i64 (asT x : Nat)]) _ (Try.call37) H1.out I1.out hnb hf
      ⟨Ran.start H1.out HF.out I1.out, K1.out, K2.out⟩ (fun j W hI => ⟨⟨_, hI.1.at_⟩, hI.1.ints⟩)
      (fun j W hj hI => (touchC_ g s q _ j (binOf xs j) w.heap.size (w.heap.size + 1) (asT x) W hI.1.at_ hj (flow_at hf hj).2 (hI.2.1.cell 0) (hI.2.2.cell 0) hT).mono fun e W' hb => by
        obtain ⟨r1, r2, r3⟩ := hI.1.next hj ha hb
        exact ⟨r1, r2, hI.2.1.far r3 hv, hI.2.2.far r3 hv2⟩))
    clear h hi
    generalize asT x = T at *
    go_enter Try.func17, Try.ntmps17
    go_wp2_with (first | (go_at_call 36; (with_reducible refine (HA.out _).mono ?_); rintro e w' ⟨rfl, rfl⟩) | (go_at_call 27; (with_reducible refine HE.out.mono ?_); rintro e w2 ⟨rfl, h2, _⟩; have H2 := Lib.hid h2; clear h2))
    go_ret
    exact ⟨rfl, H2.out.at_, H2.out.far⟩
set_option maxHeartbeats 1000000 in
theorem mark_ (g s : Nat) (q : Nat → Nat) (V : Blu) (A : Option Addr) (nb cb : Nat) (xs : List Int) (w : World) (h : BAt w g s q V) (hi : Ints w A nb xs) (hnb : nb ≤ 1000000) :
    Calls Try.prog 12 #[.pointer (some ⟨g, 0, none⟩), .slice A nb cb] w fun e w' => e = .returned (.int .i64 (markV V xs : Nat)) ∧ Below w.heap.size w w' := by
  have B1 : Below w.heap.size w (w.alloc (.cells #[.int .i64 65536] 3)) := (Below.refl _ w).alloc (Nat.le_refl _) _
  have H1 := Lib.hid (h.below B1)
  have I1 := Lib.hid (hi.below B1)
  have HB := Lib.hid B1
  clear B1
  rcases hf : flow V.n V.m xs with _ | _
  · rw [show markV V xs = 0 by simp [markV, hf]]
    clear h hi
    go_enter Try.func12, Try.ntmps12
    go_wp2_with (go_at_call 27; (with_reducible refine (each_not g s q V A nb cb xs _ _ H1.out I1.out hnb hf).mono ?_); rintro e w' ⟨rfl, rfl⟩)
    go_ret
    exact ⟨rfl, HB.out⟩
  · rw [show markV V xs = mk V.B xs V.n by simp [markV, hf]]
    have HE := Lib.hid (each_ g s q V A nb cb xs 30 #[.pointer (some ⟨w.heap.size, 0, none⟩)] (fun j W => Blk W w.heap.size 3 [.int .i64 (mk V.B xs j : Nat)] ∧ Below w.heap.size w W) _ (Try.call30) H1.out I1.out hnb hf
      ⟨Blk.new w 3 [.int .i64 65536], HB.out⟩ (fun j W hI => ⟨⟨V.B, h.below hI.2⟩, hi.below hI.2⟩)
      (fun j W hj hI => (markC_ g s q V j (binOf xs j) w.heap.size _ W (h.below hI.2) hj (flow_at hf hj).2 hI.1).mono fun e W' ⟨r1, r2, r3⟩ => ⟨r1, r2, hI.2.trans (r3.below hI.2.size (fun k hk e => by have : k = w.heap.size := e; omega))⟩))
    clear h hi
    go_enter Try.func12, Try.ntmps12
    go_wp2_with (go_at_call 27; (with_reducible refine HE.out.mono ?_); rintro e w2 ⟨rfl, h2, h3⟩; have H2 := Lib.hid h3; have c0 := h2.cell 0; clear h2 h3)
    go_ret
    exact ⟨rfl, H2.out⟩
set_option maxHeartbeats 400000 in
theorem put_nil (A : Option Addr) (nb cb : Nat) (x : Int) (w : World) : Calls Try.prog 11 #[.pointer none, .slice A nb cb, .int .i64 x] w fun e w' => e = .returned (.bool false) ∧ Below w.heap.size w w' := by
  have HB : Hid (Below w.heap.size w (w.alloc (.cells #[.int .i64 x] 2))) := (Below.refl _ w).alloc (Nat.le_refl _) _
  rcases hz : isz x with _ | _
  all_goals
    go_enter Try.func11, Try.ntmps11
    go_wp2_with (first | (go_at_call 26; (with_reducible refine (isBytes_ _ _).mono ?_); rintro e w' ⟨rfl, rfl⟩; rw [hz]) | (go_at_call 27; (with_reducible refine (each_nil _ _ _ _ _).mono ?_); rintro e w' ⟨rfl, rfl⟩))
    go_ret
    exact ⟨rfl, HB.out⟩
set_option maxHeartbeats 400000 in
theorem mark_nil (A : Option Addr) (nb cb : Nat) (w : World) : Calls Try.prog 12 #[.pointer none, .slice A nb cb] w fun e w' => e = .returned (.int .i64 0) ∧ Below w.heap.size w w' := by
  have HB : Hid (Below w.heap.size w (w.alloc (.cells #[.int .i64 65536] 3))) := (Below.refl _ w).alloc (Nat.le_refl _) _
  go_enter Try.func12, Try.ntmps12
  go_wp2_with (go_at_call 27; (with_reducible refine (each_nil _ _ _ _ _).mono ?_); rintro e w' ⟨rfl, rfl⟩)
  go_ret
  exact ⟨rfl, HB.out⟩
end Go.Proofs.Ytedpikpknlaggaa
