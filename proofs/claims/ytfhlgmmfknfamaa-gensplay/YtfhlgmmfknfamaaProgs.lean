/- What the laws want of the program's gens: a structure of premises; how the laws see it. No conditions. -/
import Derived.Test.YtfhlgmmfknfamaaSts
namespace Go.Proofs.Ytfhlgmmfknfamaa
open Go.RowKit

abbrev Gbl := (Nat → Prop) → World → Nat → St → Prop
/-- What an act leaves. -/
def Acted (T : Gbl) (b : Nat → Prop) (g : Nat) (S' : St) (v : Value) (w : World) (e : Ending) (w' : World) : Prop :=
  e = .returned v ∧ T b w' g S' ∧ Far b w w'
/-- A slice of numbers that can be read. -/
def IRes (L : List Int) (w : World) (e : Ending) (w' : World) : Prop :=
  ∃ A c, e = .returned (.slice A L.length c) ∧ Vals w' A L.length (L.map (Value.int .i64)) ∧ Below w.heap.size w w'
/-- Gens: T b w g S: those at g live in the blocks b and are as S. -/
structure ProgG (T : Gbl) (K : Ks) : Prop where
  keep : ∀ b w w' g S (F : Nat → Prop), T b w g S → Far F w w' → (∀ k, b k → ¬ F k) → T b w' g S
  lt : ∀ b w g S, T b w g S → ∀ k, b k → k < w.heap.size
  bad : ∀ n (k : Key) w, i64 n → k.Ok → ¬ (1 ≤ n ∧ n ≤ 64) → Calls Try.prog 8 #[.int .i64 n, .agg k.cs.toArray] w (Ans (.tuple #[.pointer none, .int .i64 1]) w)
  new : ∀ (n : Nat) (k : Key) w, 1 ≤ n → n ≤ 64 → k.Ok → Calls Try.prog 8 #[.int .i64 (n : Nat), .agg k.cs.toArray] w fun e w' => ∃ g b, e = .returned (.tuple #[.pointer (some ⟨g, 0, none⟩), .int .i64 0]) ∧ T b w' g (st0 n k) ∧ (∀ k, b k → w.heap.size ≤ k) ∧ Below w.heap.size w w'
  rekey : ∀ b w g S k, T b w g S → S.Ok → k.Ok → Calls Try.prog 9 #[.pointer (some ⟨g, 0, none⟩), .agg k.cs.toArray] w (Acted T b g (rek S k) (.int .i64 (rekE S)) w)
  step : ∀ b w g S, T b w g S → S.Ok → Calls Try.prog 13 #[.pointer (some ⟨g, 0, none⟩)] w (Acted T b g (stp S) (.tuple #[.int .i64 (stpC S : Nat), .bool S.mv.isSome]) w)
  moving : ∀ b w g S, T b w g S → Calls Try.prog 10 #[.pointer (some ⟨g, 0, none⟩)] w (Ans (.bool S.mv.isSome) w)
  epoch : ∀ b w g S, T b w g S → Calls Try.prog 11 #[.pointer (some ⟨g, 0, none⟩)] w (Ans (.int .i64 (S.ep : Nat)) w)
  old : ∀ b w g S, T b w g S → Calls Try.prog 18 #[.pointer (some ⟨g, 0, none⟩)] w (Ans (.int .i64 (nm S.o : Nat)) w)
  where_ : ∀ b w g S f, T b w g S → S.Ok → f.Ok → Calls Try.prog 17 #[.pointer (some ⟨g, 0, none⟩), .agg f.cs.toArray] w (Ans (.tuple #[.int .i64 (nm (gen K S f) : Nat), .int .i64 (cls K S f : Nat)]) w)
  bins : ∀ b w g S t f l n, T b w g S → S.Ok → f.Ok → i64 t → i64 l → i64 n → Calls Try.prog 19 #[.pointer (some ⟨g, 0, none⟩), .int .i64 t, .agg f.cs.toArray, .int .i64 l, .int .i64 n] w (IRes (binS K S t f l n) w)
  rekeyNil : ∀ (k : Key) w, k.Ok → Calls Try.prog 9 #[.pointer none, .agg k.cs.toArray] w (Ans (.int .i64 1) w)
  movingNil : ∀ w, Calls Try.prog 10 #[.pointer none] w (Ans (.bool false) w)
  epochNil : ∀ w, Calls Try.prog 11 #[.pointer none] w (Ans (.int .i64 0) w)

/-! How the laws see them. -/
def free (w : World) (F : Nat → Prop) : Nat → Prop := fun j => w.heap.size ≤ j ∧ ¬ F j
/-- Those at g are as S; F is left alone. -/
def At (T : Gbl) (w : World) (g : Nat) (S : St) (F : Nat → Prop) (W : World) : Prop :=
  ∃ b, T b W g S ∧ (∀ j, b j → free w F j) ∧ (∀ j, F j → j < W.heap.size) ∧ Below w.heap.size w W
def Act1 (T : Gbl) (w : World) (g : Nat) (S : St) (F : Nat → Prop) (v : Value) (W : World) (e : Ending) (W' : World) : Prop :=
  e = .returned v ∧ At T w g S F W' ∧ Far (free w F) W W'
section
variable {T : Gbl} {K : Ks} {w W W' : World} {g : Nat} {S S' : St} {F F' : Nat → Prop} {f : Flo} {k : Key} {n t l : Int}
theorem At.be (h : At T w g S F W) : Below w.heap.size w W := by obtain ⟨_, _, _, _, h⟩ := h; exact h
theorem At.below (P : ProgG T K) (h : At T w g S F W) (hb : Below W.heap.size W W') : At T w g S F W' := by
  obtain ⟨b, h1, h2, h3, h4⟩ := h
  exact ⟨b, P.keep _ _ _ _ _ nobody h1 (Far.of_below hb nobody) (fun _ _ e => e), h2, fun j hj => Nat.lt_of_lt_of_le (h3 j hj) hb.size, h4.trans (hb.mono h4.size)⟩
theorem At.far (P : ProgG T K) {X : Nat → Prop} (h : At T w g S F W) (hf : Far X W W') (hX : ∀ j, X j → F j ∧ w.heap.size ≤ j) : At T w g S F W' := by
  obtain ⟨b, h1, h2, h3, h4⟩ := h
  exact ⟨b, P.keep _ _ _ _ _ X h1 hf (fun j hj e => (h2 j hj).2 (hX j e).1), h2, fun j hj => Nat.lt_of_lt_of_le (h3 j hj) hf.size, h4.trans (hf.below h4.size (fun j hj e => by have := (hX j e).2; omega))⟩
theorem At.grow (P : ProgG T K) (h : At T w g S F W) (hb : Below W.heap.size W W') : At T w g S (fun j => F j ∨ (W.heap.size ≤ j ∧ j < W'.heap.size)) W' := by
  obtain ⟨b, h1, h2, h3, h4⟩ := h
  refine ⟨b, P.keep _ _ _ _ _ nobody h1 (Far.of_below hb nobody) (fun _ _ e => e), fun j hj => ⟨(h2 j hj).1, ?_⟩, ?_, h4.trans (hb.mono h4.size)⟩
  · rintro (e | e)
    · exact (h2 j hj).2 e
    · have := P.lt _ _ _ _ h1 j hj; omega
  · rintro j (e | e)
    · exact Nat.lt_of_lt_of_le (h3 j e) hb.size
    · exact e.2
theorem At.less (h : At T w g S F W) (hF : ∀ j, F' j → F j) : At T w g S F' W := by
  obtain ⟨b, h1, h2, h3, h4⟩ := h
  exact ⟨b, h1, fun j hj => ⟨(h2 j hj).1, fun e => (h2 j hj).2 (hF j e)⟩, fun j hj => h3 j (hF j hj), h4⟩
theorem At.new (P : ProgG T K) (hb : Below w.heap.size w W) {m : Nat} (h1 : 1 ≤ m) (h2 : m ≤ 64) (hk : k.Ok) :
    Calls Try.prog 8 #[.int .i64 (m : Nat), .agg k.cs.toArray] W fun e W' => ∃ g, e = .returned (.tuple #[.pointer (some ⟨g, 0, none⟩), .int .i64 0]) ∧ At T w g (st0 m k) nobody W' :=
  (P.new m k W h1 h2 hk).mono fun _ _ ⟨g, b, he, ht, hbl, hb'⟩ => ⟨g, he, b, ht, fun j hj => ⟨Nat.le_trans hb.size (hbl j hj), fun e => e⟩, fun _ hj => absurd hj (fun e => e), hb.trans (hb'.mono hb.size)⟩
/-- .. that leave alone what was there. -/
theorem At.newF (P : ProgG T K) (hb : Below w.heap.size w W) {m : Nat} (h1 : 1 ≤ m) (h2 : m ≤ 64) (hk : k.Ok) (hF : ∀ j, F j → j < W.heap.size) :
    Calls Try.prog 8 #[.int .i64 (m : Nat), .agg k.cs.toArray] W fun e W' => ∃ g, e = .returned (.tuple #[.pointer (some ⟨g, 0, none⟩), .int .i64 0]) ∧ At T w g (st0 m k) F W' ∧ Below W.heap.size W W' :=
  (P.new m k W h1 h2 hk).mono fun _ _ ⟨g, b, he, ht, hbl, hb'⟩ => ⟨g, he, ⟨b, ht, fun j hj => ⟨Nat.le_trans hb.size (hbl j hj), fun e => by have := hF j e; have := hbl j hj; omega⟩, fun j hj => Nat.lt_of_lt_of_le (hF j hj) hb'.size, hb.trans (hb'.mono hb.size)⟩, hb'⟩
theorem At.acted {b : Nat → Prop} {v : Value} {e : Ending} (h2 : ∀ j, F j → j < W.heap.size) (h4 : Below w.heap.size w W) (hb : ∀ j, b j → free w F j) (h : Acted T b g S' v W e W') : Act1 T w g S' F v W e W' := by
  obtain ⟨he, ht, hf⟩ := h
  exact ⟨he, ⟨b, ht, hb, fun j hj => Nat.lt_of_lt_of_le (h2 j hj) hf.size, h4.trans (hf.below h4.size (fun j hj e => by have := (hb j e).1; omega))⟩, hf.mono hb⟩
theorem At.rekey (P : ProgG T K) (h : At T w g S F W) (ho : S.Ok) (hk : k.Ok) : Calls Try.prog 9 #[.pointer (some ⟨g, 0, none⟩), .agg k.cs.toArray] W (Act1 T w g (rek S k) F (.int .i64 (rekE S)) W) := by
  obtain ⟨b, h1, h2, h3, h4⟩ := h
  exact (P.rekey b W g S k h1 ho hk).mono fun _ _ h => At.acted h3 h4 h2 h
theorem At.step (P : ProgG T K) (h : At T w g S F W) (ho : S.Ok) : Calls Try.prog 13 #[.pointer (some ⟨g, 0, none⟩)] W (Act1 T w g (stp S) F (.tuple #[.int .i64 (stpC S : Nat), .bool S.mv.isSome]) W) := by
  obtain ⟨b, h1, h2, h3, h4⟩ := h
  exact (P.step b W g S h1 ho).mono fun _ _ h => At.acted h3 h4 h2 h
theorem At.moving (P : ProgG T K) (h : At T w g S F W) : Calls Try.prog 10 #[.pointer (some ⟨g, 0, none⟩)] W (Ans (.bool S.mv.isSome) W) := by
  obtain ⟨b, h1, h2, h3, h4⟩ := h
  exact P.moving b W g S h1
theorem At.epoch (P : ProgG T K) (h : At T w g S F W) : Calls Try.prog 11 #[.pointer (some ⟨g, 0, none⟩)] W (Ans (.int .i64 (S.ep : Nat)) W) := by
  obtain ⟨b, h1, h2, h3, h4⟩ := h
  exact P.epoch b W g S h1
theorem At.old (P : ProgG T K) (h : At T w g S F W) : Calls Try.prog 18 #[.pointer (some ⟨g, 0, none⟩)] W (Ans (.int .i64 (nm S.o : Nat)) W) := by
  obtain ⟨b, h1, h2, h3, h4⟩ := h
  exact P.old b W g S h1
theorem At.where_ (P : ProgG T K) (h : At T w g S F W) (ho : S.Ok) (hf : f.Ok) : Calls Try.prog 17 #[.pointer (some ⟨g, 0, none⟩), .agg f.cs.toArray] W (Ans (.tuple #[.int .i64 (nm (gen K S f) : Nat), .int .i64 (cls K S f : Nat)]) W) := by
  obtain ⟨b, h1, h2, h3, h4⟩ := h
  exact P.where_ b W g S f h1 ho hf
theorem At.bins (P : ProgG T K) (h : At T w g S F W) (ho : S.Ok) (hf : f.Ok) (ht : i64 t) (hl : i64 l) (hn : i64 n) : Calls Try.prog 19 #[.pointer (some ⟨g, 0, none⟩), .int .i64 t, .agg f.cs.toArray, .int .i64 l, .int .i64 n] W (IRes (binS K S t f l n) W) := by
  obtain ⟨b, h1, h2, h3, h4⟩ := h
  exact P.bins b W g S t f l n h1 ho hf ht hl hn
end
end Go.Proofs.Ytfhlgmmfknfamaa
