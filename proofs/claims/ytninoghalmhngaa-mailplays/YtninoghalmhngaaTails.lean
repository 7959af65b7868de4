/- A slice of numbers that the call itself has made, of which the first ones may have been cut off: how it is cut, read and appended to. Conditions: those of each theorem. -/
import Derived.Test.YtninoghalmhngaaOrderWalk
import Derived.Deep.AppendSrc
namespace Go.Proofs.Ytninoghalmhngaa
open Go.RowKit

/-- The slice v of n numbers xs lies in a block from base on, its spare room too; nil let in. -/
def TailAt (w : World) (base : Nat) (v : Value) (n : Nat) (xs : List Int) : Prop :=
  xs.length = n ∧ ((v = .slice none 0 0 ∧ n = 0) ∨ ∃ g off cap cs, v = .slice (some ⟨g, off, none⟩) n cap ∧ base ≤ g ∧ Blk w g 3 cs ∧ n ≤ cap ∧ off + cap ≤ cs.length ∧ cap ≤ maxLen ∧ ∀ (i : Nat) (x : Int), xs[i]? = some x → cs[off + i]? = some (.int .i64 x))

section
variable {w w' : World} {base n : Nat} {v : Value} {xs : List Int}
theorem TailAt.nil (w : World) (base : Nat) : TailAt w base (.slice none 0 0) 0 [] := ⟨rfl, .inl ⟨rfl, rfl⟩⟩
theorem TailAt.of_row (h : w.ownsRow base 3 1 v n (ints xs)) : TailAt w base v n xs := by
  have hl : xs.length = n := by have := h.1; rw [ints_length] at this; omega
  refine ⟨hl, ?_⟩
  rcases h.2 with ⟨rfl, rfl⟩ | ⟨g, cap, cur, rfl, hb, hg, hc, hm, hs, ht⟩
  · exact .inl ⟨rfl, rfl⟩
  · refine .inr ⟨g, 0, cap, cur.toList, rfl, hb, by simpa [Blk] using hg, hc, by simp; omega, hm, fun i x hx => ?_⟩
    have hi : i < n := by have := (List.getElem?_eq_some_iff.1 hx).1; omega
    have e : (ints xs)[i]? = some (.int .i64 x) := by simp [ints, hx]
    rw [← ht, List.getElem?_take, if_pos (by omega)] at e
    rw [Nat.zero_add]
    exact e
theorem TailAt.far {S : Nat → Prop} (h : TailAt w base v n xs) (hf : Far S w w') (hn : ∀ k, v.ownBlock = some k → ¬ S k) : TailAt w' base v n xs := by
  refine ⟨h.1, ?_⟩
  rcases h.2 with h | ⟨g, off, cap, cs, rfl, hb, hg, hr⟩
  · exact .inl h
  · exact .inr ⟨g, off, cap, cs, rfl, hb, hg.far hf (hn g rfl), hr⟩
theorem TailAt.below (h : TailAt w base v n xs) (hb : Below w.heap.size w w') : TailAt w' base v n xs := h.far (Far.of_below hb nobody) (fun _ _ e => e)
theorem TailAt.shape (h : TailAt w base v n xs) : ∃ A c, v = .slice A n c ∧ n ≤ c ∧ Vals w A n (ints xs) := by
  rcases h.2 with ⟨rfl, rfl⟩ | ⟨g, off, cap, cs, rfl, hb, hg, hc, hl, hm, hx⟩
  · exact ⟨none, 0, rfl, Nat.le_refl _, by rw [ints_length, h.1], fun h0 => absurd h0 (by omega)⟩
  · refine ⟨_, cap, rfl, hc, by rw [ints_length, h.1], fun _ => ⟨_, rfl, fun k u hk => ?_⟩⟩
    rw [Addr.add_at, hg.cell]
    simp only [ints, List.getElem?_map, Option.map_eq_some_iff] at hk
    obtain ⟨x, hk, rfl⟩ := hk
    exact hx k x hk
theorem TailAt.lt (h : TailAt w base v n xs) (k : Nat) (e : v.ownBlock = some k) : base ≤ k ∧ k < w.heap.size := by
  rcases h.2 with ⟨rfl, rfl⟩ | ⟨g, off, cap, cs, rfl, hb, hg, hc⟩
  · cases e
  · cases e
    exact ⟨hb, hg.lt⟩
/-- Cut from its k-th on. -/
theorem TailAt.cut {A : Option Addr} {c : Nat} (h : TailAt w base (.slice A n c) n xs) {k : Nat} (hk : k ≤ n) : TailAt w base (.slice (if c = k then A else A.map (·.add k)) (n - k) (c - k)) (n - k) (xs.drop k) := by
  refine ⟨by rw [List.length_drop, h.1], ?_⟩
  rcases h.2 with ⟨e, rfl⟩ | ⟨g, off, cap, cs, e, hb, hg, hc, hl, hm, hx⟩
  · cases e
    obtain rfl : k = 0 := by omega
    exact .inl ⟨rfl, rfl⟩
  · cases e
    have hd : ∀ (i : Nat) (x : Int), (xs.drop k)[i]? = some x → cs[off + (k + i)]? = some (.int .i64 x) := fun i x hi => hx (k + i) x (by rw [← List.getElem?_drop]; exact hi)
    by_cases e : c = k
    · rw [if_pos e]
      refine .inr ⟨g, off, c - k, cs, rfl, hb, hg, by omega, by omega, by omega, fun i x hi => ?_⟩
      have := (List.getElem?_eq_some_iff.1 hi).1
      rw [List.length_drop] at this
      have := h.1
      omega
    · rw [if_neg e]
      refine .inr ⟨g, off + k, c - k, cs, by rw [Option.map_some, Addr.add_at], hb, hg, by omega, by omega, by omega, fun i x hi => ?_⟩
      have := hd i x hi
      rw [show off + (k + i) = off + k + i by omega] at this
      exact this
theorem block_cut {A : Option Addr} {n c m d k : Nat} : (Value.slice (if c = k then A else A.map (·.add k)) m d).ownBlock = (Value.slice A n c).ownBlock := by
  rcases A with _ | a
  · split <;> rfl
  · split
    · rfl
    · simp [Value.ownBlock, Addr.block_add]
/-- One more number. -/
theorem run_append_tail (h : TailAt w base v n xs) (ty : TypeId) (ad : Addr) (c : Nat) (x : Int) (hx : w.cell? ad = some (.int .i64 x)) (hn : n ≤ 100000) (hb : base ≤ w.heap.size) :
    ∃ v' w', (Builtin.append_ #[31, 31] ty #[v, .slice (some ad) 1 c]).run Try.prog w = .ok v' w' ∧ TailAt w' base v' (n + 1) (xs ++ [x]) ∧ w.grownBy w' v.ownBlock ∧ (v'.ownBlock = v.ownBlock ∨ v'.ownBlock = some w.heap.size) := by
  have hnews : ∀ j u, (ints [x])[j]? = some u → w.cell? (ad.add j) = some u := fun j u hj => by
    match j, hj with
    | 0, hj =>
      simp [ints] at hj
      subst hj
      simpa [Addr.add] using hx
  have hlen : (ints [x]).length = 1 := rfl
  rcases h.2 with ⟨rfl, rfl⟩ | ⟨g, off, cap, cs, rfl, hbg, hg, hnc, hl, hm, hxs⟩
  · obtain rfl : xs = [] := List.length_eq_zero_iff.1 h.1
    obtain ⟨v', w', hrun, h2, h3, h4⟩ := run_append_vals (P := Try.prog) w base 31 ty 3 (.int .i64 0) 8 Try.underlying31 info3 rfl (.slice none 0 0) 0 (ints []) (World.ownsRow_nil _ _ _ _) (some ad) 1 c (ints [x]) ⟨rfl, fun _ => ⟨ad, rfl, hnews⟩⟩ (ints_one _) (by omega) (by omega) hb
    rw [← ints_app] at h2
    exact ⟨v', w', hrun, TailAt.of_row h2, h3, h4⟩
  · obtain ⟨i, hi0, hz0, hz1, hz2⟩ := info_parts info3
    by_cases hroom : n + 1 ≤ cap
    · have hsrc : Src Try.prog i.size 31 (.slice (some ad) 1 c) 1 (ints [x]) w := Src.ofSlice w Try.underlying31 ad 1 c (ints [x]) (by rw [hz1]; rfl) hnews (ints_one _)
      have hr := run_append_room_src (P := Try.prog) w 31 31 ty 3 i Try.underlying31 hi0 g off n cap (.slice (some ad) 1 c) 1 (ints [x]) hsrc hroom (fun j hj => by
        rw [hg.cell, hz1]
        simp only [hlen] at hj
        rw [List.getElem?_eq_getElem (by omega)]
        rfl) (fun j _ => hg.frozen _)
      rw [hz1, Nat.mul_one] at hr
      have hset : w.setCells g (off + n) (ints [x]) = w.setCell ⟨g, off + n, none⟩ (.int .i64 x) := rfl
      rw [hset] at hr
      refine ⟨_, _, hr, ⟨by simp [h.1], .inr ⟨g, off, cap, _, rfl, hbg, hg.set_ _ _, hroom, by simpa using hl, hm, fun i u hu => ?_⟩⟩, ⟨rfl, rfl, rfl, by simp [World.setCell], fun k _ hk => Below.heap_setCell w _ _ k (fun e => hk (by simp [Value.ownBlock, e]))⟩, .inl rfl⟩
      by_cases hi : i < n
      · rw [List.getElem?_append_left (by have := h.1; omega)] at hu
        rw [List.getElem?_set_ne (by omega)]
        exact hxs i u hu
      · have hin : i = n := by have := (List.getElem?_eq_some_iff.1 hu).1; have hh := h.1; rw [List.length_append] at this; simp at this; omega
        subst hin
        rw [List.getElem?_append_right (by have := h.1; omega), h.1, Nat.sub_self] at hu
        rw [List.getElem?_set_self (by omega)]
        simp at hu
        rw [hu]
    · have hr := run_append_grow (P := Try.prog) w 31 ty 3 i (.int .i64 0) Try.underlying31 hi0 hz0 ⟨g, off, none⟩ n cap (ints xs) (by rw [ints_length, h.1, hz1, Nat.mul_one]) (fun j u hj => by
        rw [Addr.add_at, hg.cell]
        simp only [ints, List.getElem?_map, Option.map_eq_some_iff] at hj
        obtain ⟨y, hj, rfl⟩ := hj
        exact hxs j y hj) ad 1 c (ints [x]) (by rw [hz1]; rfl) hnews (by omega) (by omega) (growslice_fits (by omega) (by rw [hz2]; omega))
      have hge := grownCap_ge w (n + 1) cap 3
      have hcm := grownCap_le_maxLen w (n + 1) cap 3 (show n + 1 ≤ maxLen by unfold maxLen; omega)
      have hsz : (Builtin.zeroCells (Value.int .i64 0).cells (grownCap w (n + 1) cap 3 - (n + 1))).size = (grownCap w (n + 1) cap 3 - (n + 1)) * 1 := size_zeroCells _ _
      generalize grownCap w (n + 1) cap 3 = G at *
      generalize Builtin.zeroCells (Value.int .i64 0).cells (G - (n + 1)) = Z at *
      refine ⟨_, _, hr, ⟨by simp [h.1], .inr ⟨w.heap.size, 0, G, ints xs ++ ints [x] ++ Z.toList, rfl, hb, ?_, hge, ?_, hcm, fun i u hu => ?_⟩⟩, ⟨rfl, rfl, rfl, by simp, fun k hk _ => Below.heap_alloc w.drew _ k hk⟩, .inr rfl⟩
      · have e : (ints xs ++ ints [x] ++ Z.toList).toArray = (ints xs).toArray ++ (ints [x]).toArray ++ Z := by simp
        unfold Blk
        rw [e]
        exact heap_alloc_new w.drew _
      · have e : Z.toList.length = Z.size := Array.length_toList
        rw [List.length_append, List.length_append, ints_length, h.1, hlen, e, hsz]
        omega
      · have e : (ints (xs ++ [x]))[i]? = some (.int .i64 u) := by simp only [ints, List.getElem?_map, hu, Option.map_some]
        have hi := (List.getElem?_eq_some_iff.1 e).1
        rw [ints_app] at e hi
        rw [Nat.zero_add, List.getElem?_append_left hi]
        exact e
/-- The same as an operation of a walk. -/
theorem wpList_tail {ops : Array Oper} {rest : List Oper} {o : Oper} {a : Act} {Q : Exit → Act → World → Prop} (hgd : o.guard = none) (s x : Operand)
    (ho : o.op = .call { callee := .builtin .append, args := #[s, x], argTypes := #[31, 31] })
    (base : Nat) (v : Value) (n : Nat) (xs : List Int) (hs : a.eval s = v) (hown : TailAt w base v n xs)
    (ad : Addr) (c : Nat) (y : Int) (hx : a.eval x = .slice (some ad) 1 c) (hy : w.cell? ad = some (.int .i64 y)) (hn : n ≤ 100000) (hb : base ≤ w.heap.size)
    (hK : ∀ A' c' w', Hid (TailAt w' base (.slice A' (n + 1) c') (n + 1) (xs ++ [y])) → Hid (w.grownBy w' v.ownBlock) → Hid ((Value.slice A' (n + 1) c').ownBlock = v.ownBlock ∨ (Value.slice A' (n + 1) c').ownBlock = some w.heap.size) →
      wpList Try.prog ops Q rest (a.put o.dst (.slice A' (n + 1) c')) w') : wpList Try.prog ops Q (o :: rest) a w := by
  refine wpList_plain hgd fun K hK' => ?_
  obtain ⟨v', w', hrun, h2, h3, h4⟩ := run_append_tail hown o.type ad c y hy hn hb
  obtain ⟨A', c', rfl, _⟩ := h2.shape
  unfold Oper.wp
  simp [execOp, ho, resolve, invoke, builtin, hs, hx, hrun, Result.andThen]
  exact hK' _ _ (hK A' c' w' h2 h3 h4)
end
end Go.Proofs.Ytninoghalmhngaa
