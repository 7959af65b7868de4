/- What box's calls leave, and how that goes on. Conditions: those of each theorem. -/
import Derived.Test.YtpjeeccgpnpokaaBAt
namespace Go.Proofs.Ytpjeeccgpnpokaa
open Go.RowKit

/-- Beside the box, the prefix that was handed in. -/
structure Inn (w : World) (f : Pre → Nat) (h q n g : Nat) (C : Cfg) (L : List Ent) (p : Pre) (W : World) : Prop where
  box : BoxAt f h q n W g C L
  pb : Blk W w.heap.size 31 p.cs
  far : Far (two h q) w W
  old : g < w.heap.size ∧ h < w.heap.size ∧ q < w.heap.size
  tk : ∀ e ∈ L, f e.p < w.heap.size
section
variable {f : Pre → Nat} {h q n g : Nat} {w W W' : World} {C : Cfg} {L L' : List Ent} {p : Pre}
theorem Inn.start (b : BoxAt f h q n w g C L) (hb : Below w.heap.size w W) (hp : Blk W w.heap.size 31 p.cs) : Inn w f h q n g C L p W :=
  ⟨b.below hb, hp, Far.of_below hb _, ⟨b.lt g (.inl rfl), b.lt h (.inr (.inl rfl)), b.lt q (.inr (.inr (.inl rfl)))⟩, fun e he => b.lt _ (.inr (.inr (.inr ⟨e, he, rfl⟩)))⟩
theorem Inn.below (m : Inn w f h q n g C L p W) (hb : Below W.heap.size W W') : Inn w f h q n g C L p W' :=
  ⟨m.box.below hb, m.pb.below hb, m.far.trans (Far.of_below hb (two h q)) (fun _ _ e => e), m.old, m.tk⟩
theorem Inn.drew (m : Inn w f h q n g C L p W) : Inn w f h q n g C L p W.drew := m.below (below_drewN (Below.refl _ _) 1)
theorem Inn.past {b : Nat} (m : Inn w f h q n g C L p W) (hf : Far (only b) W W') (hb : w.heap.size < b) : Inn w f h q n g C L p W' :=
  ⟨m.box.far hf (fun k hk e => by
      have e' : k = b := e
      have h3 := m.old
      rcases hk with rfl | rfl | rfl | ⟨e2, he, rfl⟩
      · omega
      · omega
      · omega
      · have := m.tk e2 he; omega), m.pb.far hf (fun e => by have e' : w.heap.size = b := e; omega), m.far.trans hf (fun k hk e => by have e' : k = b := e; omega), m.old, m.tk⟩
theorem Inn.turn (m : Inn w f h q n g C L p W) (hx : BoxAt f h q n W' g C L') (hf : Far (two h q) W W') (hs : ∀ e ∈ L', e ∈ L) : Inn w f h q n g C L' p W' :=
  ⟨hx, m.pb.far hf (fun e => by have h3 := m.old; rcases e with e | e <;> omega), m.far.trans hf (fun _ _ e => e), m.old, fun e he => m.tk e (hs e he)⟩
end
theorem swp_mem {L : List Ent} {x : Int} : ∀ e ∈ swp L x, e ∈ L := fun _ he => (List.mem_filter.1 he).1
/-- What In, Take, Drop and All leave. -/
def BOut (f : Pre → Nat) (h q n g : Nat) (C : Cfg) (L L' : List Ent) (v : Value) (w : World) (e : Ending) (w' : World) : Prop := e = .returned v ∧ BoxAt f h q n w' g C L' ∧ Far (boxB f h q g L) w w'
theorem boxB_two {f : Pre → Nat} {h q g : Nat} {L : List Ent} {k : Nat} (e : two h q k) : boxB f h q g L k := by
  rcases e with e | e
  · exact .inr (.inl e)
  · exact .inr (.inr (.inl e))
theorem Inn.out {f : Pre → Nat} {h q n g : Nat} {w W : World} {C : Cfg} {L L0 : List Ent} {p : Pre} (m : Inn w f h q n g C L p W) (v : Value) : BOut f h q n g C L0 L v w (.returned v) W := ⟨rfl, m.box, m.far.mono fun _ e => boxB_two e⟩
theorem srt_uniq {L : List Ent} (hs : Srt L) {i j : Nat} (hi : i < L.length) (hj : j < L.length) (e : (at_ L i).p = (at_ L j).p) : i = j := by
  rcases Nat.lt_trichotomy i j with h | h | h
  · have := hs i j h hj; rw [e, ltP_no] at this; cases this
  · exact h
  · have := hs j i h hi; rw [e, ltP_no] at this; cases this
theorem flat_same {f : Pre → Nat} {L : List Ent} {k : Nat} {s : Ent} (hk : k < L.length) (hs : (kSt f).cs s = (kSt f).cs (at_ L k)) : (kSt f).flat (L.set k s) = (kSt f).flat L := by
  have h1 : (L.set k s)[k]? = some s := by simp [hk]
  have e1 : (L.set k s).take k = L.take k := by
    apply List.ext_getElem?
    intro j
    simp only [List.getElem?_take, List.getElem?_set]
    split
    · rw [if_neg (by omega)]
    · rfl
  have e2 : (L.set k s).drop (k + 1) = L.drop (k + 1) := by
    apply List.ext_getElem?
    intro j
    simp only [List.getElem?_drop, List.getElem?_set]
    rw [if_neg (by omega)]
  rw [Kin.flat_split h1, Kin.flat_split (at_some hk), e1, e2, hs]
/-- Tokens are taken: the list that is told of is another one, the table is as it was. -/
theorem BoxAt.take {f : Pre → Nat} {h q n g : Nat} {w w' : World} {C : Cfg} {S : List Ent} {p : Pre} {x k : Int} (b : BoxAt f h q n w g C S) (hh : has S p = true)
    (ht : TAt w' (f p) C.r (C.b * 1048576) (lef C.r (C.b * 1048576) (at_ S (idx S p)).l (at_ S (idx S p)).m x k) (max (at_ S (idx S p)).m x)) (hf : Far (only (f p)) w w') : BoxAt f h q n w' g C (takeS C S p x k) := by
  have hi := has_iff.1 hh
  have hp := idx_at hi
  have he := at_mem hi
  have hm0 := (b.toks _ he).ok.m0
  have hnf := b.nf _ he
  rw [hp] at hnf
  have hS : takeS C S p x k = S.set (idx S p) (tk C (at_ S (idx S p)) x k) := by unfold takeS; rw [if_pos hh]
  rw [hS]
  have key : ∀ e ∈ S.set (idx S p) (tk C (at_ S (idx S p)) x k), (e = tk C (at_ S (idx S p)) x k) ∨ (e ∈ S ∧ e.p ≠ p) := fun e he => by
    obtain ⟨j, hj, rfl⟩ := List.mem_iff_getElem.1 he
    rw [List.length_set] at hj
    rw [List.getElem_set]
    split
    · exact .inl rfl
    · rename_i hne
      refine .inr ⟨List.getElem_mem _, fun e2 => hne ?_⟩
      have e3 : at_ S j = S[j] := at_of (by simp [hj])
      exact srt_uniq b.tab.srt hi hj (by rw [hp, e3, e2])
  refine ⟨b.head.far hf (fun e => hnf.1 (show f p = g from (show g = f p from e).symm)), ?_, b.room, b.ng, fun e he2 => ?_, fun e he2 => ?_, fun e he2 => ?_, fun e he2 e' he2' => ?_⟩
  · have t := b.tab.far hf (fun e => hnf.2.1 (show f p = h from (show h = f p from e).symm)) (fun e => hnf.2.2 (show f p = q from (show q = f p from e).symm))
    have hl : (S.set (idx S p) (tk C (at_ S (idx S p)) x k)).length = S.length := List.length_set
    refine ⟨by rw [hl]; exact t.head, ?_, t.ne, by rw [hl]; exact t.fit, t.pos, t.le, t.srt.set_ rfl⟩
    rw [hl, Kin.flat_app, flat_same (s := tk C (at_ S (idx S p)) x k) hi rfl, ← Kin.flat_app]
    exact t.row
  · rcases key e he2 with rfl | ⟨h1, _⟩
    · show 0 < (at_ S (idx S p)).u
      exact b.pos _ he
    · exact b.pos _ h1
  · rcases key e he2 with rfl | ⟨h1, h2⟩
    · rw [lef_clm hm0, max_clm hm0] at ht
      show TAt w' (f (at_ S (idx S p)).p) C.r (C.b * 1048576) (lef C.r (C.b * 1048576) (at_ S (idx S p)).l (at_ S (idx S p)).m (clm x) k) (max (at_ S (idx S p)).m (clm x))
      rw [hp]
      exact ht
    · exact (b.toks e h1).far hf (fun e3 => h2 (by
        have := b.inj e h1 _ he (by rw [hp]; exact e3)
        rw [this, hp]))
  · rcases key e he2 with rfl | ⟨h1, _⟩
    · show f (at_ S (idx S p)).p ≠ g ∧ f (at_ S (idx S p)).p ≠ h ∧ f (at_ S (idx S p)).p ≠ q
      exact b.nf _ he
    · exact b.nf _ h1
  · have t : ∀ e ∈ S.set (idx S p) (tk C (at_ S (idx S p)) x k), ∃ e1 ∈ S, e1.p = e.p := fun e he3 => by
      rcases key e he3 with rfl | ⟨h1, _⟩
      · exact ⟨_, he, rfl⟩
      · exact ⟨_, h1, rfl⟩
    obtain ⟨e1, h1, r1⟩ := t e he2
    obtain ⟨e2, h2, r2⟩ := t e' he2'
    intro hfe
    rw [← r1, ← r2] at hfe ⊢
    exact b.inj e1 h1 e2 h2 hfe
/-- Another way to tokens' blocks, alike for those who are in it. -/
theorem flat_congr {f f' : Pre → Nat} : ∀ (L : List Ent), (∀ e ∈ L, e.u ≠ 0 → f e.p = f' e.p) → (kSt f).flat L = (kSt f').flat L
  | [], _ => rfl
  | e :: L, hh => by
    have h1 : (kSt f).cs e = (kSt f').cs e := by
      show e.p.cs ++ sv f e = e.p.cs ++ sv f' e
      unfold sv
      by_cases hu : e.u = 0
      · rw [if_pos hu, if_pos hu]
      · rw [if_neg hu, if_neg hu, hh e (by simp) hu]
    have h2 := flat_congr L (fun e' he => hh e' (by simp [he]))
    show (kSt f).cs e ++ (kSt f).flat L = (kSt f').cs e ++ (kSt f').flat L
    rw [h1, h2]
theorem BoxAt.congr {f f' : Pre → Nat} {h q n g : Nat} {w : World} {C : Cfg} {L : List Ent} (b : BoxAt f h q n w g C L) (hh : ∀ e ∈ L, f e.p = f' e.p) : BoxAt f' h q n w g C L := by
  have hz : (kSt f).flat (L ++ zs (n - L.length)) = (kSt f').flat (L ++ zs (n - L.length)) := flat_congr _ fun e he hu => by
    rcases List.mem_append.1 he with he | he
    · exact hh e he
    · have : e = ent0 := List.eq_of_mem_replicate he
      rw [this] at hu
      exact absurd rfl hu
  obtain ⟨t1, t2, t3, t4, t5, t6, t7⟩ := b.tab
  refine ⟨b.head, ⟨t1, hz ▸ t2, t3, t4, t5, t6, t7⟩, b.room, b.ng, b.pos, fun e he => hh e he ▸ b.toks e he, fun e he => hh e he ▸ b.nf e he, fun e he e' he' => ?_⟩
  rw [← hh e he, ← hh e' he']
  exact b.inj e he e' he'
/-- One more is put in, with tokens of his own. -/
theorem BoxAt.more {f : Pre → Nat} {h q n g : Nat} {w w' : World} {C : Cfg} {L : List Ent} {s : Ent} (b : BoxAt f h q n w g C L) (hT : TbAt (kSt f) 85 91 w' h q n (ins L (plc L s.p) s)) (hf : Far (two h q) w w') (ht : TAt w (f s.p) C.r (C.b * 1048576) s.l s.m) (hu : 0 < s.u)
    (hn : f s.p ≠ g ∧ f s.p ≠ h ∧ f s.p ≠ q) (hd : ∀ e ∈ L, f e.p ≠ f s.p) : BoxAt f h q n w' g C (ins L (plc L s.p) s) := by
  have key : ∀ e ∈ ins L (plc L s.p) s, e = s ∨ e ∈ L := fun e he => by
    unfold ins at he
    rcases List.mem_append.1 he with he | he
    · rcases List.mem_append.1 he with he | he
      · exact .inr (List.mem_of_mem_take he)
      · exact .inl (by simpa using he)
    · exact .inr (List.mem_of_mem_drop he)
  refine ⟨b.head.far hf (fun e => by rcases e with e | e; exact b.ng.1 e; exact b.ng.2 e), hT, b.room, b.ng, fun e he => ?_, fun e he => ?_, fun e he => ?_, fun e he e' he' => ?_⟩
  · rcases key e he with rfl | he
    · exact hu
    · exact b.pos e he
  · rcases key e he with rfl | he
    · exact ht.far hf (fun e' => by rcases e' with e' | e'; exact hn.2.1 e'; exact hn.2.2 e')
    · exact (b.toks e he).far hf (fun e' => by rcases e' with e' | e'; exact (b.nf e he).2.1 e'; exact (b.nf e he).2.2 e')
  · rcases key e he with rfl | he
    · exact hn
    · exact b.nf e he
  · intro hfe
    rcases key e he with h1 | h1
    · rcases key e' he' with h2 | h2
      · rw [h1, h2]
      · rw [h1] at hfe
        exact absurd hfe.symm (hd e' h2)
    · rcases key e' he' with h2 | h2
      · rw [h2] at hfe
        exact absurd hfe (hd e h1)
      · exact b.inj e h1 e' h2 hfe
end Go.Proofs.Ytpjeeccgpnpokaa
