/- What box's calls leave, and the contracts of In, Take, Drop and All, and of nobody's. Conditions: those of each theorem. -/
import Derived.Test.YtpjeeccgpnpokaaBAt
namespace Go.Proofs.Ytpjeeccgpnpokaa
open Go.RowKit

/-- Beside the box, the prefix that was handed in. -/
structure Inn (w : World) (f : Pre → Nat) (h q n g : Nat) (C : Cfg) (L : List Ent) (p : Pre) (W : World) : Prop where
  box : BoxAt f h q n W g C L
  pb : Blk W w.heap.size 31 p.cs
  far : Far (two h q) w W
  old : g < w.heap.size ∧ h < w.heap.size ∧ q < w.heap.size
  tk : ∀ e ∈ L, f e.p < w.heap.size
section
variable {f : Pre → Nat} {h q n g : Nat} {w W W' : World} {C : Cfg} {L L' : List Ent} {p : Pre}
theorem Inn.start (b : BoxAt f h q n w g C L) (hb : Below w.heap.size w W) (hp : Blk W w.heap.size 31 p.cs) : Inn w f h q n g C L p W :=
  ⟨b.below hb, hp, Far.of_below hb _, ⟨b.lt g (.inl rfl), b.lt h (.inr (.inl rfl)), b.lt q (.inr (.inr (.inl rfl)))⟩, fun e he => b.lt _ (.inr (.inr (.inr ⟨e, he, rfl⟩)))⟩
theorem Inn.below (m : Inn w f h q n g C L p W) (hb : Below W.heap.size W W') : Inn w f h q n g C L p W' :=
  ⟨m.box.below hb, m.pb.below hb, m.far.trans (Far.of_below hb (two h q)) (fun _ _ e => e), m.old, m.tk⟩
theorem Inn.drew (m : Inn w f h q n g C L p W) : Inn w f h q n g C L p W.drew := m.below (below_drewN (Below.refl _ _) 1)
theorem Inn.past {b : Nat} (m : Inn w f h q n g C L p W) (hf : Far (only b) W W') (hb : w.heap.size < b) : Inn w f h q n g C L p W' :=
  ⟨m.box.far hf (fun k hk e => by
      have e' : k = b := e
      have h3 := m.old
      rcases hk with rfl | rfl | rfl | ⟨e2, he, rfl⟩
      · omega
      · omega
      · omega
      · have := m.tk e2 he; omega), m.pb.far hf (fun e => by have e' : w.heap.size = b := e; omega), m.far.trans hf (fun k hk e => by have e' : k = b := e; omega), m.old, m.tk⟩
theorem Inn.turn (m : Inn w f h q n g C L p W) (hx : BoxAt f h q n W' g C L') (hf : Far (two h q) W W') (hs : ∀ e ∈ L', e ∈ L) : Inn w f h q n g C L' p W' :=
  ⟨hx, m.pb.far hf (fun e => by have h3 := m.old; rcases e with e | e <;> omega), m.far.trans hf (fun _ _ e => e), m.old, fun e he => m.tk e (hs e he)⟩
end
theorem swp_mem {L : List Ent} {x : Int} : ∀ e ∈ swp L x, e ∈ L := fun _ he => (List.mem_filter.1 he).1
/-- What In, Take, Drop and All leave. -/
def BOut (f : Pre → Nat) (h q n g : Nat) (C : Cfg) (L L' : List Ent) (v : Value) (w : World) (e : Ending) (w' : World) : Prop := e = .returned v ∧ BoxAt f h q n w' g C L' ∧ Far (boxB f h q g L) w w'
theorem boxB_two {f : Pre → Nat} {h q g : Nat} {L : List Ent} {k : Nat} (e : two h q k) : boxB f h q g L k := by
  rcases e with e | e
  · exact .inr (.inl e)
  · exact .inr (.inr (.inl e))
theorem Inn.out {f : Pre → Nat} {h q n g : Nat} {w W : World} {C : Cfg} {L L0 : List Ent} {p : Pre} (m : Inn w f h q n g C L p W) (v : Value) : BOut f h q n g C L0 L v w (.returned v) W := ⟨rfl, m.box, m.far.mono fun _ e => boxB_two e⟩
theorem srt_uniq {L : List Ent} (hs : Srt L) {i j : Nat} (hi : i < L.length) (hj : j < L.length) (e : (at_ L i).p = (at_ L j).p) : i = j := by
  rcases Nat.lt_trichotomy i j with h | h | h
  · have := hs i j h hj; rw [e, ltP_no] at this; cases this
  · exact h
  · have := hs j i h hi; rw [e, ltP_no] at this; cases this
theorem flat_same {f : Pre → Nat} {L : List Ent} {k : Nat} {s : Ent} (hk : k < L.length) (hs : (kSt f).cs s = (kSt f).cs (at_ L k)) : (kSt f).flat (L.set k s) = (kSt f).flat L := by
  have h1 : (L.set k s)[k]? = some s := by simp [hk]
  have e1 : (L.set k s).take k = L.take k := by
    apply List.ext_getElem?
    intro j
    simp only [List.getElem?_take, List.getElem?_set]
    split
    · rw [if_neg (by omega)]
    · rfl
  have e2 : (L.set k s).drop (k + 1) = L.drop (k + 1) := by
    apply List.ext_getElem?
    intro j
    simp only [List.getElem?_drop, List.getElem?_set]
    rw [if_neg (by omega)]
  rw [Kin.flat_split h1, Kin.flat_split (at_some hk), e1, e2, hs]
/-- Tokens are taken: the list that is told of is another one, the table is as it was. -/
theorem BoxAt.take {f : Pre → Nat} {h q n g : Nat} {w w' : World} {C : Cfg} {S : List Ent} {p : Pre} {x k : Int} (b : BoxAt f h q n w g C S) (hh : has S p = true)
    (ht : TAt w' (f p) C.r (C.b * 1048576) (lef C.r (C.b * 1048576) (at_ S (idx S p)).l (at_ S (idx S p)).m x k) (max (at_ S (idx S p)).m x)) (hf : Far (only (f p)) w w') : BoxAt f h q n w' g C (takeS C S p x k) := by
  have hi := has_iff.1 hh
  have hp := idx_at hi
  have he := at_mem hi
  have hm0 := (b.toks _ he).ok.m0
  have hnf := b.nf _ he
  rw [hp] at hnf
  have hS : takeS C S p x k = S.set (idx S p) (tk C (at_ S (idx S p)) x k) := by unfold takeS; rw [if_pos hh]
  rw [hS]
  have key : ∀ e ∈ S.set (idx S p) (tk C (at_ S (idx S p)) x k), (e = tk C (at_ S (idx S p)) x k) ∨ (e ∈ S ∧ e.p ≠ p) := fun e he => by
    obtain ⟨j, hj, rfl⟩ := List.mem_iff_getElem.1 he
    rw [List.length_set] at hj
    rw [List.getElem_set]
    split
    · exact .inl rfl
    · rename_i hne
      refine .inr ⟨List.getElem_mem _, fun e2 => hne ?_⟩
      have e3 : at_ S j = S[j] := at_of (by simp [hj])
      exact srt_uniq b.tab.srt hi hj (by rw [hp, e3, e2])
  refine ⟨b.head.far hf (fun e => hnf.1 (show f p = g from (show g = f p from e).symm)), ?_, b.room, b.ng, fun e he2 => ?_, fun e he2 => ?_, fun e he2 => ?_, fun e he2 e' he2' => ?_⟩
  · have t := b.tab.far hf (fun e => hnf.2.1 (show f p = h from (show h = f p from e).symm)) (fun e => hnf.2.2 (show f p = q from (show q = f p from e).symm))
    have hl : (S.set (idx S p) (tk C (at_ S (idx S p)) x k)).length = S.length := List.length_set
    refine ⟨by rw [hl]; exact t.head, ?_, t.ne, by rw [hl]; exact t.fit, t.pos, t.le, t.srt.set_ rfl⟩
    rw [hl, Kin.flat_app, flat_same (s := tk C (at_ S (idx S p)) x k) hi rfl, ← Kin.flat_app]
    exact t.row
  · rcases key e he2 with rfl | ⟨h1, _⟩
    · show 0 < (at_ S (idx S p)).u
      exact b.pos _ he
    · exact b.pos _ h1
  · rcases key e he2 with rfl | ⟨h1, h2⟩
    · rw [lef_clm hm0, max_clm hm0] at ht
      show TAt w' (f (at_ S (idx S p)).p) C.r (C.b * 1048576) (lef C.r (C.b * 1048576) (at_ S (idx S p)).l (at_ S (idx S p)).m (clm x) k) (max (at_ S (idx S p)).m (clm x))
      rw [hp]
      exact ht
    · exact (b.toks e h1).far hf (fun e3 => h2 (by
        have := b.inj e h1 _ he (by rw [hp]; exact e3)
        rw [this, hp]))
  · rcases key e he2 with rfl | ⟨h1, _⟩
    · show f (at_ S (idx S p)).p ≠ g ∧ f (at_ S (idx S p)).p ≠ h ∧ f (at_ S (idx S p)).p ≠ q
      exact b.nf _ he
    · exact b.nf _ h1
  · have t : ∀ e ∈ S.set (idx S p) (tk C (at_ S (idx S p)) x k), ∃ e1 ∈ S, e1.p = e.p := fun e he3 => by
      rcases key e he3 with rfl | ⟨h1, _⟩
      · exact ⟨_, he, rfl⟩
      · exact ⟨_, h1, rfl⟩
    obtain ⟨e1, h1, r1⟩ := t e he2
    obtain ⟨e2, h2, r2⟩ := t e' he2'
    intro hfe
    rw [← r1, ← r2] at hfe ⊢
    exact b.inj e1 h1 e2 h2 hfe
/-- Another way to tokens' blocks, alike for those who are in it. -/
theorem flat_congr {f f' : Pre → Nat} : ∀ (L : List Ent), (∀ e ∈ L, e.u ≠ 0 → f e.p = f' e.p) → (kSt f).flat L = (kSt f').flat L
  | [], _ => rfl
  | e :: L, hh => by
    have h1 : (kSt f).cs e = (kSt f').cs e := by
      show e.p.cs ++ sv f e = e.p.cs ++ sv f' e
      unfold sv
      by_cases hu : e.u = 0
      · rw [if_pos hu, if_pos hu]
      · rw [if_neg hu, if_neg hu, hh e (by simp) hu]
    have h2 := flat_congr L (fun e' he => hh e' (by simp [he]))
    show (kSt f).cs e ++ (kSt f).flat L = (kSt f').cs e ++ (kSt f').flat L
    rw [h1, h2]
theorem BoxAt.congr {f f' : Pre → Nat} {h q n g : Nat} {w : World} {C : Cfg} {L : List Ent} (b : BoxAt f h q n w g C L) (hh : ∀ e ∈ L, f e.p = f' e.p) : BoxAt f' h q n w g C L := by
  have hz : (kSt f).flat (L ++ zs (n - L.length)) = (kSt f').flat (L ++ zs (n - L.length)) := flat_congr _ fun e he hu => by
    rcases List.mem_append.1 he with he | he
    · exact hh e he
    · have : e = ent0 := List.eq_of_mem_replicate he
      rw [this] at hu
      exact absurd rfl hu
  obtain ⟨t1, t2, t3, t4, t5, t6, t7⟩ := b.tab
  refine ⟨b.head, ⟨t1, hz ▸ t2, t3, t4, t5, t6, t7⟩, b.room, b.ng, b.pos, fun e he => hh e he ▸ b.toks e he, fun e he => hh e he ▸ b.nf e he, fun e he e' he' => ?_⟩
  rw [← hh e he, ← hh e' he']
  exact b.inj e he e' he'
/-- One more is put in, with tokens of his own. -/
theorem BoxAt.more {f : Pre → Nat} {h q n g : Nat} {w w' : World} {C : Cfg} {L : List Ent} {s : Ent} (b : BoxAt f h q n w g C L) (hT : TbAt (kSt f) 85 91 w' h q n (ins L (plc L s.p) s)) (hf : Far (two h q) w w') (ht : TAt w (f s.p) C.r (C.b * 1048576) s.l s.m) (hu : 0 < s.u)
    (hn : f s.p ≠ g ∧ f s.p ≠ h ∧ f s.p ≠ q) (hd : ∀ e ∈ L, f e.p ≠ f s.p) : BoxAt f h q n w' g C (ins L (plc L s.p) s) := by
  have key : ∀ e ∈ ins L (plc L s.p) s, e = s ∨ e ∈ L := fun e he => by
    unfold ins at he
    rcases List.mem_append.1 he with he | he
    · rcases List.mem_append.1 he with he | he
      · exact .inr (List.mem_of_mem_take he)
      · exact .inl (by simpa using he)
    · exact .inr (List.mem_of_mem_drop he)
  refine ⟨b.head.far hf (fun e => by rcases e with e | e; exact b.ng.1 e; exact b.ng.2 e), hT, b.room, b.ng, fun e he => ?_, fun e he => ?_, fun e he => ?_, fun e he e' he' => ?_⟩
  · rcases key e he with rfl | he
    · exact hu
    · exact b.pos e he
  · rcases key e he with rfl | he
    · exact ht.far hf (fun e' => by rcases e' with e' | e'; exact hn.2.1 e'; exact hn.2.2 e')
    · exact (b.toks e he).far hf (fun e' => by rcases e' with e' | e'; exact (b.nf e he).2.1 e'; exact (b.nf e he).2.2 e')
  · rcases key e he with rfl | he
    · exact hn
    · exact b.nf e he
  · intro hfe
    rcases key e he with h1 | h1
    · rcases key e' he' with h2 | h2
      · rw [h1, h2]
      · rw [h1] at hfe
        exact absurd hfe.symm (hd e' h2)
    · rcases key e' he' with h2 | h2
      · rw [h2] at hfe
        exact absurd hfe (hd e h1)
      · exact b.inj e h1 e' h2 hfe
end Go.Proofs.Ytpjeeccgpnpokaa
namespace Go.Proofs.Ytpjeeccgpnpokaa
open Go.RowKit

set_option maxRecDepth 100000 in
set_option maxHeartbeats 2000000 in
theorem bdrop_ (f : Pre → Nat) (h q n g : Nat) (C : Cfg) (L : List Ent) (p : Pre) (x : Int) (w : World) (hb0 : BoxAt f h q n w g C L) (ho : POks L) (hp : p.Ok) :
    Calls Try.prog 16 #[.pointer (some ⟨g, 0, none⟩), .agg p.cs.toArray, .int .i64 x] w (BOut f h q n g C L (del (swp L x) p) (.bool (has (swp L x) p)) w) := by
  have hb1 : Below w.heap.size w (w.alloc (.cells p.cs.toArray 31)) := (Below.refl _ w).alloc (Nat.le_refl _) _
  have M1 : Hid (Inn w f h q n g C L p (w.alloc (.cells p.cs.toArray 31))) := Inn.start hb0 hb1 (Blk.new w 31 p.cs)
  have HAT : Hid (∀ W, BoxAt f h q n W g C L → Calls Try.prog 22 #[.pointer (some ⟨g, 0, none⟩), .int .i64 x] W (BAtOut f h q n g C (swp L x) W)) := fun W hW => bat_ f h q n g C L x W hW ho
  have HDEL : Hid (∀ W, BoxAt f h q n W g C (swp L x) → Calls Try.prog 33 #[.pointer (some ⟨h, 0, none⟩), .agg p.cs.toArray] W (ActT (kSt f) 85 91 h q n (del (swp L x) p) (.bool (has (swp L x) p)) W)) := fun W hW => delT_ f h q n _ p W hW.tab (fun e he => ho e (swp_mem e he)) hp
  clear hb0 ho hp hb1
  go_enter Try.func16, Try.ntmps16
  go_upto_region 1 with fail
  generalize (w.alloc (.cells p.cs.toArray 31)) = x1 at *
  have HS0 : Hid (Blk x1.drew w.heap.size 31 p.cs) := M1.out.pb
  have M2 := Lib.hid M1.out.drew
  clear M1
  refine wp_region_held_drew (S := fun W => Blk W w.heap.size 31 p.cs) (by kernel_rfl) ?_ (fun _ => ?_)
  · exact HS0.out
  generalize x1.drew = x0 at *
  refine wpAnyH_take (i := 0) (oi := ⟨some 7, _, _, _, _, _⟩) (v := ?_) rfl (by kernel_rfl) (by kernel_rfl) (by kernel_rfl) (fun _ _ _ h => h) (Or.inl ⟨by rfl, ?_⟩) HS0.out ?_
  rotate_left
  · (intro W hSW; clear hSW; go_simp)
    first | done | (with_reducible rfl)
  try simp only [Act.put, List.setIfInBounds_toArray, List.set_cons_zero, List.set_cons_succ]
  refine wpAnyH_take (i := 1) (oi := ⟨some 8, _, _, _, _, _⟩) (v := ?_) rfl (by kernel_rfl) (by kernel_rfl) (by kernel_rfl) (fun _ _ _ h => h) (Or.inl ⟨by rfl, ?_⟩) HS0.out ?_
  rotate_left
  · (intro W hSW; clear hSW; go_simp)
    first | done | (with_reducible rfl)
  try simp only [Act.put, List.setIfInBounds_toArray, List.set_cons_zero, List.set_cons_succ]
  refine wpAnyH_take (i := 3) (oi := ⟨some 10, _, _, _, _, _⟩) (v := .agg p.cs.toArray) rfl (by kernel_rfl) (by kernel_rfl) (by kernel_rfl) (fun _ _ _ h => h) (yields_pre (by rfl) (.tmp 4) rfl _ 0 rfl p (fun _ h => whole_at h)) HS0.out ?_
  try simp only [Act.put, List.setIfInBounds_toArray, List.set_cons_zero, List.set_cons_succ]
  refine wpAnyH_ready (rs := [2]) (by kernel_rfl) (by simp) ?_
  refine AllReadyH.cons (o := ⟨some 9, _, _, _, _, _⟩) rfl (fun K hK => ?_) AllReadyH.nil
  go_simp
  refine (HAT.out _ M2.out.box).mono ?_
  rintro e x1 ⟨rfl, hx, hf⟩
  have M3 := Lib.hid (M2.out.turn hx hf swp_mem)
  have HS1 : Hid (Blk x1 w.heap.size 31 p.cs) := M3.out.pb
  clear hx hf M2
  go_simp
  refine hK.out _ _ ?_ (fun _ => ?_)
  · exact HS1.out
  clear hK K
  try simp only [Act.put, List.setIfInBounds_toArray, List.set_cons_zero, List.set_cons_succ]
  refine wpAnyH_ready (rs := [4]) (by kernel_rfl) (by simp) ?_
  refine AllReadyH.cons (o := ⟨some 11, _, _, _, _, _⟩) rfl (fun K hK => ?_) AllReadyH.nil
  go_simp
  refine (HDEL.out _ M3.out.box).mono ?_
  rintro e x2 ⟨rfl, ht, hf⟩
  have M4 := Lib.hid (M3.out.turn (M3.out.box.turn ht hf del_mem) hf del_mem)
  have HS2 : Hid (Blk x2 w.heap.size 31 p.cs) := M4.out.pb
  clear ht hf M3
  go_simp
  refine hK.out _ _ ?_ (fun _ => ?_)
  · exact HS2.out
  clear hK K
  try simp only [Act.put, List.setIfInBounds_toArray, List.set_cons_zero, List.set_cons_succ]
  refine wpAnyH_take (i := 5) (oi := ⟨some 6, _, _, _, _, _⟩) (v := ?_) rfl (by kernel_rfl) (by kernel_rfl) (by kernel_rfl) (fun _ _ _ h => h) (Or.inl ⟨by rfl, ?_⟩) HS2.out ?_
  rotate_left
  · (intro W hSW; clear hSW; go_simp)
    first | done | (with_reducible rfl)
  try simp only [Act.put, List.setIfInBounds_toArray, List.set_cons_zero, List.set_cons_succ]
  refine wpAnyH_done (by kernel_rfl) ?_ _
  have FIN : Hid (BOut f h q n g C L (del (swp L x) p) (.bool (has (swp L x) p)) w (.returned (.bool (has (swp L x) p))) x2) := M4.out.out _
  clear M4 HS0 HS1 HS2
  go_wp2_with fail
  go_ret
  exact FIN.out
set_option maxRecDepth 100000 in
set_option maxHeartbeats 1000000 in
theorem ball_ (f : Pre → Nat) (h q n g : Nat) (C : Cfg) (L : List Ent) (x : Int) (w : World) (hb0 : BoxAt f h q n w g C L) (ho : POks L) :
    Calls Try.prog 10 #[.pointer (some ⟨g, 0, none⟩), .int .i64 x] w fun e w' => ∃ A c, Els kPre w' A (pres (swp L x)) ∧ (pres (swp L x)).length ≤ c ∧ BOut f h q n g C L (swp L x) (.slice A (pres (swp L x)).length c) w e w' := by
  have HAT := Lib.hid (bat_ f h q n g C L x w hb0 ho)
  have HAL : Hid (∀ W, BoxAt f h q n W g C (swp L x) → Calls Try.prog 26 #[.pointer (some ⟨h, 0, none⟩)] W (DResF kPre (pres (swp L x)) W)) := fun W hW => allF_ f h q n _ W hW.tab
  clear hb0 ho
  go_enter Try.func10, Try.ntmps10
  go_wp2_with (first | (go_at_call 22; (with_reducible refine HAT.out.mono ?_); rintro e x1 ⟨rfl, hx, hf⟩; have X1 := Lib.hid hx; have F1 := Lib.hid hf; clear hx hf) | (go_at_call 26; (with_reducible refine (HAL.out _ X1.out).mono ?_); rintro e x2 ⟨A, c, rfl, hc, hE, hB, -⟩; have X2 := Lib.hid (X1.out.below hB); have F2 : Hid (Far (boxB f h q g L) w x2) := (F1.out.mono fun _ e => boxB_two e).trans (Far.of_below hB _) (fun _ _ e => e); have E2 := Lib.hid hE; have C2 := Lib.hid hc; clear hE hc hB))
  go_ret
  exact ⟨A, c, E2.out, C2.out, rfl, X2.out, F2.out⟩
set_option maxHeartbeats 400000 in
theorem bat_nil (x : Int) (w : World) : Calls Try.prog 22 #[.pointer none, .int .i64 x] w (Ans (.pointer none) w) := by
  go_enter Try.func22, Try.ntmps22
  go_wp2
  go_ret
  exact ⟨rfl, Below.refl _ _⟩
set_option maxHeartbeats 400000 in
theorem ball_nil (x : Int) (w : World) : Calls Try.prog 10 #[.pointer none, .int .i64 x] w (DRes kPre [] w) := by
  have H1 := Lib.hid (bat_nil x w)
  go_enter Try.func10, Try.ntmps10
  go_wp2_with (first | (go_at_call 22; (with_reducible refine H1.out.mono ?_); rintro e x1 ⟨rfl, hb⟩; have B1 := Lib.hid hb; clear hb) | (go_at_call 26; (with_reducible refine (allT_nil _).mono ?_); rintro e x2 ⟨A, c, rfl, hc, hE, hB⟩; have B2 : Hid (Below w.heap.size w x2) := B1.out.trans (hB.mono B1.out.size); have E2 := Lib.hid hE; have C2 := Lib.hid hc; clear hE hc hB))
  go_ret
  exact ⟨A, c, rfl, C2.out, E2.out, B2.out⟩
set_option maxHeartbeats 400000 in
theorem bput_nil (p : Pre) (x : Int) (w : World) : Calls Try.prog 8 #[.pointer none, .agg p.cs.toArray, .int .i64 x] w (Ans (.int .i64 1) w) := by
  have hb1 : Below w.heap.size w (w.alloc (.cells p.cs.toArray 31)) := (Below.refl _ w).alloc (Nat.le_refl _) _
  have B1 := Lib.hid hb1
  go_enter Try.func8, Try.ntmps8
  go_wp2
  go_ret
  exact ⟨rfl, B1.out⟩
end Go.Proofs.Ytpjeeccgpnpokaa
namespace Go.Proofs.Ytpjeeccgpnpokaa
open Go.RowKit

set_option maxRecDepth 100000 in
set_option maxHeartbeats 2000000 in
theorem bin_ (f : Pre → Nat) (h q n g : Nat) (C : Cfg) (L : List Ent) (p : Pre) (x : Int) (w : World) (hb0 : BoxAt f h q n w g C L) (ho : POks L) (hp : p.Ok) :
    Calls Try.prog 9 #[.pointer (some ⟨g, 0, none⟩), .agg p.cs.toArray, .int .i64 x] w (BOut f h q n g C L (swp L x) (.bool (has (swp L x) p)) w) := by
  have hb1 : Below w.heap.size w (w.alloc (.cells p.cs.toArray 31)) := (Below.refl _ w).alloc (Nat.le_refl _) _
  have M1 : Hid (Inn w f h q n g C L p (w.alloc (.cells p.cs.toArray 31))) := Inn.start hb0 hb1 (Blk.new w 31 p.cs)
  have HAT : Hid (∀ W, BoxAt f h q n W g C L → Calls Try.prog 22 #[.pointer (some ⟨g, 0, none⟩), .int .i64 x] W (BAtOut f h q n g C (swp L x) W)) := fun W hW => bat_ f h q n g C L x W hW ho
  have hos : POks (swp L x) := fun e he => ho e (swp_mem e he)
  obtain ⟨u, ob, bb, hbb, hob, HGET⟩ : ∃ u ob bb, has (swp L x) p = bb ∧ (bb = true → ob = some ⟨f p, 0, none⟩) ∧ Hid (∀ W, BoxAt f h q n W g C (swp L x) → Calls Try.prog 23 #[.pointer (some ⟨h, 0, none⟩), .agg p.cs.toArray] W (Ans (.tuple #[.agg #[.int .i64 u, .pointer ob], .bool bb]) W)) := by
    rcases hh : has (swp L x) p with _ | _
    · exact ⟨0, none, false, rfl, (fun e => by cases e), Lib.hid fun W hW => getT_no f h q n _ p W hW.tab hos hp hh⟩
    · exact ⟨_, _, true, rfl, (fun _ => rfl), Lib.hid fun W hW => getT_yes f h q n _ p W hW.tab hos hp hh (by have := hW.pos _ (at_mem (has_iff.1 hh)); omega)⟩
  rw [hbb]
  clear hb0 ho hp hos hbb hob hb1
  go_enter Try.func9, Try.ntmps9
  go_upto_region 1 with fail
  generalize (w.alloc (.cells p.cs.toArray 31)) = x1 at *
  have D0 : Hid (Blk x1.drew w.heap.size 31 p.cs) := M1.out.pb
  have M2 := Lib.hid M1.out.drew
  clear M1
  refine wp_region_held_drew (S := fun W => Blk W w.heap.size 31 p.cs) (by kernel_rfl) ?_ (fun _ => ?_)
  · exact D0.out
  generalize x1.drew = x2 at *
  refine wpAnyH_take (i := 0) (oi := ⟨some 10, _, _, _, _, _⟩) (v := ?_) rfl (by kernel_rfl) (by kernel_rfl) (by kernel_rfl) (fun _ _ _ h => h) (Or.inl ⟨by rfl, ?_⟩) D0.out ?_
  rotate_left
  · (intro W hSW; clear hSW; go_simp)
    first | done | (with_reducible rfl)
  try simp only [Act.put, List.setIfInBounds_toArray, List.set_cons_zero, List.set_cons_succ]
  refine wpAnyH_take (i := 1) (oi := ⟨some 11, _, _, _, _, _⟩) (v := ?_) rfl (by kernel_rfl) (by kernel_rfl) (by kernel_rfl) (fun _ _ _ h => h) (Or.inl ⟨by rfl, ?_⟩) D0.out ?_
  rotate_left
  · (intro W hSW; clear hSW; go_simp)
    first | done | (with_reducible rfl)
  try simp only [Act.put, List.setIfInBounds_toArray, List.set_cons_zero, List.set_cons_succ]
  refine wpAnyH_take (i := 3) (oi := ⟨some 13, _, _, _, _, _⟩) (v := .agg p.cs.toArray) rfl (by kernel_rfl) (by kernel_rfl) (by kernel_rfl) (fun _ _ _ h => h) (yields_pre (by rfl) (.tmp 4) rfl _ 0 rfl p (fun _ h => whole_at h)) D0.out ?_
  try simp only [Act.put, List.setIfInBounds_toArray, List.set_cons_zero, List.set_cons_succ]
  refine wpAnyH_ready (rs := [2, 8]) (by kernel_rfl) (by simp) ?_
  refine AllReadyH.cons (o := ⟨some 12, _, _, _, _, _⟩) rfl (fun K hK => ?_) (AllReadyH.cons (o := ⟨some 7, _, _, _, _, _⟩) rfl (fun K hK => ?_) (AllReadyH.nil))
  · go_simp
    refine (HAT.out _ M2.out.box).mono ?_
    rintro e x3 ⟨rfl, hx, hf⟩
    have M3 := Lib.hid (M2.out.turn hx hf swp_mem)
    clear hx hf M2 D0
    have D3 : Hid (Blk _ w.heap.size 31 p.cs) := M3.out.pb
    go_simp
    refine hK.out _ _ ?_ (fun _ => ?_)
    · exact D3.out
    clear hK K
    try simp only [Act.put, List.setIfInBounds_toArray, List.set_cons_zero, List.set_cons_succ]
    refine wpAnyH_ready (rs := [4, 8]) (by kernel_rfl) (by simp) ?_
    refine AllReadyH.cons (o := ⟨some 14, _, _, _, _, _⟩) rfl (fun K hK => ?_) (AllReadyH.cons (o := ⟨some 7, _, _, _, _, _⟩) rfl (fun K hK => ?_) (AllReadyH.nil))
    · go_simp
      refine (HGET.out _ M3.out.box).mono ?_
      rintro e x4 ⟨rfl, hb⟩
      have M4 := Lib.hid (M3.out.below hb)
      clear hb M3 D3
      have D4 : Hid (Blk _ w.heap.size 31 p.cs) := M4.out.pb
      go_simp
      refine hK.out _ _ ?_ (fun _ => ?_)
      · exact D4.out
      clear hK K
      try simp only [Act.put, List.setIfInBounds_toArray, List.set_cons_zero, List.set_cons_succ]
      refine wpAnyH_take (i := 5) (oi := ⟨some 9, _, _, _, _, _⟩) (v := ?_) rfl (by kernel_rfl) (by kernel_rfl) (by kernel_rfl) (fun _ _ _ h => h) (Or.inl ⟨by rfl, ?_⟩) D4.out ?_
      rotate_left
      · (intro W hSW; clear hSW; go_simp)
        first | done | (with_reducible rfl)
      try simp only [Act.put, List.setIfInBounds_toArray, List.set_cons_zero, List.set_cons_succ]
      refine wpAnyH_take (i := 6) (oi := ⟨some 15, _, _, _, _, _⟩) (v := ?_) rfl (by kernel_rfl) (by kernel_rfl) (by kernel_rfl) (fun _ _ _ h => h) (Or.inl ⟨by rfl, ?_⟩) D4.out ?_
      rotate_left
      · (intro W hSW; clear hSW; go_simp)
        first | done | (with_reducible rfl)
      try simp only [Act.put, List.setIfInBounds_toArray, List.set_cons_zero, List.set_cons_succ]
      refine wpAnyH_take (i := 7) (oi := ⟨some 16, _, _, _, _, _⟩) (v := ?_) rfl (by kernel_rfl) (by kernel_rfl) (by kernel_rfl) (fun _ _ _ h => h) (Or.inl ⟨by rfl, ?_⟩) D4.out ?_
      rotate_left
      · (intro W hSW; clear hSW; go_simp)
        first | done | (with_reducible rfl)
      try simp only [Act.put, List.setIfInBounds_toArray, List.set_cons_zero, List.set_cons_succ]
      refine wpAnyH_ready (rs := [8]) (by kernel_rfl) (by simp) ?_
      refine AllReadyH.cons (o := ⟨some 7, _, _, _, _, _⟩) rfl (fun K hK => ?_) (AllReadyH.nil)
      clear D4
      go_simp
      have KM5 : Hid (Blk (x4.alloc (.cells #[.int .i64 0, .pointer none] 60)) x4.heap.size 60 [.int .i64 0, .pointer none]) := Blk.new x4 60 _
      have hb0 : Below x4.heap.size x4 (x4.alloc (.cells #[.int .i64 0, .pointer none] 60)) := (Below.refl _ x4).alloc (Nat.le_refl _) (.cells #[.int .i64 0, .pointer none] 60)
      have HPb : Hid (w.heap.size < x4.heap.size) := M4.out.pb.lt
      have M5 := Lib.hid (M4.out.below hb0)
      refine hK.out _ _ ?_ (fun _ => ?_)
      · exact M5.out.pb
      clear hK K M4 hb0
      try simp only [Act.put, List.setIfInBounds_toArray, List.set_cons_zero, List.set_cons_succ]
      generalize x4.alloc (.cells #[.int .i64 0, .pointer none] 60) = x5 at *
      generalize x4.heap.size = b at *
      refine wpAnyH_ready (rs := [9]) (by kernel_rfl) (by simp) ?_
      refine AllReadyH.cons (o := ⟨none, _, _, _, _, _⟩) rfl (fun K hK => ?_) (AllReadyH.nil)
      refine step_layT (by rfl) 60 2 size60 (.tmp 7) (.tmp 15) (by rfl) b [.int .i64 u, .pointer ob] (by rfl) (by rfl) 60 [.int .i64 0, .pointer none] KM5.out rfl rfl (stay_one _ _) ?_
      intro x6 K9 F9
      have M6 := Lib.hid (M5.out.past F9.out HPb.out)
      have c9 : x6.cell? ⟨b, 1, none⟩ = some (.pointer ob) := K9.out.cell 1
      refine hK.out _ _ ?_ (fun _ => ?_)
      · exact M6.out.pb
      clear hK K K9 F9 KM5 M5
      try simp only [Act.put]
      have D9 : Hid (Blk x6 w.heap.size 31 p.cs) := M6.out.pb
      refine wpAnyH_take (i := 10) (oi := ⟨some 8, _, _, _, _, _⟩) (v := ?_) rfl (by kernel_rfl) (by kernel_rfl) (by kernel_rfl) (fun _ _ _ h => h) (Or.inl ⟨by rfl, ?_⟩) D9.out ?_
      rotate_left
      · (intro W hSW; clear hSW; go_simp)
        first | done | (with_reducible rfl)
      try simp only [Act.put, List.setIfInBounds_toArray, List.set_cons_zero, List.set_cons_succ]
      refine wpAnyH_done (by kernel_rfl) ?_ _
      clear D9
      have FIN : Hid (BOut f h q n g C L (swp L x) (.bool bb) w (.returned (.bool bb)) x6) := M6.out.out _
      clear M6 c9
      go_wp2_with fail
      go_ret
      exact FIN.out
    · clear D3
      go_simp
      have KM4 : Hid (Blk (x3.alloc (.cells #[.int .i64 0, .pointer none] 60)) x3.heap.size 60 [.int .i64 0, .pointer none]) := Blk.new x3 60 _
      have hb0 : Below x3.heap.size x3 (x3.alloc (.cells #[.int .i64 0, .pointer none] 60)) := (Below.refl _ x3).alloc (Nat.le_refl _) (.cells #[.int .i64 0, .pointer none] 60)
      have HPb : Hid (w.heap.size < x3.heap.size) := M3.out.pb.lt
      have M4 := Lib.hid (M3.out.below hb0)
      refine hK.out _ _ ?_ (fun _ => ?_)
      · exact M4.out.pb
      clear hK K M3 hb0
      try simp only [Act.put, List.setIfInBounds_toArray, List.set_cons_zero, List.set_cons_succ]
      generalize x3.alloc (.cells #[.int .i64 0, .pointer none] 60) = x4 at *
      generalize x3.heap.size = b at *
      refine wpAnyH_ready (rs := [4]) (by kernel_rfl) (by simp) ?_
      refine AllReadyH.cons (o := ⟨some 14, _, _, _, _, _⟩) rfl (fun K hK => ?_) (AllReadyH.nil)
      go_simp
      refine (HGET.out _ M4.out.box).mono ?_
      rintro e x5 ⟨rfl, hb⟩
      have M5 := Lib.hid (M4.out.below hb)
      have KM5 := Lib.hid (KM4.out.below hb)
      clear hb M4 KM4
      have D5 : Hid (Blk _ w.heap.size 31 p.cs) := M5.out.pb
      go_simp
      refine hK.out _ _ ?_ (fun _ => ?_)
      · exact D5.out
      clear hK K
      try simp only [Act.put, List.setIfInBounds_toArray, List.set_cons_zero, List.set_cons_succ]
      refine wpAnyH_take (i := 5) (oi := ⟨some 9, _, _, _, _, _⟩) (v := ?_) rfl (by kernel_rfl) (by kernel_rfl) (by kernel_rfl) (fun _ _ _ h => h) (Or.inl ⟨by rfl, ?_⟩) D5.out ?_
      rotate_left
      · (intro W hSW; clear hSW; go_simp)
        first | done | (with_reducible rfl)
      try simp only [Act.put, List.setIfInBounds_toArray, List.set_cons_zero, List.set_cons_succ]
      refine wpAnyH_take (i := 6) (oi := ⟨some 15, _, _, _, _, _⟩) (v := ?_) rfl (by kernel_rfl) (by kernel_rfl) (by kernel_rfl) (fun _ _ _ h => h) (Or.inl ⟨by rfl, ?_⟩) D5.out ?_
      rotate_left
      · (intro W hSW; clear hSW; go_simp)
        first | done | (with_reducible rfl)
      try simp only [Act.put, List.setIfInBounds_toArray, List.set_cons_zero, List.set_cons_succ]
      refine wpAnyH_take (i := 7) (oi := ⟨some 16, _, _, _, _, _⟩) (v := ?_) rfl (by kernel_rfl) (by kernel_rfl) (by kernel_rfl) (fun _ _ _ h => h) (Or.inl ⟨by rfl, ?_⟩) D5.out ?_
      rotate_left
      · (intro W hSW; clear hSW; go_simp)
        first | done | (with_reducible rfl)
      try simp only [Act.put, List.setIfInBounds_toArray, List.set_cons_zero, List.set_cons_succ]
      clear D5
      refine wpAnyH_ready (rs := [9]) (by kernel_rfl) (by simp) ?_
      refine AllReadyH.cons (o := ⟨none, _, _, _, _, _⟩) rfl (fun K hK => ?_) (AllReadyH.nil)
      refine step_layT (by rfl) 60 2 size60 (.tmp 7) (.tmp 15) (by rfl) b [.int .i64 u, .pointer ob] (by rfl) (by rfl) 60 [.int .i64 0, .pointer none] KM5.out rfl rfl (stay_one _ _) ?_
      intro x6 K9 F9
      have M6 := Lib.hid (M5.out.past F9.out HPb.out)
      have c9 : x6.cell? ⟨b, 1, none⟩ = some (.pointer ob) := K9.out.cell 1
      refine hK.out _ _ ?_ (fun _ => ?_)
      · exact M6.out.pb
      clear hK K K9 F9 KM5 M5
      try simp only [Act.put]
      have D9 : Hid (Blk x6 w.heap.size 31 p.cs) := M6.out.pb
      refine wpAnyH_take (i := 10) (oi := ⟨some 8, _, _, _, _, _⟩) (v := ?_) rfl (by kernel_rfl) (by kernel_rfl) (by kernel_rfl) (fun _ _ _ h => h) (Or.inl ⟨by rfl, ?_⟩) D9.out ?_
      rotate_left
      · (intro W hSW; clear hSW; go_simp)
        first | done | (with_reducible rfl)
      try simp only [Act.put, List.setIfInBounds_toArray, List.set_cons_zero, List.set_cons_succ]
      refine wpAnyH_done (by kernel_rfl) ?_ _
      clear D9
      have FIN : Hid (BOut f h q n g C L (swp L x) (.bool bb) w (.returned (.bool bb)) x6) := M6.out.out _
      clear M6 c9
      go_wp2_with fail
      go_ret
      exact FIN.out
  · clear D0
    go_simp
    have KM3 : Hid (Blk (x2.alloc (.cells #[.int .i64 0, .pointer none] 60)) x2.heap.size 60 [.int .i64 0, .pointer none]) := Blk.new x2 60 _
    have hb0 : Below x2.heap.size x2 (x2.alloc (.cells #[.int .i64 0, .pointer none] 60)) := (Below.refl _ x2).alloc (Nat.le_refl _) (.cells #[.int .i64 0, .pointer none] 60)
    have HPb : Hid (w.heap.size < x2.heap.size) := M2.out.pb.lt
    have M3 := Lib.hid (M2.out.below hb0)
    refine hK.out _ _ ?_ (fun _ => ?_)
    · exact M3.out.pb
    clear hK K M2 hb0
    try simp only [Act.put, List.setIfInBounds_toArray, List.set_cons_zero, List.set_cons_succ]
    generalize x2.alloc (.cells #[.int .i64 0, .pointer none] 60) = x3 at *
    generalize x2.heap.size = b at *
    refine wpAnyH_ready (rs := [2]) (by kernel_rfl) (by simp) ?_
    refine AllReadyH.cons (o := ⟨some 12, _, _, _, _, _⟩) rfl (fun K hK => ?_) (AllReadyH.nil)
    go_simp
    refine (HAT.out _ M3.out.box).mono ?_
    rintro e x4 ⟨rfl, hx, hf⟩
    have M4 := Lib.hid (M3.out.turn hx hf swp_mem)
    have KM4 := Lib.hid (KM3.out.far hf (fun e => by have h3 := M3.out.old; have h4 := HPb.out; rcases e with e | e <;> omega))
    clear hx hf M3 KM3
    have D4 : Hid (Blk _ w.heap.size 31 p.cs) := M4.out.pb
    go_simp
    refine hK.out _ _ ?_ (fun _ => ?_)
    · exact D4.out
    clear hK K
    try simp only [Act.put, List.setIfInBounds_toArray, List.set_cons_zero, List.set_cons_succ]
    refine wpAnyH_ready (rs := [4]) (by kernel_rfl) (by simp) ?_
    refine AllReadyH.cons (o := ⟨some 14, _, _, _, _, _⟩) rfl (fun K hK => ?_) (AllReadyH.nil)
    go_simp
    refine (HGET.out _ M4.out.box).mono ?_
    rintro e x5 ⟨rfl, hb⟩
    have M5 := Lib.hid (M4.out.below hb)
    have KM5 := Lib.hid (KM4.out.below hb)
    clear hb M4 KM4 D4
    have D5 : Hid (Blk _ w.heap.size 31 p.cs) := M5.out.pb
    go_simp
    refine hK.out _ _ ?_ (fun _ => ?_)
    · exact D5.out
    clear hK K
    try simp only [Act.put, List.setIfInBounds_toArray, List.set_cons_zero, List.set_cons_succ]
    refine wpAnyH_take (i := 5) (oi := ⟨some 9, _, _, _, _, _⟩) (v := ?_) rfl (by kernel_rfl) (by kernel_rfl) (by kernel_rfl) (fun _ _ _ h => h) (Or.inl ⟨by rfl, ?_⟩) D5.out ?_
    rotate_left
    · (intro W hSW; clear hSW; go_simp)
      first | done | (with_reducible rfl)
    try simp only [Act.put, List.setIfInBounds_toArray, List.set_cons_zero, List.set_cons_succ]
    refine wpAnyH_take (i := 6) (oi := ⟨some 15, _, _, _, _, _⟩) (v := ?_) rfl (by kernel_rfl) (by kernel_rfl) (by kernel_rfl) (fun _ _ _ h => h) (Or.inl ⟨by rfl, ?_⟩) D5.out ?_
    rotate_left
    · (intro W hSW; clear hSW; go_simp)
      first | done | (with_reducible rfl)
    try simp only [Act.put, List.setIfInBounds_toArray, List.set_cons_zero, List.set_cons_succ]
    refine wpAnyH_take (i := 7) (oi := ⟨some 16, _, _, _, _, _⟩) (v := ?_) rfl (by kernel_rfl) (by kernel_rfl) (by kernel_rfl) (fun _ _ _ h => h) (Or.inl ⟨by rfl, ?_⟩) D5.out ?_
    rotate_left
    · (intro W hSW; clear hSW; go_simp)
      first | done | (with_reducible rfl)
    try simp only [Act.put, List.setIfInBounds_toArray, List.set_cons_zero, List.set_cons_succ]
    clear D5
    refine wpAnyH_ready (rs := [9]) (by kernel_rfl) (by simp) ?_
    refine AllReadyH.cons (o := ⟨none, _, _, _, _, _⟩) rfl (fun K hK => ?_) (AllReadyH.nil)
    refine step_layT (by rfl) 60 2 size60 (.tmp 7) (.tmp 15) (by rfl) b [.int .i64 u, .pointer ob] (by rfl) (by rfl) 60 [.int .i64 0, .pointer none] KM5.out rfl rfl (stay_one _ _) ?_
    intro x6 K9 F9
    have M6 := Lib.hid (M5.out.past F9.out HPb.out)
    have c9 : x6.cell? ⟨b, 1, none⟩ = some (.pointer ob) := K9.out.cell 1
    refine hK.out _ _ ?_ (fun _ => ?_)
    · exact M6.out.pb
    clear hK K K9 F9 KM5 M5
    try simp only [Act.put]
    have D9 : Hid (Blk x6 w.heap.size 31 p.cs) := M6.out.pb
    refine wpAnyH_take (i := 10) (oi := ⟨some 8, _, _, _, _, _⟩) (v := ?_) rfl (by kernel_rfl) (by kernel_rfl) (by kernel_rfl) (fun _ _ _ h => h) (Or.inl ⟨by rfl, ?_⟩) D9.out ?_
    rotate_left
    · (intro W hSW; clear hSW; go_simp)
      first | done | (with_reducible rfl)
    try simp only [Act.put, List.setIfInBounds_toArray, List.set_cons_zero, List.set_cons_succ]
    refine wpAnyH_done (by kernel_rfl) ?_ _
    clear D9
    have FIN : Hid (BOut f h q n g C L (swp L x) (.bool bb) w (.returned (.bool bb)) x6) := M6.out.out _
    clear M6 c9
    go_wp2_with fail
    go_ret
    exact FIN.out
end Go.Proofs.Ytpjeeccgpnpokaa
namespace Go.Proofs.Ytpjeeccgpnpokaa
open Go.RowKit

structure NilIn (w : World) (p : Pre) (W : World) : Prop where
  pb : Blk W w.heap.size 31 p.cs
  be : Below w.heap.size w W
section
variable {w W W' : World} {p : Pre} {b : Nat}
theorem NilIn.box (_ : NilIn w p W) : True := trivial
theorem NilIn.below (m : NilIn w p W) (h : Below W.heap.size W W') : NilIn w p W' := ⟨m.pb.below h, m.be.trans (h.mono m.be.size)⟩
theorem NilIn.drew (m : NilIn w p W) : NilIn w p W.drew := m.below (below_drewN (Below.refl _ _) 1)
theorem NilIn.turn (m : NilIn w p W) (_ : True) (h : Below W.heap.size W W') (_ : True) : NilIn w p W' := m.below h
theorem NilIn.past (m : NilIn w p W) (hf : Far (only b) W W') (hb : w.heap.size < b) : NilIn w p W' := ⟨m.pb.far hf (fun e => by have e' : w.heap.size = b := e; omega), below_only m.be hf (by omega) m.be.size⟩
end
set_option maxRecDepth 100000 in
set_option maxHeartbeats 2000000 in
theorem bin_nil (p : Pre) (x : Int) (w : World) : Calls Try.prog 9 #[.pointer none, .agg p.cs.toArray, .int .i64 x] w (Ans (.bool false) w) := by
  have M1 : Hid (NilIn w p (w.alloc (.cells p.cs.toArray 31))) := ⟨Blk.new w 31 p.cs, (Below.refl _ w).alloc (Nat.le_refl _) _⟩
  have HAT : Hid (∀ W, True → Calls Try.prog 22 #[.pointer none, .int .i64 x] W fun e w' => e = .returned (.pointer none) ∧ True ∧ Below W.heap.size W w') := fun W _ => (bat_nil x W).mono fun _ _ h => ⟨h.1, trivial, h.2⟩
  have HGET : Hid (∀ W, True → Calls Try.prog 23 #[.pointer none, .agg p.cs.toArray] W (Ans (.tuple #[.agg #[.int .i64 0, .pointer none], .bool false]) W)) := fun W _ => getT_nil p W
  have swp_mem : True := trivial
  go_enter Try.func9, Try.ntmps9
  go_upto_region 1 with fail
  generalize (w.alloc (.cells p.cs.toArray 31)) = x1 at *
  have D0 : Hid (Blk x1.drew w.heap.size 31 p.cs) := M1.out.pb
  have M2 := Lib.hid M1.out.drew
  clear M1
  refine wp_region_held_drew (S := fun W => Blk W w.heap.size 31 p.cs) (by kernel_rfl) ?_ (fun _ => ?_)
  · exact D0.out
  generalize x1.drew = x2 at *
  refine wpAnyH_take (i := 0) (oi := ⟨some 10, _, _, _, _, _⟩) (v := ?_) rfl (by kernel_rfl) (by kernel_rfl) (by kernel_rfl) (fun _ _ _ h => h) (Or.inl ⟨by rfl, ?_⟩) D0.out ?_
  rotate_left
  · (intro W hSW; clear hSW; go_simp)
    first | done | (with_reducible rfl)
  try simp only [Act.put, List.setIfInBounds_toArray, List.set_cons_zero, List.set_cons_succ]
  refine wpAnyH_take (i := 1) (oi := ⟨some 11, _, _, _, _, _⟩) (v := ?_) rfl (by kernel_rfl) (by kernel_rfl) (by kernel_rfl) (fun _ _ _ h => h) (Or.inl ⟨by rfl, ?_⟩) D0.out ?_
  rotate_left
  · (intro W hSW; clear hSW; go_simp)
    first | done | (with_reducible rfl)
  try simp only [Act.put, List.setIfInBounds_toArray, List.set_cons_zero, List.set_cons_succ]
  refine wpAnyH_take (i := 3) (oi := ⟨some 13, _, _, _, _, _⟩) (v := .agg p.cs.toArray) rfl (by kernel_rfl) (by kernel_rfl) (by kernel_rfl) (fun _ _ _ h => h) (yields_pre (by rfl) (.tmp 4) rfl _ 0 rfl p (fun _ h => whole_at h)) D0.out ?_
  try simp only [Act.put, List.setIfInBounds_toArray, List.set_cons_zero, List.set_cons_succ]
  refine wpAnyH_ready (rs := [2, 8]) (by kernel_rfl) (by simp) ?_
  refine AllReadyH.cons (o := ⟨some 12, _, _, _, _, _⟩) rfl (fun K hK => ?_) (AllReadyH.cons (o := ⟨some 7, _, _, _, _, _⟩) rfl (fun K hK => ?_) (AllReadyH.nil))
  · go_simp
    refine (HAT.out _ M2.out.box).mono ?_
    rintro e x3 ⟨rfl, hx, hf⟩
    have M3 := Lib.hid (M2.out.turn hx hf swp_mem)
    clear hx hf M2 D0
    have D3 : Hid (Blk _ w.heap.size 31 p.cs) := M3.out.pb
    go_simp
    refine hK.out _ _ ?_ (fun _ => ?_)
    · exact D3.out
    clear hK K
    try simp only [Act.put, List.setIfInBounds_toArray, List.set_cons_zero, List.set_cons_succ]
    refine wpAnyH_ready (rs := [4, 8]) (by kernel_rfl) (by simp) ?_
    refine AllReadyH.cons (o := ⟨some 14, _, _, _, _, _⟩) rfl (fun K hK => ?_) (AllReadyH.cons (o := ⟨some 7, _, _, _, _, _⟩) rfl (fun K hK => ?_) (AllReadyH.nil))
    · go_simp
      refine (HGET.out _ M3.out.box).mono ?_
      rintro e x4 ⟨rfl, hb⟩
      have M4 := Lib.hid (M3.out.below hb)
      clear hb M3 D3
      have D4 : Hid (Blk _ w.heap.size 31 p.cs) := M4.out.pb
      go_simp
      refine hK.out _ _ ?_ (fun _ => ?_)
      · exact D4.out
      clear hK K
      try simp only [Act.put, List.setIfInBounds_toArray, List.set_cons_zero, List.set_cons_succ]
      refine wpAnyH_take (i := 5) (oi := ⟨some 9, _, _, _, _, _⟩) (v := ?_) rfl (by kernel_rfl) (by kernel_rfl) (by kernel_rfl) (fun _ _ _ h => h) (Or.inl ⟨by rfl, ?_⟩) D4.out ?_
      rotate_left
      · (intro W hSW; clear hSW; go_simp)
        first | done | (with_reducible rfl)
      try simp only [Act.put, List.setIfInBounds_toArray, List.set_cons_zero, List.set_cons_succ]
      refine wpAnyH_take (i := 6) (oi := ⟨some 15, _, _, _, _, _⟩) (v := ?_) rfl (by kernel_rfl) (by kernel_rfl) (by kernel_rfl) (fun _ _ _ h => h) (Or.inl ⟨by rfl, ?_⟩) D4.out ?_
      rotate_left
      · (intro W hSW; clear hSW; go_simp)
        first | done | (with_reducible rfl)
      try simp only [Act.put, List.setIfInBounds_toArray, List.set_cons_zero, List.set_cons_succ]
      refine wpAnyH_take (i := 7) (oi := ⟨some 16, _, _, _, _, _⟩) (v := ?_) rfl (by kernel_rfl) (by kernel_rfl) (by kernel_rfl) (fun _ _ _ h => h) (Or.inl ⟨by rfl, ?_⟩) D4.out ?_
      rotate_left
      · (intro W hSW; clear hSW; go_simp)
        first | done | (with_reducible rfl)
      try simp only [Act.put, List.setIfInBounds_toArray, List.set_cons_zero, List.set_cons_succ]
      refine wpAnyH_ready (rs := [8]) (by kernel_rfl) (by simp) ?_
      refine AllReadyH.cons (o := ⟨some 7, _, _, _, _, _⟩) rfl (fun K hK => ?_) (AllReadyH.nil)
      clear D4
      go_simp
      have KM5 : Hid (Blk (x4.alloc (.cells #[.int .i64 0, .pointer none] 60)) x4.heap.size 60 [.int .i64 0, .pointer none]) := Blk.new x4 60 _
      have hb0 : Below x4.heap.size x4 (x4.alloc (.cells #[.int .i64 0, .pointer none] 60)) := (Below.refl _ x4).alloc (Nat.le_refl _) (.cells #[.int .i64 0, .pointer none] 60)
      have HPb : Hid (w.heap.size < x4.heap.size) := M4.out.pb.lt
      have M5 := Lib.hid (M4.out.below hb0)
      refine hK.out _ _ ?_ (fun _ => ?_)
      · exact M5.out.pb
      clear hK K M4 hb0
      try simp only [Act.put, List.setIfInBounds_toArray, List.set_cons_zero, List.set_cons_succ]
      generalize x4.alloc (.cells #[.int .i64 0, .pointer none] 60) = x5 at *
      generalize x4.heap.size = b at *
      refine wpAnyH_ready (rs := [9]) (by kernel_rfl) (by simp) ?_
      refine AllReadyH.cons (o := ⟨none, _, _, _, _, _⟩) rfl (fun K hK => ?_) (AllReadyH.nil)
      refine step_layT (by rfl) 60 2 size60 (.tmp 7) (.tmp 15) (by rfl) b [.int .i64 0, .pointer none] (by rfl) (by rfl) 60 [.int .i64 0, .pointer none] KM5.out rfl rfl (stay_one _ _) ?_
      intro x6 K9 F9
      have M6 := Lib.hid (M5.out.past F9.out HPb.out)
      have c9 : x6.cell? ⟨b, 1, none⟩ = some (.pointer none) := K9.out.cell 1
      refine hK.out _ _ ?_ (fun _ => ?_)
      · exact M6.out.pb
      clear hK K K9 F9 KM5 M5
      try simp only [Act.put]
      have D9 : Hid (Blk x6 w.heap.size 31 p.cs) := M6.out.pb
      refine wpAnyH_take (i := 10) (oi := ⟨some 8, _, _, _, _, _⟩) (v := ?_) rfl (by kernel_rfl) (by kernel_rfl) (by kernel_rfl) (fun _ _ _ h => h) (Or.inl ⟨by rfl, ?_⟩) D9.out ?_
      rotate_left
      · (intro W hSW; clear hSW; go_simp)
        first | done | (with_reducible rfl)
      try simp only [Act.put, List.setIfInBounds_toArray, List.set_cons_zero, List.set_cons_succ]
      refine wpAnyH_done (by kernel_rfl) ?_ _
      clear D9
      have FIN : Hid (Ans (.bool false) w (.returned (.bool false)) x6) := ⟨rfl, M6.out.be⟩
      clear M6 c9
      go_wp2_with fail
      go_ret
      exact FIN.out
    · clear D3
      go_simp
      have KM4 : Hid (Blk (x3.alloc (.cells #[.int .i64 0, .pointer none] 60)) x3.heap.size 60 [.int .i64 0, .pointer none]) := Blk.new x3 60 _
      have hb0 : Below x3.heap.size x3 (x3.alloc (.cells #[.int .i64 0, .pointer none] 60)) := (Below.refl _ x3).alloc (Nat.le_refl _) (.cells #[.int .i64 0, .pointer none] 60)
      have HPb : Hid (w.heap.size < x3.heap.size) := M3.out.pb.lt
      have M4 := Lib.hid (M3.out.below hb0)
      refine hK.out _ _ ?_ (fun _ => ?_)
      · exact M4.out.pb
      clear hK K M3 hb0
      try simp only [Act.put, List.setIfInBounds_toArray, List.set_cons_zero, List.set_cons_succ]
      generalize x3.alloc (.cells #[.int .i64 0, .pointer none] 60) = x4 at *
      generalize x3.heap.size = b at *
      refine wpAnyH_ready (rs := [4]) (by kernel_rfl) (by simp) ?_
      refine AllReadyH.cons (o := ⟨some 14, _, _, _, _, _⟩) rfl (fun K hK => ?_) (AllReadyH.nil)
      go_simp
      refine (HGET.out _ M4.out.box).mono ?_
      rintro e x5 ⟨rfl, hb⟩
      have M5 := Lib.hid (M4.out.below hb)
      have KM5 := Lib.hid (KM4.out.below hb)
      clear hb M4 KM4
      have D5 : Hid (Blk _ w.heap.size 31 p.cs) := M5.out.pb
      go_simp
      refine hK.out _ _ ?_ (fun _ => ?_)
      · exact D5.out
      clear hK K
      try simp only [Act.put, List.setIfInBounds_toArray, List.set_cons_zero, List.set_cons_succ]
      refine wpAnyH_take (i := 5) (oi := ⟨some 9, _, _, _, _, _⟩) (v := ?_) rfl (by kernel_rfl) (by kernel_rfl) (by kernel_rfl) (fun _ _ _ h => h) (Or.inl ⟨by rfl, ?_⟩) D5.out ?_
      rotate_left
      · (intro W hSW; clear hSW; go_simp)
        first | done | (with_reducible rfl)
      try simp only [Act.put, List.setIfInBounds_toArray, List.set_cons_zero, List.set_cons_succ]
      refine wpAnyH_take (i := 6) (oi := ⟨some 15, _, _, _, _, _⟩) (v := ?_) rfl (by kernel_rfl) (by kernel_rfl) (by kernel_rfl) (fun _ _ _ h => h) (Or.inl ⟨by rfl, ?_⟩) D5.out ?_
      rotate_left
      · (intro W hSW; clear hSW; go_simp)
        first | done | (with_reducible rfl)
      try simp only [Act.put, List.setIfInBounds_toArray, List.set_cons_zero, List.set_cons_succ]
      refine wpAnyH_take (i := 7) (oi := ⟨some 16, _, _, _, _, _⟩) (v := ?_) rfl (by kernel_rfl) (by kernel_rfl) (by kernel_rfl) (fun _ _ _ h => h) (Or.inl ⟨by rfl, ?_⟩) D5.out ?_
      rotate_left
      · (intro W hSW; clear hSW; go_simp)
        first | done | (with_reducible rfl)
      try simp only [Act.put, List.setIfInBounds_toArray, List.set_cons_zero, List.set_cons_succ]
      clear D5
      refine wpAnyH_ready (rs := [9]) (by kernel_rfl) (by simp) ?_
      refine AllReadyH.cons (o := ⟨none, _, _, _, _, _⟩) rfl (fun K hK => ?_) (AllReadyH.nil)
      refine step_layT (by rfl) 60 2 size60 (.tmp 7) (.tmp 15) (by rfl) b [.int .i64 0, .pointer none] (by rfl) (by rfl) 60 [.int .i64 0, .pointer none] KM5.out rfl rfl (stay_one _ _) ?_
      intro x6 K9 F9
      have M6 := Lib.hid (M5.out.past F9.out HPb.out)
      have c9 : x6.cell? ⟨b, 1, none⟩ = some (.pointer none) := K9.out.cell 1
      refine hK.out _ _ ?_ (fun _ => ?_)
      · exact M6.out.pb
      clear hK K K9 F9 KM5 M5
      try simp only [Act.put]
      have D9 : Hid (Blk x6 w.heap.size 31 p.cs) := M6.out.pb
      refine wpAnyH_take (i := 10) (oi := ⟨some 8, _, _, _, _, _⟩) (v := ?_) rfl (by kernel_rfl) (by kernel_rfl) (by kernel_rfl) (fun _ _ _ h => h) (Or.inl ⟨by rfl, ?_⟩) D9.out ?_
      rotate_left
      · (intro W hSW; clear hSW; go_simp)
        first | done | (with_reducible rfl)
      try simp only [Act.put, List.setIfInBounds_toArray, List.set_cons_zero, List.set_cons_succ]
      refine wpAnyH_done (by kernel_rfl) ?_ _
      clear D9
      have FIN : Hid (Ans (.bool false) w (.returned (.bool false)) x6) := ⟨rfl, M6.out.be⟩
      clear M6 c9
      go_wp2_with fail
      go_ret
      exact FIN.out
  · clear D0
    go_simp
    have KM3 : Hid (Blk (x2.alloc (.cells #[.int .i64 0, .pointer none] 60)) x2.heap.size 60 [.int .i64 0, .pointer none]) := Blk.new x2 60 _
    have hb0 : Below x2.heap.size x2 (x2.alloc (.cells #[.int .i64 0, .pointer none] 60)) := (Below.refl _ x2).alloc (Nat.le_refl _) (.cells #[.int .i64 0, .pointer none] 60)
    have HPb : Hid (w.heap.size < x2.heap.size) := M2.out.pb.lt
    have M3 := Lib.hid (M2.out.below hb0)
    refine hK.out _ _ ?_ (fun _ => ?_)
    · exact M3.out.pb
    clear hK K M2 hb0
    try simp only [Act.put, List.setIfInBounds_toArray, List.set_cons_zero, List.set_cons_succ]
    generalize x2.alloc (.cells #[.int .i64 0, .pointer none] 60) = x3 at *
    generalize x2.heap.size = b at *
    refine wpAnyH_ready (rs := [2]) (by kernel_rfl) (by simp) ?_
    refine AllReadyH.cons (o := ⟨some 12, _, _, _, _, _⟩) rfl (fun K hK => ?_) (AllReadyH.nil)
    go_simp
    refine (HAT.out _ M3.out.box).mono ?_
    rintro e x4 ⟨rfl, hx, hf⟩
    have M4 := Lib.hid (M3.out.turn hx hf swp_mem)
    have KM4 := Lib.hid (KM3.out.below hf)
    clear hx hf M3 KM3
    have D4 : Hid (Blk _ w.heap.size 31 p.cs) := M4.out.pb
    go_simp
    refine hK.out _ _ ?_ (fun _ => ?_)
    · exact D4.out
    clear hK K
    try simp only [Act.put, List.setIfInBounds_toArray, List.set_cons_zero, List.set_cons_succ]
    refine wpAnyH_ready (rs := [4]) (by kernel_rfl) (by simp) ?_
    refine AllReadyH.cons (o := ⟨some 14, _, _, _, _, _⟩) rfl (fun K hK => ?_) (AllReadyH.nil)
    go_simp
    refine (HGET.out _ M4.out.box).mono ?_
    rintro e x5 ⟨rfl, hb⟩
    have M5 := Lib.hid (M4.out.below hb)
    have KM5 := Lib.hid (KM4.out.below hb)
    clear hb M4 KM4 D4
    have D5 : Hid (Blk _ w.heap.size 31 p.cs) := M5.out.pb
    go_simp
    refine hK.out _ _ ?_ (fun _ => ?_)
    · exact D5.out
    clear hK K
    try simp only [Act.put, List.setIfInBounds_toArray, List.set_cons_zero, List.set_cons_succ]
    refine wpAnyH_take (i := 5) (oi := ⟨some 9, _, _, _, _, _⟩) (v := ?_) rfl (by kernel_rfl) (by kernel_rfl) (by kernel_rfl) (fun _ _ _ h => h) (Or.inl ⟨by rfl, ?_⟩) D5.out ?_
    rotate_left
    · (intro W hSW; clear hSW; go_simp)
      first | done | (with_reducible rfl)
    try simp only [Act.put, List.setIfInBounds_toArray, List.set_cons_zero, List.set_cons_succ]
    refine wpAnyH_take (i := 6) (oi := ⟨some 15, _, _, _, _, _⟩) (v := ?_) rfl (by kernel_rfl) (by kernel_rfl) (by kernel_rfl) (fun _ _ _ h => h) (Or.inl ⟨by rfl, ?_⟩) D5.out ?_
    rotate_left
    · (intro W hSW; clear hSW; go_simp)
      first | done | (with_reducible rfl)
    try simp only [Act.put, List.setIfInBounds_toArray, List.set_cons_zero, List.set_cons_succ]
    refine wpAnyH_take (i := 7) (oi := ⟨some 16, _, _, _, _, _⟩) (v := ?_) rfl (by kernel_rfl) (by kernel_rfl) (by kernel_rfl) (fun _ _ _ h => h) (Or.inl ⟨by rfl, ?_⟩) D5.out ?_
    rotate_left
    · (intro W hSW; clear hSW; go_simp)
      first | done | (with_reducible rfl)
    try simp only [Act.put, List.setIfInBounds_toArray, List.set_cons_zero, List.set_cons_succ]
    clear D5
    refine wpAnyH_ready (rs := [9]) (by kernel_rfl) (by simp) ?_
    refine AllReadyH.cons (o := ⟨none, _, _, _, _, _⟩) rfl (fun K hK => ?_) (AllReadyH.nil)
    refine step_layT (by rfl) 60 2 size60 (.tmp 7) (.tmp 15) (by rfl) b [.int .i64 0, .pointer none] (by rfl) (by rfl) 60 [.int .i64 0, .pointer none] KM5.out rfl rfl (stay_one _ _) ?_
    intro x6 K9 F9
    have M6 := Lib.hid (M5.out.past F9.out HPb.out)
    have c9 : x6.cell? ⟨b, 1, none⟩ = some (.pointer none) := K9.out.cell 1
    refine hK.out _ _ ?_ (fun _ => ?_)
    · exact M6.out.pb
    clear hK K K9 F9 KM5 M5
    try simp only [Act.put]
    have D9 : Hid (Blk x6 w.heap.size 31 p.cs) := M6.out.pb
    refine wpAnyH_take (i := 10) (oi := ⟨some 8, _, _, _, _, _⟩) (v := ?_) rfl (by kernel_rfl) (by kernel_rfl) (by kernel_rfl) (fun _ _ _ h => h) (Or.inl ⟨by rfl, ?_⟩) D9.out ?_
    rotate_left
    · (intro W hSW; clear hSW; go_simp)
      first | done | (with_reducible rfl)
    try simp only [Act.put, List.setIfInBounds_toArray, List.set_cons_zero, List.set_cons_succ]
    refine wpAnyH_done (by kernel_rfl) ?_ _
    clear D9
    have FIN : Hid (Ans (.bool false) w (.returned (.bool false)) x6) := ⟨rfl, M6.out.be⟩
    clear M6 c9
    go_wp2_with fail
    go_ret
    exact FIN.out
end Go.Proofs.Ytpjeeccgpnpokaa
namespace Go.Proofs.Ytpjeeccgpnpokaa
open Go.RowKit

theorem takeS_no {C : Cfg} {S : List Ent} {p : Pre} {x n : Int} (h : has S p = false) : takeS C S p x n = S := by simp [takeS, h]
set_option maxRecDepth 100000 in
set_option maxHeartbeats 2000000 in
theorem btake_ (f : Pre → Nat) (h q n g : Nat) (C : Cfg) (L : List Ent) (p : Pre) (x k : Int) (w : World) (hb0 : BoxAt f h q n w g C L) (ho : POks L) (hp : p.Ok) (hx : x ≤ 9223372036854775807) :
    Calls Try.prog 14 #[.pointer (some ⟨g, 0, none⟩), .agg p.cs.toArray, .int .i64 x, .int .i64 k] w (BOut f h q n g C L (takeS C (swp L x) p x k) (.bool (takeK C (swp L x) p x k)) w) := by
  have hb1 : Below w.heap.size w (w.alloc (.cells p.cs.toArray 31)) := (Below.refl _ w).alloc (Nat.le_refl _) _
  have M1 : Hid (Inn w f h q n g C L p (w.alloc (.cells p.cs.toArray 31))) := Inn.start hb0 hb1 (Blk.new w 31 p.cs)
  have HAT : Hid (∀ W, BoxAt f h q n W g C L → Calls Try.prog 22 #[.pointer (some ⟨g, 0, none⟩), .int .i64 x] W (BAtOut f h q n g C (swp L x) W)) := fun W hW => bat_ f h q n g C L x W hW ho
  have hos : POks (swp L x) := fun e he => ho e (swp_mem e he)
  obtain ⟨u, ob, bb, hbb, hob, HGET⟩ : ∃ u ob bb, has (swp L x) p = bb ∧ (bb = true → ob = some ⟨f p, 0, none⟩) ∧ Hid (∀ W, BoxAt f h q n W g C (swp L x) → Calls Try.prog 23 #[.pointer (some ⟨h, 0, none⟩), .agg p.cs.toArray] W (Ans (.tuple #[.agg #[.int .i64 u, .pointer ob], .bool bb]) W)) := by
    rcases hh : has (swp L x) p with _ | _
    · exact ⟨0, none, false, rfl, (fun e => by cases e), Lib.hid fun W hW => getT_no f h q n _ p W hW.tab hos hp hh⟩
    · exact ⟨_, _, true, rfl, (fun _ => rfl), Lib.hid fun W hW => getT_yes f h q n _ p W hW.tab hos hp hh (by have := hW.pos _ (at_mem (has_iff.1 hh)); omega)⟩
  have HB := Lib.hid hbb
  have HOB := Lib.hid hob
  have HTN : Hid (bb = false → takeK C (swp L x) p x k = false) := fun e => by simp [takeK, hbb, e]
  have HTK : Hid (∀ W, BoxAt f h q n W g C (swp L x) → bb = true → Calls Try.prog 31 #[.pointer (some ⟨f p, 0, none⟩), .int .i64 x, .int .i64 k] W (TakePost (f p) C.r (C.b * 1048576) (at_ (swp L x) (idx (swp L x) p)).l (at_ (swp L x) (idx (swp L x) p)).m x k W)) := fun W hW e => by
    have hi := has_iff.1 (hbb.trans e)
    have := hW.toks _ (at_mem hi)
    rw [idx_at hi] at this
    exact ktake_ _ _ _ _ _ _ _ _ this hx
  have HTY : Hid (bb = true → okT C.r (C.b * 1048576) (at_ (swp L x) (idx (swp L x) p)).l (at_ (swp L x) (idx (swp L x) p)).m x k = takeK C (swp L x) p x k) := fun e => by
    have hi := has_iff.1 (hbb.trans e)
    unfold takeK tkK
    rw [if_pos (hbb.trans e)]
    exact okT_clm ((hb0.toks _ (swp_mem _ (at_mem hi))).ok.m0)
  have HFI : Hid (∀ W W', Inn w f h q n g C (swp L x) p W → bb = true → TAt W' (f p) C.r (C.b * 1048576) (lef C.r (C.b * 1048576) (at_ (swp L x) (idx (swp L x) p)).l (at_ (swp L x) (idx (swp L x) p)).m x k) (max (at_ (swp L x) (idx (swp L x) p)).m x) → Far (only (f p)) W W' → BOut f h q n g C L (takeS C (swp L x) p x k) (.bool (takeK C (swp L x) p x k)) w (.returned (.bool (takeK C (swp L x) p x k))) W') := fun W W' m hb9 ht hf => by
    have hh := hbb.trans hb9
    have hi := has_iff.1 hh
    refine ⟨rfl, m.box.take hh ht hf, (m.far.mono fun _ e => boxB_two e).trans hf fun i _ e => ?_⟩
    have e' : i = f p := e
    refine .inr (.inr (.inr ⟨_, swp_mem _ (at_mem hi), ?_⟩))
    rw [e', idx_at hi]
  clear hb0 ho hp hos hbb hob hb1
  go_enter Try.func14, Try.ntmps14
  go_upto_region 1 with fail
  generalize (w.alloc (.cells p.cs.toArray 31)) = x1 at *
  have D0 : Hid (Blk x1.drew w.heap.size 31 p.cs) := M1.out.pb
  have M2 := Lib.hid M1.out.drew
  clear M1
  refine wp_region_held_drew (S := fun W => Blk W w.heap.size 31 p.cs) (by kernel_rfl) ?_ (fun _ => ?_)
  · exact D0.out
  generalize x1.drew = x2 at *
  refine wpAnyH_take (i := 0) (oi := ⟨some 12, _, _, _, _, _⟩) (v := ?_) rfl (by kernel_rfl) (by kernel_rfl) (by kernel_rfl) (fun _ _ _ h => h) (Or.inl ⟨by rfl, ?_⟩) D0.out ?_
  rotate_left
  · (intro W hSW; clear hSW; go_simp)
    first | done | (with_reducible rfl)
  try simp only [Act.put, List.setIfInBounds_toArray, List.set_cons_zero, List.set_cons_succ]
  refine wpAnyH_take (i := 1) (oi := ⟨some 13, _, _, _, _, _⟩) (v := ?_) rfl (by kernel_rfl) (by kernel_rfl) (by kernel_rfl) (fun _ _ _ h => h) (Or.inl ⟨by rfl, ?_⟩) D0.out ?_
  rotate_left
  · (intro W hSW; clear hSW; go_simp)
    first | done | (with_reducible rfl)
  try simp only [Act.put, List.setIfInBounds_toArray, List.set_cons_zero, List.set_cons_succ]
  refine wpAnyH_take (i := 3) (oi := ⟨some 15, _, _, _, _, _⟩) (v := .agg p.cs.toArray) rfl (by kernel_rfl) (by kernel_rfl) (by kernel_rfl) (fun _ _ _ h => h) (yields_pre (by rfl) (.tmp 5) rfl _ 0 rfl p (fun _ h => whole_at h)) D0.out ?_
  try simp only [Act.put, List.setIfInBounds_toArray, List.set_cons_zero, List.set_cons_succ]
  refine wpAnyH_ready (rs := [2, 8]) (by kernel_rfl) (by simp) ?_
  refine AllReadyH.cons (o := ⟨some 14, _, _, _, _, _⟩) rfl (fun K hK => ?_) (AllReadyH.cons (o := ⟨some 9, _, _, _, _, _⟩) rfl (fun K hK => ?_) (AllReadyH.nil))
  · go_simp
    refine (HAT.out _ M2.out.box).mono ?_
    rintro e x3 ⟨rfl, hx, hf⟩
    have M3 := Lib.hid (M2.out.turn hx hf swp_mem)
    clear hx hf M2 D0
    have D3 : Hid (Blk _ w.heap.size 31 p.cs) := M3.out.pb
    go_simp
    refine hK.out _ _ ?_ (fun _ => ?_)
    · exact D3.out
    clear hK K
    try simp only [Act.put, List.setIfInBounds_toArray, List.set_cons_zero, List.set_cons_succ]
    refine wpAnyH_ready (rs := [4, 8]) (by kernel_rfl) (by simp) ?_
    refine AllReadyH.cons (o := ⟨some 16, _, _, _, _, _⟩) rfl (fun K hK => ?_) (AllReadyH.cons (o := ⟨some 9, _, _, _, _, _⟩) rfl (fun K hK => ?_) (AllReadyH.nil))
    · go_simp
      refine (HGET.out _ M3.out.box).mono ?_
      rintro e x4 ⟨rfl, hb⟩
      have M4 := Lib.hid (M3.out.below hb)
      clear hb M3 D3
      have D4 : Hid (Blk _ w.heap.size 31 p.cs) := M4.out.pb
      go_simp
      refine hK.out _ _ ?_ (fun _ => ?_)
      · exact D4.out
      clear hK K
      try simp only [Act.put, List.setIfInBounds_toArray, List.set_cons_zero, List.set_cons_succ]
      refine wpAnyH_take (i := 5) (oi := ⟨some 11, _, _, _, _, _⟩) (v := ?_) rfl (by kernel_rfl) (by kernel_rfl) (by kernel_rfl) (fun _ _ _ h => h) (Or.inl ⟨by rfl, ?_⟩) D4.out ?_
      rotate_left
      · (intro W hSW; clear hSW; go_simp)
        first | done | (with_reducible rfl)
      try simp only [Act.put, List.setIfInBounds_toArray, List.set_cons_zero, List.set_cons_succ]
      refine wpAnyH_take (i := 6) (oi := ⟨some 17, _, _, _, _, _⟩) (v := ?_) rfl (by kernel_rfl) (by kernel_rfl) (by kernel_rfl) (fun _ _ _ h => h) (Or.inl ⟨by rfl, ?_⟩) D4.out ?_
      rotate_left
      · (intro W hSW; clear hSW; go_simp)
        first | done | (with_reducible rfl)
      try simp only [Act.put, List.setIfInBounds_toArray, List.set_cons_zero, List.set_cons_succ]
      refine wpAnyH_take (i := 7) (oi := ⟨some 18, _, _, _, _, _⟩) (v := ?_) rfl (by kernel_rfl) (by kernel_rfl) (by kernel_rfl) (fun _ _ _ h => h) (Or.inl ⟨by rfl, ?_⟩) D4.out ?_
      rotate_left
      · (intro W hSW; clear hSW; go_simp)
        first | done | (with_reducible rfl)
      try simp only [Act.put, List.setIfInBounds_toArray, List.set_cons_zero, List.set_cons_succ]
      refine wpAnyH_ready (rs := [8]) (by kernel_rfl) (by simp) ?_
      refine AllReadyH.cons (o := ⟨some 9, _, _, _, _, _⟩) rfl (fun K hK => ?_) (AllReadyH.nil)
      clear D4
      go_simp
      have KM5 : Hid (Blk (x4.alloc (.cells #[.int .i64 0, .pointer none] 60)) x4.heap.size 60 [.int .i64 0, .pointer none]) := Blk.new x4 60 _
      have hb0 : Below x4.heap.size x4 (x4.alloc (.cells #[.int .i64 0, .pointer none] 60)) := (Below.refl _ x4).alloc (Nat.le_refl _) (.cells #[.int .i64 0, .pointer none] 60)
      have HPb : Hid (w.heap.size < x4.heap.size) := M4.out.pb.lt
      have M5 := Lib.hid (M4.out.below hb0)
      refine hK.out _ _ ?_ (fun _ => ?_)
      · exact M5.out.pb
      clear hK K M4 hb0
      try simp only [Act.put, List.setIfInBounds_toArray, List.set_cons_zero, List.set_cons_succ]
      generalize x4.alloc (.cells #[.int .i64 0, .pointer none] 60) = x5 at *
      generalize x4.heap.size = b at *
      refine wpAnyH_ready (rs := [9]) (by kernel_rfl) (by simp) ?_
      refine AllReadyH.cons (o := ⟨none, _, _, _, _, _⟩) rfl (fun K hK => ?_) (AllReadyH.nil)
      refine step_layT (by rfl) 60 2 size60 (.tmp 9) (.tmp 17) (by rfl) b [.int .i64 u, .pointer ob] (by rfl) (by rfl) 60 [.int .i64 0, .pointer none] KM5.out rfl rfl (stay_one _ _) ?_
      intro x6 K9 F9
      have M6 := Lib.hid (M5.out.past F9.out HPb.out)
      have c9 : x6.cell? ⟨b, 1, none⟩ = some (.pointer ob) := K9.out.cell 1
      refine hK.out _ _ ?_ (fun _ => ?_)
      · exact M6.out.pb
      clear hK K K9 F9 KM5 M5
      try simp only [Act.put]
      have D9 : Hid (Blk x6 w.heap.size 31 p.cs) := M6.out.pb
      refine wpAnyH_take (i := 10) (oi := ⟨some 10, _, _, _, _, _⟩) (v := ?_) rfl (by kernel_rfl) (by kernel_rfl) (by kernel_rfl) (fun _ _ _ h => h) (Or.inl ⟨by rfl, ?_⟩) D9.out ?_
      rotate_left
      · (intro W hSW; clear hSW; go_simp)
        first | done | (with_reducible rfl)
      try simp only [Act.put, List.setIfInBounds_toArray, List.set_cons_zero, List.set_cons_succ]
      refine wpAnyH_done (by kernel_rfl) ?_ _
      clear D9
      cases bb
      · have FIN : Hid (BOut f h q n g C L (takeS C (swp L x) p x k) (.bool false) w (.returned (.bool false)) x6) := by
          have e := takeS_no (C := C) (x := x) (n := k) HB.out
          have := M6.out.out (L0 := L) (.bool false)
          rwa [← e] at this
        have HN2 := Lib.hid (HTN.out rfl)
        clear M6 c9 HTN HTK HTY HFI HOB HB
        go_wp2_with fail
        go_ret
        rw [HN2.out]
        exact FIN.out
      · have e9 := HOB.out rfl
        subst e9
        have HTK2 := Lib.hid (fun W hW => HTK.out W hW rfl)
        have HTY2 := Lib.hid (HTY.out rfl)
        have HFI2 := Lib.hid (fun W W' m => HFI.out W W' m rfl)
        clear HTN HTK HTY HFI HOB HB
        go_wp2_with (go_at_call 31; (with_reducible refine (HTK2.out _ M6.out.box).mono ?_); rintro e x7 ⟨rfl, ht, hf⟩; have FIN : Hid (BOut f h q n g C L (takeS C (swp L x) p x k) (.bool (takeK C (swp L x) p x k)) w (.returned (.bool (takeK C (swp L x) p x k))) x7) := HFI2.out _ x7 M6.out ht hf; rw [HTY2.out]; clear ht hf)
        go_ret
        exact FIN.out
    · clear D3
      go_simp
      have KM4 : Hid (Blk (x3.alloc (.cells #[.int .i64 0, .pointer none] 60)) x3.heap.size 60 [.int .i64 0, .pointer none]) := Blk.new x3 60 _
      have hb0 : Below x3.heap.size x3 (x3.alloc (.cells #[.int .i64 0, .pointer none] 60)) := (Below.refl _ x3).alloc (Nat.le_refl _) (.cells #[.int .i64 0, .pointer none] 60)
      have HPb : Hid (w.heap.size < x3.heap.size) := M3.out.pb.lt
      have M4 := Lib.hid (M3.out.below hb0)
      refine hK.out _ _ ?_ (fun _ => ?_)
      · exact M4.out.pb
      clear hK K M3 hb0
      try simp only [Act.put, List.setIfInBounds_toArray, List.set_cons_zero, List.set_cons_succ]
      generalize x3.alloc (.cells #[.int .i64 0, .pointer none] 60) = x4 at *
      generalize x3.heap.size = b at *
      refine wpAnyH_ready (rs := [4]) (by kernel_rfl) (by simp) ?_
      refine AllReadyH.cons (o := ⟨some 16, _, _, _, _, _⟩) rfl (fun K hK => ?_) (AllReadyH.nil)
      go_simp
      refine (HGET.out _ M4.out.box).mono ?_
      rintro e x5 ⟨rfl, hb⟩
      have M5 := Lib.hid (M4.out.below hb)
      have KM5 := Lib.hid (KM4.out.below hb)
      clear hb M4 KM4
      have D5 : Hid (Blk _ w.heap.size 31 p.cs) := M5.out.pb
      go_simp
      refine hK.out _ _ ?_ (fun _ => ?_)
      · exact D5.out
      clear hK K
      try simp only [Act.put, List.setIfInBounds_toArray, List.set_cons_zero, List.set_cons_succ]
      refine wpAnyH_take (i := 5) (oi := ⟨some 11, _, _, _, _, _⟩) (v := ?_) rfl (by kernel_rfl) (by kernel_rfl) (by kernel_rfl) (fun _ _ _ h => h) (Or.inl ⟨by rfl, ?_⟩) D5.out ?_
      rotate_left
      · (intro W hSW; clear hSW; go_simp)
        first | done | (with_reducible rfl)
      try simp only [Act.put, List.setIfInBounds_toArray, List.set_cons_zero, List.set_cons_succ]
      refine wpAnyH_take (i := 6) (oi := ⟨some 17, _, _, _, _, _⟩) (v := ?_) rfl (by kernel_rfl) (by kernel_rfl) (by kernel_rfl) (fun _ _ _ h => h) (Or.inl ⟨by rfl, ?_⟩) D5.out ?_
      rotate_left
      · (intro W hSW; clear hSW; go_simp)
        first | done | (with_reducible rfl)
      try simp only [Act.put, List.setIfInBounds_toArray, List.set_cons_zero, List.set_cons_succ]
      refine wpAnyH_take (i := 7) (oi := ⟨some 18, _, _, _, _, _⟩) (v := ?_) rfl (by kernel_rfl) (by kernel_rfl) (by kernel_rfl) (fun _ _ _ h => h) (Or.inl ⟨by rfl, ?_⟩) D5.out ?_
      rotate_left
      · (intro W hSW; clear hSW; go_simp)
        first | done | (with_reducible rfl)
      try simp only [Act.put, List.setIfInBounds_toArray, List.set_cons_zero, List.set_cons_succ]
      clear D5
      refine wpAnyH_ready (rs := [9]) (by kernel_rfl) (by simp) ?_
      refine AllReadyH.cons (o := ⟨none, _, _, _, _, _⟩) rfl (fun K hK => ?_) (AllReadyH.nil)
      refine step_layT (by rfl) 60 2 size60 (.tmp 9) (.tmp 17) (by rfl) b [.int .i64 u, .pointer ob] (by rfl) (by rfl) 60 [.int .i64 0, .pointer none] KM5.out rfl rfl (stay_one _ _) ?_
      intro x6 K9 F9
      have M6 := Lib.hid (M5.out.past F9.out HPb.out)
      have c9 : x6.cell? ⟨b, 1, none⟩ = some (.pointer ob) := K9.out.cell 1
      refine hK.out _ _ ?_ (fun _ => ?_)
      · exact M6.out.pb
      clear hK K K9 F9 KM5 M5
      try simp only [Act.put]
      have D9 : Hid (Blk x6 w.heap.size 31 p.cs) := M6.out.pb
      refine wpAnyH_take (i := 10) (oi := ⟨some 10, _, _, _, _, _⟩) (v := ?_) rfl (by kernel_rfl) (by kernel_rfl) (by kernel_rfl) (fun _ _ _ h => h) (Or.inl ⟨by rfl, ?_⟩) D9.out ?_
      rotate_left
      · (intro W hSW; clear hSW; go_simp)
        first | done | (with_reducible rfl)
      try simp only [Act.put, List.setIfInBounds_toArray, List.set_cons_zero, List.set_cons_succ]
      refine wpAnyH_done (by kernel_rfl) ?_ _
      clear D9
      cases bb
      · have FIN : Hid (BOut f h q n g C L (takeS C (swp L x) p x k) (.bool false) w (.returned (.bool false)) x6) := by
          have e := takeS_no (C := C) (x := x) (n := k) HB.out
          have := M6.out.out (L0 := L) (.bool false)
          rwa [← e] at this
        have HN2 := Lib.hid (HTN.out rfl)
        clear M6 c9 HTN HTK HTY HFI HOB HB
        go_wp2_with fail
        go_ret
        rw [HN2.out]
        exact FIN.out
      · have e9 := HOB.out rfl
        subst e9
        have HTK2 := Lib.hid (fun W hW => HTK.out W hW rfl)
        have HTY2 := Lib.hid (HTY.out rfl)
        have HFI2 := Lib.hid (fun W W' m => HFI.out W W' m rfl)
        clear HTN HTK HTY HFI HOB HB
        go_wp2_with (go_at_call 31; (with_reducible refine (HTK2.out _ M6.out.box).mono ?_); rintro e x7 ⟨rfl, ht, hf⟩; have FIN : Hid (BOut f h q n g C L (takeS C (swp L x) p x k) (.bool (takeK C (swp L x) p x k)) w (.returned (.bool (takeK C (swp L x) p x k))) x7) := HFI2.out _ x7 M6.out ht hf; rw [HTY2.out]; clear ht hf)
        go_ret
        exact FIN.out
  · clear D0
    go_simp
    have KM3 : Hid (Blk (x2.alloc (.cells #[.int .i64 0, .pointer none] 60)) x2.heap.size 60 [.int .i64 0, .pointer none]) := Blk.new x2 60 _
    have hb0 : Below x2.heap.size x2 (x2.alloc (.cells #[.int .i64 0, .pointer none] 60)) := (Below.refl _ x2).alloc (Nat.le_refl _) (.cells #[.int .i64 0, .pointer none] 60)
    have HPb : Hid (w.heap.size < x2.heap.size) := M2.out.pb.lt
    have M3 := Lib.hid (M2.out.below hb0)
    refine hK.out _ _ ?_ (fun _ => ?_)
    · exact M3.out.pb
    clear hK K M2 hb0
    try simp only [Act.put, List.setIfInBounds_toArray, List.set_cons_zero, List.set_cons_succ]
    generalize x2.alloc (.cells #[.int .i64 0, .pointer none] 60) = x3 at *
    generalize x2.heap.size = b at *
    refine wpAnyH_ready (rs := [2]) (by kernel_rfl) (by simp) ?_
    refine AllReadyH.cons (o := ⟨some 14, _, _, _, _, _⟩) rfl (fun K hK => ?_) (AllReadyH.nil)
    go_simp
    refine (HAT.out _ M3.out.box).mono ?_
    rintro e x4 ⟨rfl, hx, hf⟩
    have M4 := Lib.hid (M3.out.turn hx hf swp_mem)
    have KM4 := Lib.hid (KM3.out.far hf (fun e => by have h3 := M3.out.old; have h4 := HPb.out; rcases e with e | e <;> omega))
    clear hx hf M3 KM3
    have D4 : Hid (Blk _ w.heap.size 31 p.cs) := M4.out.pb
    go_simp
    refine hK.out _ _ ?_ (fun _ => ?_)
    · exact D4.out
    clear hK K
    try simp only [Act.put, List.setIfInBounds_toArray, List.set_cons_zero, List.set_cons_succ]
    refine wpAnyH_ready (rs := [4]) (by kernel_rfl) (by simp) ?_
    refine AllReadyH.cons (o := ⟨some 16, _, _, _, _, _⟩) rfl (fun K hK => ?_) (AllReadyH.nil)
    go_simp
    refine (HGET.out _ M4.out.box).mono ?_
    rintro e x5 ⟨rfl, hb⟩
    have M5 := Lib.hid (M4.out.below hb)
    have KM5 := Lib.hid (KM4.out.below hb)
    clear hb M4 KM4 D4
    have D5 : Hid (Blk _ w.heap.size 31 p.cs) := M5.out.pb
    go_simp
    refine hK.out _ _ ?_ (fun _ => ?_)
    · exact D5.out
    clear hK K
    try simp only [Act.put, List.setIfInBounds_toArray, List.set_cons_zero, List.set_cons_succ]
    refine wpAnyH_take (i := 5) (oi := ⟨some 11, _, _, _, _, _⟩) (v := ?_) rfl (by kernel_rfl) (by kernel_rfl) (by kernel_rfl) (fun _ _ _ h => h) (Or.inl ⟨by rfl, ?_⟩) D5.out ?_
    rotate_left
    · (intro W hSW; clear hSW; go_simp)
      first | done | (with_reducible rfl)
    try simp only [Act.put, List.setIfInBounds_toArray, List.set_cons_zero, List.set_cons_succ]
    refine wpAnyH_take (i := 6) (oi := ⟨some 17, _, _, _, _, _⟩) (v := ?_) rfl (by kernel_rfl) (by kernel_rfl) (by kernel_rfl) (fun _ _ _ h => h) (Or.inl ⟨by rfl, ?_⟩) D5.out ?_
    rotate_left
    · (intro W hSW; clear hSW; go_simp)
      first | done | (with_reducible rfl)
    try simp only [Act.put, List.setIfInBounds_toArray, List.set_cons_zero, List.set_cons_succ]
    refine wpAnyH_take (i := 7) (oi := ⟨some 18, _, _, _, _, _⟩) (v := ?_) rfl (by kernel_rfl) (by kernel_rfl) (by kernel_rfl) (fun _ _ _ h => h) (Or.inl ⟨by rfl, ?_⟩) D5.out ?_
    rotate_left
    · (intro W hSW; clear hSW; go_simp)
      first | done | (with_reducible rfl)
    try simp only [Act.put, List.setIfInBounds_toArray, List.set_cons_zero, List.set_cons_succ]
    clear D5
    refine wpAnyH_ready (rs := [9]) (by kernel_rfl) (by simp) ?_
    refine AllReadyH.cons (o := ⟨none, _, _, _, _, _⟩) rfl (fun K hK => ?_) (AllReadyH.nil)
    refine step_layT (by rfl) 60 2 size60 (.tmp 9) (.tmp 17) (by rfl) b [.int .i64 u, .pointer ob] (by rfl) (by rfl) 60 [.int .i64 0, .pointer none] KM5.out rfl rfl (stay_one _ _) ?_
    intro x6 K9 F9
    have M6 := Lib.hid (M5.out.past F9.out HPb.out)
    have c9 : x6.cell? ⟨b, 1, none⟩ = some (.pointer ob) := K9.out.cell 1
    refine hK.out _ _ ?_ (fun _ => ?_)
    · exact M6.out.pb
    clear hK K K9 F9 KM5 M5
    try simp only [Act.put]
    have D9 : Hid (Blk x6 w.heap.size 31 p.cs) := M6.out.pb
    refine wpAnyH_take (i := 10) (oi := ⟨some 10, _, _, _, _, _⟩) (v := ?_) rfl (by kernel_rfl) (by kernel_rfl) (by kernel_rfl) (fun _ _ _ h => h) (Or.inl ⟨by rfl, ?_⟩) D9.out ?_
    rotate_left
    · (intro W hSW; clear hSW; go_simp)
      first | done | (with_reducible rfl)
    try simp only [Act.put, List.setIfInBounds_toArray, List.set_cons_zero, List.set_cons_succ]
    refine wpAnyH_done (by kernel_rfl) ?_ _
    clear D9
    cases bb
    · have FIN : Hid (BOut f h q n g C L (takeS C (swp L x) p x k) (.bool false) w (.returned (.bool false)) x6) := by
        have e := takeS_no (C := C) (x := x) (n := k) HB.out
        have := M6.out.out (L0 := L) (.bool false)
        rwa [← e] at this
      have HN2 := Lib.hid (HTN.out rfl)
      clear M6 c9 HTN HTK HTY HFI HOB HB
      go_wp2_with fail
      go_ret
      rw [HN2.out]
      exact FIN.out
    · have e9 := HOB.out rfl
      subst e9
      have HTK2 := Lib.hid (fun W hW => HTK.out W hW rfl)
      have HTY2 := Lib.hid (HTY.out rfl)
      have HFI2 := Lib.hid (fun W W' m => HFI.out W W' m rfl)
      clear HTN HTK HTY HFI HOB HB
      go_wp2_with (go_at_call 31; (with_reducible refine (HTK2.out _ M6.out.box).mono ?_); rintro e x7 ⟨rfl, ht, hf⟩; have FIN : Hid (BOut f h q n g C L (takeS C (swp L x) p x k) (.bool (takeK C (swp L x) p x k)) w (.returned (.bool (takeK C (swp L x) p x k))) x7) := HFI2.out _ x7 M6.out ht hf; rw [HTY2.out]; clear ht hf)
      go_ret
      exact FIN.out
end Go.Proofs.Ytpjeeccgpnpokaa
