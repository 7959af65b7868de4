/- The contract of box's Put. Conditions: those of each theorem. -/
import Derived.Test.YtpjeeccgpnpokaaBNew
namespace Go.Proofs.Ytpjeeccgpnpokaa
open Go.RowKit

/-- p's tokens lie at t. -/
def upf (f : Pre → Nat) (p : Pre) (t : Nat) : Pre → Nat := fun p' => if p' = p then t else f p'
theorem upf_self (f : Pre → Nat) (p : Pre) (t : Nat) : upf f p t p = t := by simp [upf]
theorem upf_other {f : Pre → Nat} {p p' : Pre} {t : Nat} (h : p' ≠ p) : upf f p t p' = f p' := by simp [upf, h]
def PutOut (f : Pre → Nat) (h q n g : Nat) (C : Cfg) (L L' : List Ent) (v : Value) (w : World) (e : Ending) (w' : World) : Prop :=
  e = .returned v ∧ (∃ f', BoxAt f' h q n w' g C L' ∧ ∀ e ∈ L', (∃ e1 ∈ L, f' e.p = f e1.p) ∨ w.heap.size ≤ f' e.p) ∧ Far (boxB f h q g L) w w'
theorem newE_u {C : Cfg} (hC : C.Ok) (p : Pre) (x : Int) : 0 < (newE C p x).u := by
  have h0 := (cnt_bd (clm x)).1
  have h1 := hC.term
  have h2 : cnt C.term = C.term := cnt_id (by omega) (by omega)
  show 0 < addC (cnt (clm x)) (cnt C.term)
  rw [h2]
  unfold addC
  split <;> omega
section
variable (f : Pre → Nat) (h q n g : Nat) (C : Cfg) (S : List Ent) (p : Pre) (x : Int) (t : Nat) (W : World)
theorem put_arg (hC : C.Ok) : (sv (upf f p t) (newE C p x)).toArray = #[.int .i64 (addC (cnt (clm x)) (cnt C.term)), .pointer (some ⟨t, 0, none⟩)] := by
  rw [sv_of _ _ (by have := newE_u hC p x; omega)]
  show #[Value.int .i64 _, Value.pointer (some ⟨upf f p t p, 0, none⟩)] = _
  rw [upf_self]
  rfl
theorem put_full (hW : BoxAt f h q n W g C S) (hC : C.Ok) (hos : POks S) (hp : p.Ok) (hh : has S p = false) (hr : C.room ≤ S.length) (_ht : TAt W t C.r (C.b * 1048576) (C.b * 1048576) (clm x)) (_hd : t ≠ g ∧ t ≠ h ∧ t ≠ q ∧ ∀ e ∈ S, f e.p ≠ t) :
    Calls Try.prog 24 #[.pointer (some ⟨h, 0, none⟩), .agg p.cs.toArray, .agg #[.int .i64 (addC (cnt (clm x)) (cnt C.term)), .pointer (some ⟨t, 0, none⟩)]] W fun e W' => e = .returned (.bool false) ∧ BoxAt (upf f p t) h q n W' g C S ∧ Far (two h q) W W' := by
  have hb := hW.congr (f' := upf f p t) fun e he => (upf_other (has_no.1 hh e he)).symm
  have := putT_full (upf f p t) h q n S (newE C p x) W hb.tab hos hp hh (by have := hW.room; omega)
  rw [put_arg f C p x t hC] at this
  exact this.mono fun e W' ⟨he, hT, hf⟩ => ⟨he, hb.turn hT hf (fun _ he => he), hf⟩
theorem put_room (hW : BoxAt f h q n W g C S) (hC : C.Ok) (hos : POks S) (hp : p.Ok) (hh : has S p = false) (hr : ¬ C.room ≤ S.length) (ht : TAt W t C.r (C.b * 1048576) (C.b * 1048576) (clm x)) (hd : t ≠ g ∧ t ≠ h ∧ t ≠ q ∧ ∀ e ∈ S, f e.p ≠ t) :
    Calls Try.prog 24 #[.pointer (some ⟨h, 0, none⟩), .agg p.cs.toArray, .agg #[.int .i64 (addC (cnt (clm x)) (cnt C.term)), .pointer (some ⟨t, 0, none⟩)]] W fun e W' => e = .returned (.bool true) ∧ BoxAt (upf f p t) h q n W' g C (ins S (plc S p) (newE C p x)) ∧ Far (two h q) W W' := by
  have hb := hW.congr (f' := upf f p t) fun e he => (upf_other (has_no.1 hh e he)).symm
  have := putT_room (upf f p t) h q n S (newE C p x) W hb.tab hos hp hh (by have := hW.room; omega)
  rw [put_arg f C p x t hC] at this
  refine this.mono fun e W' ⟨he, hT, hf⟩ => ⟨he, hb.more (s := newE C p x) hT hf ?_ (newE_u hC p x) ?_ ?_, hf⟩
  · show TAt W (upf f p t p) C.r (C.b * 1048576) (C.b * 1048576) (clm x)
    rw [upf_self]
    exact ht
  · show upf f p t p ≠ g ∧ upf f p t p ≠ h ∧ upf f p t p ≠ q
    rw [upf_self]
    exact ⟨hd.1, hd.2.1, hd.2.2.1⟩
  · intro e he
    show upf f p t e.p ≠ upf f p t p
    rw [upf_self, upf_other (has_no.1 hh e he)]
    exact hd.2.2.2 e he
end
set_option maxRecDepth 100000 in
set_option maxHeartbeats 2000000 in
theorem bput_has (f : Pre → Nat) (h q n g : Nat) (C : Cfg) (L : List Ent) (p : Pre) (x : Int) (w : World) (hb0 : BoxAt f h q n w g C L) (ho : POks L) (hp : p.Ok) (hh : has (swp L x) p = true) :
    Calls Try.prog 8 #[.pointer (some ⟨g, 0, none⟩), .agg p.cs.toArray, .int .i64 x] w (PutOut f h q n g C L (swp L x) (.int .i64 7) w) := by
  have hb1 : Below w.heap.size w (w.alloc (.cells p.cs.toArray 31)) := (Below.refl _ w).alloc (Nat.le_refl _) _
  have M1 : Hid (Inn w f h q n g C L p (w.alloc (.cells p.cs.toArray 31))) := Inn.start hb0 hb1 (Blk.new w 31 p.cs)
  have HAT : Hid (∀ W, BoxAt f h q n W g C L → Calls Try.prog 22 #[.pointer (some ⟨g, 0, none⟩), .int .i64 x] W (BAtOut f h q n g C (swp L x) W)) := fun W hW => bat_ f h q n g C L x W hW ho
  have hos : POks (swp L x) := fun e he => ho e (swp_mem e he)
  obtain ⟨u, ob, HGET⟩ : ∃ u ob, Hid (∀ W, BoxAt f h q n W g C (swp L x) → Calls Try.prog 23 #[.pointer (some ⟨h, 0, none⟩), .agg p.cs.toArray] W (Ans (.tuple #[.agg #[.int .i64 u, .pointer ob], .bool true]) W)) :=
    ⟨_, _, Lib.hid fun W hW => getT_yes f h q n _ p W hW.tab hos hp hh (by have := hW.pos _ (at_mem (has_iff.1 hh)); omega)⟩
  clear hb0 ho hp hos hb1 hh
  go_enter Try.func8, Try.ntmps8
  go_upto_region 1 with fail
  generalize (w.alloc (.cells p.cs.toArray 31)) = x1 at *
  go_upto_region 4 with (go_at_call 22; (with_reducible refine (HAT.out _ M1.out.box).mono ?_); rintro e x2 ⟨rfl, hx, hf⟩; have M2 := Lib.hid (M1.out.turn hx hf swp_mem); clear hx hf)
  clear M1 HAT
  go_upto_region 5 with (first | (refine wpList_pre (by rfl) (.tmp 4) rfl _ _ rfl p (whole_at M2.out.pb) ?_) | (go_at_call 23; (with_reducible refine (HGET.out _ M2.out.box).mono ?_); rintro e x3 ⟨rfl, hb⟩; have M3 := Lib.hid (M2.out.below hb); have M4 := Lib.hid (M3.out.below ((Below.refl _ x3).alloc (Nat.le_refl _) (.cells #[.int .i64 0, .pointer none] 60))); have HPb : Hid (w.heap.size < x3.heap.size) := M3.out.pb.lt; have K4 : Hid (Blk (x3.alloc (.cells #[.int .i64 0, .pointer none] 60)) x3.heap.size 60 [.int .i64 0, .pointer none]) := Blk.new x3 60 _; clear hb) | (refine wpList_lay rfl 60 2 size60 (.tmp 8) (.tmp 19) rfl x3.heap.size [.int .i64 u, .pointer ob] rfl rfl 60 _ K4.out rfl rfl (stay_one _ _) ?_; intro x6 hB6 hF6; have M6 := Lib.hid (M4.out.past hF6.out HPb.out); clear hB6 hF6))
  have FIN : Hid (PutOut f h q n g C L (swp L x) (.int .i64 7) w (.returned (.int .i64 7)) x6) := ⟨rfl, ⟨f, M6.out.box, fun e he => .inl ⟨e, swp_mem e he, rfl⟩⟩, M6.out.far.mono fun _ e => boxB_two e⟩
  clear M2 M3 M4 K4 HGET HPb M6
  go_wp2
  go_ret
  exact FIN.out
set_option maxRecDepth 100000 in
set_option maxHeartbeats 2000000 in
theorem bput_new (f : Pre → Nat) (h q n g : Nat) (C : Cfg) (L : List Ent) (p : Pre) (x : Int) (w : World) (hb0 : BoxAt f h q n w g C L) (hC : C.Ok) (ho : POks L) (hp : p.Ok) (hx0 : x ≤ 9223372036854775807) (hh : has (swp L x) p = false) :
    Calls Try.prog 8 #[.pointer (some ⟨g, 0, none⟩), .agg p.cs.toArray, .int .i64 x] w (PutOut f h q n g C L (if C.room ≤ ((swp L x).length : Int) then swp L x else ins (swp L x) (plc (swp L x) p) (newE C p x)) (.int .i64 (if C.room ≤ ((swp L x).length : Int) then 6 else 0)) w) := by
  have hb1 : Below w.heap.size w (w.alloc (.cells p.cs.toArray 31)) := (Below.refl _ w).alloc (Nat.le_refl _) _
  have M1 : Hid (Inn w f h q n g C L p (w.alloc (.cells p.cs.toArray 31))) := Inn.start hb0 hb1 (Blk.new w 31 p.cs)
  have HAT : Hid (∀ W, BoxAt f h q n W g C L → Calls Try.prog 22 #[.pointer (some ⟨g, 0, none⟩), .int .i64 x] W (BAtOut f h q n g C (swp L x) W)) := fun W hW => bat_ f h q n g C L x W hW ho
  have hos : POks (swp L x) := fun e he => ho e (swp_mem e he)
  have HGET : Hid (∀ W, BoxAt f h q n W g C (swp L x) → Calls Try.prog 23 #[.pointer (some ⟨h, 0, none⟩), .agg p.cs.toArray] W (Ans (.tuple #[.agg #[.int .i64 0, .pointer none], .bool false]) W)) :=
    Lib.hid fun W hW => getT_no f h q n _ p W hW.tab hos hp hh
  have HBEG : Hid (∀ W, BoxAt f h q n W g C (swp L x) → Calls Try.prog 25 #[.pointer (some ⟨g, 0, none⟩), .int .i64 x] W (BegOut C x W)) := fun W hW => beg_ g h C x W hC hx0 hW.head
  have HSM : Hid (∀ e ∈ swp L x, e ∈ L) := swp_mem
  have HIN0 : ∀ t, w.heap.size ≤ t → ∀ e ∈ (if C.room ≤ ((swp L x).length : Int) then swp L x else ins (swp L x) (plc (swp L x) p) (newE C p x)), (∃ e1 ∈ L, upf f p t e.p = f e1.p) ∨ w.heap.size ≤ upf f p t e.p := fun t ht e he => by
    by_cases hpe : e.p = p
    · rw [hpe, upf_self]
      exact .inr ht
    · refine .inl ⟨e, ?_, upf_other hpe⟩
      split at he
      · exact swp_mem e he
      · unfold ins at he
        rcases List.mem_append.1 he with he | he
        · rcases List.mem_append.1 he with he | he
          · exact swp_mem e (List.mem_of_mem_take he)
          · have : e = newE C p x := by simpa using he
            rw [this] at hpe
            exact absurd rfl hpe
        · exact swp_mem e (List.mem_of_mem_drop he)
  generalize swp L x = S at *
  by_cases hr : C.room ≤ (S.length : Int)
  · have HIN := Lib.hid HIN0
    rw [if_pos hr] at HIN
    clear HIN0
    have HPUT : Hid (∀ W t, BoxAt f h q n W g C S → TAt W t C.r (C.b * 1048576) (C.b * 1048576) (clm x) → (t ≠ g ∧ t ≠ h ∧ t ≠ q ∧ ∀ e ∈ S, f e.p ≠ t) → Calls Try.prog 24 #[.pointer (some ⟨h, 0, none⟩), .agg p.cs.toArray, .agg #[.int .i64 (addC (cnt (clm x)) (cnt C.term)), .pointer (some ⟨t, 0, none⟩)]] W
        fun e W' => e = .returned (.bool false) ∧ BoxAt (upf f p t) h q n W' g C (S) ∧ Far (two h q) W W') := fun W t hW ht hd => put_full f h q n g C S p x t W hW hC hos hp hh hr ht hd
    rw [show (if C.room ≤ (S.length : Int) then (6 : Int) else 0) = 6 by rw [if_pos hr], show (if C.room ≤ (S.length : Int) then S else ins S (plc S p) (newE C p x)) = S by rw [if_pos hr]]
    clear hb0 ho hp hos hb1 hC hh hr
    go_enter Try.func8, Try.ntmps8
    go_upto_region 1 with fail
    generalize (w.alloc (.cells p.cs.toArray 31)) = x1 at *
    go_upto_region 4 with (go_at_call 22; (with_reducible refine (HAT.out _ M1.out.box).mono ?_); rintro e x2 ⟨rfl, hx, hf⟩; have M2 := Lib.hid (M1.out.turn hx hf HSM.out); clear hx hf)
    clear M1 HAT
    go_upto_region 5 with (first | (refine wpList_pre (by rfl) (.tmp 4) rfl _ _ rfl p (whole_at M2.out.pb) ?_) | (go_at_call 23; (with_reducible refine (HGET.out _ M2.out.box).mono ?_); rintro e x3 ⟨rfl, hb⟩; have M3 := Lib.hid (M2.out.below hb); have M4 := Lib.hid (M3.out.below ((Below.refl _ x3).alloc (Nat.le_refl _) (.cells #[.int .i64 0, .pointer none] 60))); have HPb : Hid (w.heap.size < x3.heap.size) := M3.out.pb.lt; have K4 : Hid (Blk (x3.alloc (.cells #[.int .i64 0, .pointer none] 60)) x3.heap.size 60 [.int .i64 0, .pointer none]) := Blk.new x3 60 _; clear hb) | (refine wpList_lay rfl 60 2 size60 (.tmp 8) (.tmp 19) rfl x3.heap.size [.int .i64 0, .pointer none] rfl rfl 60 _ K4.out rfl rfl (stay_one _ _) ?_; intro x6 hB6 hF6; have M6 := Lib.hid (M4.out.past hF6.out HPb.out); clear hB6 hF6))
    clear M2 M3 M4 K4 HGET HPb
    go_upto_region 7 with fail
    have HS0 : Hid (Blk x6.drew w.heap.size 31 p.cs) := M6.out.pb
    have M7 := Lib.hid M6.out.drew
    clear M6
    refine wp_region_held_drew (S := fun W => Blk W w.heap.size 31 p.cs) (by kernel_rfl) ?_ (fun _ => ?_)
    · exact HS0.out
    generalize x6.drew = x0 at *
    refine wpAnyH_take (i := 0) (oi := ⟨some 22, _, _, _, _, _⟩) (v := ?_) rfl (by kernel_rfl) (by kernel_rfl) (by kernel_rfl) (fun _ _ _ h => h) (Or.inl ⟨by rfl, ?_⟩) HS0.out ?_
    rotate_left
    · (intro W hSW; clear hSW; go_simp)
      first | done | (with_reducible rfl)
    try simp only [Act.put, List.setIfInBounds_toArray, List.set_cons_zero, List.set_cons_succ]
    refine wpAnyH_take (i := 1) (oi := ⟨some 23, _, _, _, _, _⟩) (v := .agg p.cs.toArray) rfl (by kernel_rfl) (by kernel_rfl) (by kernel_rfl) (fun _ _ _ h => h) (yields_pre (by rfl) (.tmp 4) rfl _ 0 rfl p (fun _ h => whole_at h)) HS0.out ?_
    try simp only [Act.put, List.setIfInBounds_toArray, List.set_cons_zero, List.set_cons_succ]
    refine wpAnyH_take (i := 2) (oi := ⟨some 24, _, _, _, _, _⟩) (v := ?_) rfl (by kernel_rfl) (by kernel_rfl) (by kernel_rfl) (fun _ _ _ h => h) (Or.inl ⟨by rfl, ?_⟩) HS0.out ?_
    rotate_left
    · (intro W hSW; clear hSW; go_simp)
      first | done | (with_reducible rfl)
    try simp only [Act.put, List.setIfInBounds_toArray, List.set_cons_zero, List.set_cons_succ]
    refine wpAnyH_take (i := 3) (oi := ⟨some 25, _, _, _, _, _⟩) (v := ?_) rfl (by kernel_rfl) (by kernel_rfl) (by kernel_rfl) (fun _ _ _ h => h) (Or.inl ⟨by rfl, ?_⟩) HS0.out ?_
    rotate_left
    · (intro W hSW; clear hSW; go_simp)
      first | done | (with_reducible rfl)
    try simp only [Act.put, List.setIfInBounds_toArray, List.set_cons_zero, List.set_cons_succ]
    refine wpAnyH_ready (rs := [4]) (by kernel_rfl) (by simp) ?_
    refine AllReadyH.cons (o := ⟨some 26, _, _, _, _, _⟩) rfl (fun K hK => ?_) AllReadyH.nil
    go_simp
    refine (HBEG.out _ M7.out.box).mono ?_
    rintro e x1 ⟨t, rfl, ht, hg, hb⟩
    have HD : Hid (t ≠ g ∧ t ≠ h ∧ t ≠ q ∧ ∀ e ∈ S, f e.p ≠ t) := by
      have hl := M7.out.box.lt
      refine ⟨?_, ?_, ?_, fun e he => ?_⟩
      · have := hl g (.inl rfl); omega
      · have := hl h (.inr (.inl rfl)); omega
      · have := hl q (.inr (.inr (.inl rfl))); omega
      · have := hl _ (.inr (.inr (.inr ⟨e, he, rfl⟩))); omega
    have HTW : Hid (w.heap.size ≤ t) := by have := M7.out.pb.lt; show _ ≤ _; omega
    have M8 := Lib.hid (M7.out.below hb)
    have T8 := Lib.hid ht
    have HS1 : Hid (Blk x1 w.heap.size 31 p.cs) := M8.out.pb
    clear ht hg hb M7 HS0
    go_simp
    refine hK.out _ _ ?_ (fun _ => ?_)
    · exact HS1.out
    clear hK K
    try simp only [Act.put, List.setIfInBounds_toArray, List.set_cons_zero, List.set_cons_succ]
    refine wpAnyH_ready (rs := [5]) (by kernel_rfl) (by simp) ?_
    refine AllReadyH.cons (o := ⟨some 27, _, _, _, _, _⟩) rfl (fun K hK => ?_) AllReadyH.nil
    go_simp
    refine (HPUT.out _ t M8.out.box T8.out HD.out).mono ?_
    rintro e x2 ⟨rfl, hx, hf⟩
    have X9 := Lib.hid hx
    have F9 : Hid (Far (two h q) w x2) := M8.out.far.trans hf (fun _ _ e => e)
    have HS2 : Hid (Blk x2 w.heap.size 31 p.cs) := M8.out.pb.far hf (fun e => by have h3 := M8.out.old; rcases e with e | e <;> omega)
    clear hx hf M8 T8 HS1
    go_simp
    refine hK.out _ _ ?_ (fun _ => ?_)
    · exact HS2.out
    clear hK K
    try simp only [Act.put, List.setIfInBounds_toArray, List.set_cons_zero, List.set_cons_succ]
    refine wpAnyH_take (i := 6) (oi := ⟨some 28, _, _, _, _, _⟩) (v := ?_) rfl (by kernel_rfl) (by kernel_rfl) (by kernel_rfl) (fun _ _ _ h => h) (Or.inl ⟨by rfl, ?_⟩) HS2.out ?_
    rotate_left
    · (intro W hSW; clear hSW; go_simp)
      first | done | (with_reducible rfl)
    try simp only [Act.put, List.setIfInBounds_toArray, List.set_cons_zero, List.set_cons_succ]
    refine wpAnyH_done (by kernel_rfl) ?_ _
    have FIN : Hid (PutOut f h q n g C L (S) (.int .i64 6) w (.returned (.int .i64 6)) x2) := ⟨rfl, ⟨upf f p t, X9.out, HIN.out t HTW.out⟩, F9.out.mono fun _ e => boxB_two e⟩
    clear X9 F9 HS2 HIN HPUT HBEG
    go_wp2_with fail
    go_ret
    exact FIN.out
  · have HIN := Lib.hid HIN0
    rw [if_neg hr] at HIN
    clear HIN0
    have HPUT : Hid (∀ W t, BoxAt f h q n W g C S → TAt W t C.r (C.b * 1048576) (C.b * 1048576) (clm x) → (t ≠ g ∧ t ≠ h ∧ t ≠ q ∧ ∀ e ∈ S, f e.p ≠ t) → Calls Try.prog 24 #[.pointer (some ⟨h, 0, none⟩), .agg p.cs.toArray, .agg #[.int .i64 (addC (cnt (clm x)) (cnt C.term)), .pointer (some ⟨t, 0, none⟩)]] W
        fun e W' => e = .returned (.bool true) ∧ BoxAt (upf f p t) h q n W' g C (ins S (plc S p) (newE C p x)) ∧ Far (two h q) W W') := fun W t hW ht hd => put_room f h q n g C S p x t W hW hC hos hp hh hr ht hd
    rw [show (if C.room ≤ (S.length : Int) then (6 : Int) else 0) = 0 by rw [if_neg hr], show (if C.room ≤ (S.length : Int) then S else ins S (plc S p) (newE C p x)) = ins S (plc S p) (newE C p x) by rw [if_neg hr]]
    clear hb0 ho hp hos hb1 hC hh hr
    go_enter Try.func8, Try.ntmps8
    go_upto_region 1 with fail
    generalize (w.alloc (.cells p.cs.toArray 31)) = x1 at *
    go_upto_region 4 with (go_at_call 22; (with_reducible refine (HAT.out _ M1.out.box).mono ?_); rintro e x2 ⟨rfl, hx, hf⟩; have M2 := Lib.hid (M1.out.turn hx hf HSM.out); clear hx hf)
    clear M1 HAT
    go_upto_region 5 with (first | (refine wpList_pre (by rfl) (.tmp 4) rfl _ _ rfl p (whole_at M2.out.pb) ?_) | (go_at_call 23; (with_reducible refine (HGET.out _ M2.out.box).mono ?_); rintro e x3 ⟨rfl, hb⟩; have M3 := Lib.hid (M2.out.below hb); have M4 := Lib.hid (M3.out.below ((Below.refl _ x3).alloc (Nat.le_refl _) (.cells #[.int .i64 0, .pointer none] 60))); have HPb : Hid (w.heap.size < x3.heap.size) := M3.out.pb.lt; have K4 : Hid (Blk (x3.alloc (.cells #[.int .i64 0, .pointer none] 60)) x3.heap.size 60 [.int .i64 0, .pointer none]) := Blk.new x3 60 _; clear hb) | (refine wpList_lay rfl 60 2 size60 (.tmp 8) (.tmp 19) rfl x3.heap.size [.int .i64 0, .pointer none] rfl rfl 60 _ K4.out rfl rfl (stay_one _ _) ?_; intro x6 hB6 hF6; have M6 := Lib.hid (M4.out.past hF6.out HPb.out); clear hB6 hF6))
    clear M2 M3 M4 K4 HGET HPb
    go_upto_region 7 with fail
    have HS0 : Hid (Blk x6.drew w.heap.size 31 p.cs) := M6.out.pb
    have M7 := Lib.hid M6.out.drew
    clear M6
    refine wp_region_held_drew (S := fun W => Blk W w.heap.size 31 p.cs) (by kernel_rfl) ?_ (fun _ => ?_)
    · exact HS0.out
    generalize x6.drew = x0 at *
    refine wpAnyH_take (i := 0) (oi := ⟨some 22, _, _, _, _, _⟩) (v := ?_) rfl (by kernel_rfl) (by kernel_rfl) (by kernel_rfl) (fun _ _ _ h => h) (Or.inl ⟨by rfl, ?_⟩) HS0.out ?_
    rotate_left
    · (intro W hSW; clear hSW; go_simp)
      first | done | (with_reducible rfl)
    try simp only [Act.put, List.setIfInBounds_toArray, List.set_cons_zero, List.set_cons_succ]
    refine wpAnyH_take (i := 1) (oi := ⟨some 23, _, _, _, _, _⟩) (v := .agg p.cs.toArray) rfl (by kernel_rfl) (by kernel_rfl) (by kernel_rfl) (fun _ _ _ h => h) (yields_pre (by rfl) (.tmp 4) rfl _ 0 rfl p (fun _ h => whole_at h)) HS0.out ?_
    try simp only [Act.put, List.setIfInBounds_toArray, List.set_cons_zero, List.set_cons_succ]
    refine wpAnyH_take (i := 2) (oi := ⟨some 24, _, _, _, _, _⟩) (v := ?_) rfl (by kernel_rfl) (by kernel_rfl) (by kernel_rfl) (fun _ _ _ h => h) (Or.inl ⟨by rfl, ?_⟩) HS0.out ?_
    rotate_left
    · (intro W hSW; clear hSW; go_simp)
      first | done | (with_reducible rfl)
    try simp only [Act.put, List.setIfInBounds_toArray, List.set_cons_zero, List.set_cons_succ]
    refine wpAnyH_take (i := 3) (oi := ⟨some 25, _, _, _, _, _⟩) (v := ?_) rfl (by kernel_rfl) (by kernel_rfl) (by kernel_rfl) (fun _ _ _ h => h) (Or.inl ⟨by rfl, ?_⟩) HS0.out ?_
    rotate_left
    · (intro W hSW; clear hSW; go_simp)
      first | done | (with_reducible rfl)
    try simp only [Act.put, List.setIfInBounds_toArray, List.set_cons_zero, List.set_cons_succ]
    refine wpAnyH_ready (rs := [4]) (by kernel_rfl) (by simp) ?_
    refine AllReadyH.cons (o := ⟨some 26, _, _, _, _, _⟩) rfl (fun K hK => ?_) AllReadyH.nil
    go_simp
    refine (HBEG.out _ M7.out.box).mono ?_
    rintro e x1 ⟨t, rfl, ht, hg, hb⟩
    have HD : Hid (t ≠ g ∧ t ≠ h ∧ t ≠ q ∧ ∀ e ∈ S, f e.p ≠ t) := by
      have hl := M7.out.box.lt
      refine ⟨?_, ?_, ?_, fun e he => ?_⟩
      · have := hl g (.inl rfl); omega
      · have := hl h (.inr (.inl rfl)); omega
      · have := hl q (.inr (.inr (.inl rfl))); omega
      · have := hl _ (.inr (.inr (.inr ⟨e, he, rfl⟩))); omega
    have HTW : Hid (w.heap.size ≤ t) := by have := M7.out.pb.lt; show _ ≤ _; omega
    have M8 := Lib.hid (M7.out.below hb)
    have T8 := Lib.hid ht
    have HS1 : Hid (Blk x1 w.heap.size 31 p.cs) := M8.out.pb
    clear ht hg hb M7 HS0
    go_simp
    refine hK.out _ _ ?_ (fun _ => ?_)
    · exact HS1.out
    clear hK K
    try simp only [Act.put, List.setIfInBounds_toArray, List.set_cons_zero, List.set_cons_succ]
    refine wpAnyH_ready (rs := [5]) (by kernel_rfl) (by simp) ?_
    refine AllReadyH.cons (o := ⟨some 27, _, _, _, _, _⟩) rfl (fun K hK => ?_) AllReadyH.nil
    go_simp
    refine (HPUT.out _ t M8.out.box T8.out HD.out).mono ?_
    rintro e x2 ⟨rfl, hx, hf⟩
    have X9 := Lib.hid hx
    have F9 : Hid (Far (two h q) w x2) := M8.out.far.trans hf (fun _ _ e => e)
    have HS2 : Hid (Blk x2 w.heap.size 31 p.cs) := M8.out.pb.far hf (fun e => by have h3 := M8.out.old; rcases e with e | e <;> omega)
    clear hx hf M8 T8 HS1
    go_simp
    refine hK.out _ _ ?_ (fun _ => ?_)
    · exact HS2.out
    clear hK K
    try simp only [Act.put, List.setIfInBounds_toArray, List.set_cons_zero, List.set_cons_succ]
    refine wpAnyH_take (i := 6) (oi := ⟨some 28, _, _, _, _, _⟩) (v := ?_) rfl (by kernel_rfl) (by kernel_rfl) (by kernel_rfl) (fun _ _ _ h => h) (Or.inl ⟨by rfl, ?_⟩) HS2.out ?_
    rotate_left
    · (intro W hSW; clear hSW; go_simp)
      first | done | (with_reducible rfl)
    try simp only [Act.put, List.setIfInBounds_toArray, List.set_cons_zero, List.set_cons_succ]
    refine wpAnyH_done (by kernel_rfl) ?_ _
    have FIN : Hid (PutOut f h q n g C L (ins S (plc S p) (newE C p x)) (.int .i64 0) w (.returned (.int .i64 0)) x2) := ⟨rfl, ⟨upf f p t, X9.out, HIN.out t HTW.out⟩, F9.out.mono fun _ e => boxB_two e⟩
    clear X9 F9 HS2 HIN HPUT HBEG
    go_wp2_with fail
    go_ret
    exact FIN.out
end Go.Proofs.Ytpjeeccgpnpokaa
