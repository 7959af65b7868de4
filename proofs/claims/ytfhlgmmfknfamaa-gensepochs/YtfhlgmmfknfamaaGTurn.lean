/- The program's gens: turn. Conditions: those of each theorem. -/
import Derived.Test.YtfhlgmmfknfamaaGCalls
import Derived.Test.YtfhlgmmfknfamaaDocNews
import Derived.Test.YtfhlgmmfknfamaaUntil
namespace Go.Proofs.Ytfhlgmmfknfamaa
open Go.RowKit

section
variable {P : Program} {ops : Array Oper} {Q : Exit → Act → World → Prop} {md : Region.Mode} {S : World → Prop} {k : Nat}
/-- What yields in whatever world may be taken first, whether the last one waits for it or not. -/
theorem til_firstP {i : Nat} {oi : Oper} {v : Value} (hi : ops[i]? = some oi) (hsel : ∀ (j : Nat) (o : Oper) cs b, ops[j]? = some o → o.op ≠ .select cs b)
    (hQ : ∀ c a w, Q (.panic c) (a.put oi.dst v) w → Q (.panic c) a w) (hki : k ≠ i) :
    ∀ (n : Nat) (l : Array Bool) (a : Act) (w : World),
      (∀ j oj, ops[j]? = some oj → j ≠ i → l.getD j true = false → (∀ e ∈ oj.after, Region.binds md e = true → e.on ≠ i) → oi.apart ops oj = true) →
      i ∈ Region.ready md ops l → YieldsIf P ops (fun _ => True) oi v a → (l.getD k true = false → S w) →
      Til P md ops Q S k n (l.setIfInBounds i true) (a.put oi.dst v) w → Til P md ops Q S k (n + 1) l a w := by
  intro n
  induction n with
  | zero =>
    intro l a w _ hr hy hS H
    refine ⟨fun h => (by rw [h] at hr; cases hr), fun j hj => ?_⟩
    by_cases hji : j = i
    · subst hji
      exact hy.wpOp hi trivial ⟨fun e => hS (by rwa [getD_set_ne true (Ne.symm hki)] at e), H⟩
    · have := ready_mono hj hji
      rw [H.1] at this
      cases this
  | succ n ih =>
    intro l a w hfree hr hy hS H
    refine ⟨fun h => (by rw [h] at hr; cases hr), fun j hj => ?_⟩
    have hun := (mem_ready.1 hr).1
    have hif : l.getD i false = false := by
      rcases Nat.lt_or_ge i l.size with h' | h'
      · simp [h'] at hun ⊢
        exact hun
      · simp [Array.getElem?_eq_none h']
    by_cases hji : j = i
    · subst hji
      exact hy.wpOp hi trivial ⟨fun e => hS (by rwa [getD_set_ne true (Ne.symm hki)] at e), H⟩
    · obtain ⟨hjun, oj, hoj, hall⟩ := mem_ready.1 hj
      have hnot : ∀ e ∈ oj.after, Region.binds md e = true → e.on ≠ i := fun e he hb heq => by
        have h1 := hall e he hb
        rw [heq, hif] at h1
        cases h1
      have h2 := wpOp_putIf hoj (hfree j oj hoj hji hjun hnot) (fun cs b => hsel i oi cs b hi) (fun cs b => hsel j oj cs b hoj) hQ hy (H.2 j (ready_mono hj hji))
      refine wpOp_mono (fun a' w' h3 => ?_) h2
      have hS' : (l.setIfInBounds j true).getD k true = false → S w' := fun e => h3.2.1 (by rw [← Array.setIfInBounds_comm _ _ hji, getD_set_ne true (Ne.symm hki)]; exact e)
      refine ⟨hS', ih _ a' w' (fun x ox hx hxi hxun hno => ?_) (ready_mono hr (Ne.symm hji)) h3.1 hS' ?_⟩
      · refine hfree x ox hx hxi ?_ hno
        by_cases hjx : j = x
        · subst hjx
          exact hjun
        · rw [getD_set_ne true hjx] at hxun
          exact hxun
      · rw [Array.setIfInBounds_comm _ _ hji]
        exact h3.2.2
theorem til_takeP {i : Nat} {oi : Oper} {v : Value} {n : Nat} {l : Array Bool} {a : Act} {w : World} (hi : ops[i]? = some oi)
    (hs : Region.noSelect ops = true) (hf : Region.free md ops l i = true) (hr : (Region.ready md ops l).contains i = true) (hki : k ≠ i)
    (hQ : ∀ c a w, Q (.panic c) (a.put oi.dst v) w → Q (.panic c) a w) (hy : YieldsIf P ops (fun _ => True) oi v a) (hS : l.getD k true = false → S w)
    (h : Til P md ops Q S k n (l.setIfInBounds i true) (a.put oi.dst v) w) : Til P md ops Q S k (n + 1) l a w :=
  til_firstP hi (Region.noSelect_spec hs) hQ hki n l a w (Region.free_spec hi hf) (by simpa using hr) hy hS h
end
theorem step_putk {ops : Array Oper} {o : Oper} {a : Act} {w : World} {K : Act → World → Prop} {Q : Exit → Act → World → Prop} {E : Prop} (hw : Region.wanted o (yielded ops a.tmps) = true) (x y : Operand) (ho : o.op = .store 22 x y)
    (g off : Nat) (k : Key) (hx : a.eval x = .pointer (some ⟨g, off, none⟩)) (hy : a.eval y = .agg k.cs.toArray) (t : TypeId) (cs : List Value) (hb : Blk w g t cs) (hl : off + 16 ≤ cs.length)
    (h : ∀ w', Hid (Blk w' g t (cs.take off ++ (k.cs ++ cs.drop (off + 16)))) → Hid (Far (only g) w w') → K (a.put o.dst undef) w') : if Region.wanted o (yielded ops a.tmps) = true then Oper.wp Try.prog o a w K Q else E := by
  have hk : k.cs.toArray.size = 16 := by rw [List.size_toArray, key16]
  rw [if_pos hw]
  refine wp_store_mid 22 x y ho g off k.cs.toArray hx hy (fun j hj => ⟨?_, hb.frozen _⟩) (by rw [hk]; exact sizeK) (all_oneCell_toArray (cel_each _)) (h _ ?_ (far_setCells _ _ _ _ (Far.refl _ _) (fun _ => rfl)))
  · rw [hb.cell, List.getElem?_eq_getElem (by omega)]
    rfl
  · have := Blk.setCells k.cs cs off w hb (by rw [key16]; exact hl)
    rwa [key16] at this
set_option maxRecDepth 100000 in
set_option maxHeartbeats 2000000 in
theorem turn_false (g n : Nat) (p q : Key) (v : Bool) (m e : Nat) (w : World) (h : Blk w g 56 (gcs n p q false v m e)) (he : e ≤ 9223372036854775806) : Calls Try.prog 22 #[.pointer (some ⟨g, 0, none⟩)] w fun e' w' => e' = .returned (.tuple #[]) ∧ Blk w' g 56 (gcs n key0 q true false 0 (e + 1)) ∧ Far (only g) w w' := by
  have HM : Hid ((gcs n p q false v m e).take 1 ++ (key0.cs ++ (gcs n p q false v m e).drop (1 + 16)) = gcs n key0 q false v m e) := Lib.hid (gput_p key0)
  have HO := Lib.hid (fun W (hW : Blk W g 56 (gcs n key0 q false v m e)) => other_false g n key0 q v m e W hW)
  go_enter Try.func22, Try.ntmps22
  go_wp2_with fail
  refine til_begin (fun W => Blk W g 56 (gcs n p q false v m e)) 9 (by kernel_rfl) ?_
  have D0 := Lib.hid (h.drew)
  clear h
  generalize hy0 : w.drew = y0 at *
  have F0 : Hid (Far (only g) w y0) := by subst hy0; exact (Far.refl _ _).drew
  clear hy0
  refine til_take (i := 0) (oi := ⟨some 2, _, _, _, _, _⟩) (v := ?_) rfl (by kernel_rfl) (by kernel_rfl) (by kernel_rfl) (by decide) (by kernel_rfl) (by kernel_rfl) (fun _ _ _ h => h) (Or.inl ⟨by rfl, ?_⟩) D0.out ?_
  rotate_left
  · (intro W hSW; clear hSW; go_simp)
    first | done | (with_reducible rfl)
  try simp only [Act.put, List.setIfInBounds_toArray, List.set_cons_zero, List.set_cons_succ]
  refine til_take (i := 1) (oi := ⟨some 3, _, _, _, _, _⟩) (v := ?_) rfl (by kernel_rfl) (by kernel_rfl) (by kernel_rfl) (by decide) (by kernel_rfl) (by kernel_rfl) (fun _ _ _ h => h) (Or.inl ⟨by rfl, ?_⟩) D0.out ?_
  rotate_left
  · (intro W hSW; clear hSW; go_simp)
    first | done | (with_reducible rfl)
  try simp only [Act.put, List.setIfInBounds_toArray, List.set_cons_zero, List.set_cons_succ]
  refine til_take (i := 2) (oi := ⟨some 4, _, _, _, _, _⟩) (v := ?_) rfl (by kernel_rfl) (by kernel_rfl) (by kernel_rfl) (by decide) (by kernel_rfl) (by kernel_rfl) (fun _ _ _ h => h) (Or.inl ⟨by rfl, ?_⟩) D0.out ?_
  rotate_left
  · (intro W hSW; clear hSW; go_simp)
    first | done | (with_reducible rfl)
  try simp only [Act.put, List.setIfInBounds_toArray, List.set_cons_zero, List.set_cons_succ]
  refine til_take (i := 3) (oi := ⟨some 5, _, _, _, _, _⟩) (v := ?_) rfl (by kernel_rfl) (by kernel_rfl) (by kernel_rfl) (by decide) (by kernel_rfl) (by kernel_rfl) (fun _ _ _ h => h) (Or.inl ⟨by rfl, ?_⟩) D0.out ?_
  rotate_left
  · (intro W hSW; clear hSW; go_simp)
    first | done | (with_reducible rfl)
  try simp only [Act.put, List.setIfInBounds_toArray, List.set_cons_zero, List.set_cons_succ]
  refine til_take (i := 4) (oi := ⟨some 6, _, _, _, _, _⟩) (v := .int .i64 0) rfl (by kernel_rfl) (by kernel_rfl) (by kernel_rfl) (by decide) (by kernel_rfl) (by kernel_rfl) (fun _ _ _ h => h) (Or.inl ⟨by rfl, ?_⟩) D0.out ?_
  · (intro W hSW; have d1 := gcell_f hSW; clear hSW; go_simp)
  try simp only [Act.put, List.setIfInBounds_toArray, List.set_cons_zero, List.set_cons_succ]
  refine til_take (i := 5) (oi := ⟨some 7, _, _, _, _, _⟩) (v := .agg key0.cs.toArray) rfl (by kernel_rfl) (by kernel_rfl) (by kernel_rfl) (by decide) (by kernel_rfl) (by kernel_rfl) (fun _ _ _ h => h) (yields_build (by rfl) 22 [] rfl [] rfl key0.cs (fun _ => run_key0 _)) D0.out ?_
  try simp only [Act.put, List.setIfInBounds_toArray, List.set_cons_zero, List.set_cons_succ]
  refine til_takeP (i := 6) (oi := ⟨some 8, _, _, _, _, _⟩) (v := ?_) rfl (by kernel_rfl) (by kernel_rfl) (by kernel_rfl) (by decide) (fun _ _ _ h => h) (Or.inl ⟨by rfl, ?_⟩) (fun _ => D0.out) ?_
  rotate_left
  · (intro W hSW; clear hSW; go_simp)
    first | done | (with_reducible rfl)
  try simp only [Act.put, List.setIfInBounds_toArray, List.set_cons_zero, List.set_cons_succ]
  refine til_takeP (i := 7) (oi := ⟨some 9, _, _, _, _, _⟩) (v := ?_) rfl (by kernel_rfl) (by kernel_rfl) (by kernel_rfl) (by decide) (fun _ _ _ h => h) (Or.inl ⟨by rfl, ?_⟩) (fun _ => D0.out) ?_
  rotate_left
  · (intro W hSW; clear hSW; go_simp)
    first | done | (with_reducible rfl)
  try simp only [Act.put, List.setIfInBounds_toArray, List.set_cons_zero, List.set_cons_succ]
  refine til_takeP (i := 8) (oi := ⟨some 10, _, _, _, _, _⟩) (v := ?_) rfl (by kernel_rfl) (by kernel_rfl) (by kernel_rfl) (by decide) (fun _ _ _ h => h) (Or.inl ⟨by rfl, ?_⟩) (fun _ => D0.out) ?_
  rotate_left
  · (intro W hSW; clear hSW; go_simp)
    first | done | (with_reducible rfl)
  try simp only [Act.put, List.setIfInBounds_toArray, List.set_cons_zero, List.set_cons_succ]
  refine til_one (i := 9) (o := ⟨none, _, _, _, _, _⟩) (by kernel_rfl) rfl (fun K hK => ?_)
  refine step_putk (by rfl) (.tmp 10) (.tmp 7) rfl g 1 key0 rfl rfl 56 _ D0.out (by rw [gcs_len]; decide) ?_
  intro w3 K3 F3
  rw [HM.out] at K3
  refine hK.out _ _ (past (by kernel_rfl)) ?_
  clear hK K
  try simp only [Act.put]
  refine til_done (by kernel_rfl) ?_ _
  have d33 := gcell_o K3.out
  have d34 := gcell_v K3.out
  have d35 := gcell_m K3.out
  have d36 := gcell_e K3.out
  have f33 := K3.out.frozen 33
  have f34 := K3.out.frozen 34
  have f35 := K3.out.frozen 35
  have f36 := K3.out.frozen 36
  go_wp2_with (go_at_call 20; (with_reducible refine (HO.out _ K3.out).mono ?_); rintro e5 w5 ⟨rfl, rfl⟩)
  have K4 : Hid (Blk ((((w3.setCell ⟨g, 33, none⟩ (.int .i64 1)).setCell ⟨g, 34, none⟩ (.bool false)).setCell ⟨g, 35, none⟩ (.int .i64 0)).setCell ⟨g, 36, none⟩ (.int .i64 ((e : Int) + 1))) g 56 (gcs n key0 q true false 0 (e + 1))) := by
    have k1 := (((K3.out.set_ 33 (.int .i64 1)).set_ 34 (.bool false)).set_ 35 (.int .i64 0)).set_ 36 (.int .i64 ((e + 1 : Nat) : Int))
    have e1 : ((((gcs n key0 q false v m e).set 33 (.int .i64 1)).set 34 (.bool false)).set 35 (.int .i64 0)).set 36 (.int .i64 ((e + 1 : Nat) : Int)) = gcs n key0 q true false 0 (e + 1) := by
      have a1 := gset_o (n := n) (p := key0) (q := q) (o := false) (v := v) (m := m) (e := e) true
      have a2 := gset_v (n := n) (p := key0) (q := q) (o := true) (v := v) (m := m) (e := e) false
      have a3 := gset_m (n := n) (p := key0) (q := q) (o := true) (v := false) (m := m) (e := e) 0
      have a4 := gset_e (n := n) (p := key0) (q := q) (o := true) (v := false) (m := 0) (e := e) (e + 1)
      rw [← a4, ← a3, ← a2, ← a1]
      rfl
    rw [e1] at k1
    exact k1
  have F4 : Hid (Far (only g) w ((((w3.setCell ⟨g, 33, none⟩ (.int .i64 1)).setCell ⟨g, 34, none⟩ (.bool false)).setCell ⟨g, 35, none⟩ (.int .i64 0)).setCell ⟨g, 36, none⟩ (.int .i64 ((e : Int) + 1)))) :=
    ((((F0.out.trans F3.out (fun _ _ e => e)).set_ (p := ⟨g, 33, none⟩) (fun _ => rfl) _).set_ (p := ⟨g, 34, none⟩) (fun _ => rfl) _).set_ (p := ⟨g, 35, none⟩) (fun _ => rfl) _).set_ (p := ⟨g, 36, none⟩) (fun _ => rfl) _
  go_end0
  exact ⟨rfl, K4.out, F4.out⟩
set_option maxRecDepth 100000 in
set_option maxHeartbeats 2000000 in
theorem turn_true (g n : Nat) (p q : Key) (v : Bool) (m e : Nat) (w : World) (h : Blk w g 56 (gcs n p q true v m e)) (he : e ≤ 9223372036854775806) : Calls Try.prog 22 #[.pointer (some ⟨g, 0, none⟩)] w fun e' w' => e' = .returned (.tuple #[]) ∧ Blk w' g 56 (gcs n p key0 false false 0 (e + 1)) ∧ Far (only g) w w' := by
  have HM : Hid ((gcs n p q true v m e).take 17 ++ (key0.cs ++ (gcs n p q true v m e).drop (17 + 16)) = gcs n p key0 true v m e) := Lib.hid (gput_q key0)
  have HO := Lib.hid (fun W (hW : Blk W g 56 (gcs n p key0 true v m e)) => other_true g n p key0 v m e W hW)
  go_enter Try.func22, Try.ntmps22
  go_wp2_with fail
  refine til_begin (fun W => Blk W g 56 (gcs n p q true v m e)) 9 (by kernel_rfl) ?_
  have D0 := Lib.hid (h.drew)
  clear h
  generalize hy0 : w.drew = y0 at *
  have F0 : Hid (Far (only g) w y0) := by subst hy0; exact (Far.refl _ _).drew
  clear hy0
  refine til_take (i := 0) (oi := ⟨some 2, _, _, _, _, _⟩) (v := ?_) rfl (by kernel_rfl) (by kernel_rfl) (by kernel_rfl) (by decide) (by kernel_rfl) (by kernel_rfl) (fun _ _ _ h => h) (Or.inl ⟨by rfl, ?_⟩) D0.out ?_
  rotate_left
  · (intro W hSW; clear hSW; go_simp)
    first | done | (with_reducible rfl)
  try simp only [Act.put, List.setIfInBounds_toArray, List.set_cons_zero, List.set_cons_succ]
  refine til_take (i := 1) (oi := ⟨some 3, _, _, _, _, _⟩) (v := ?_) rfl (by kernel_rfl) (by kernel_rfl) (by kernel_rfl) (by decide) (by kernel_rfl) (by kernel_rfl) (fun _ _ _ h => h) (Or.inl ⟨by rfl, ?_⟩) D0.out ?_
  rotate_left
  · (intro W hSW; clear hSW; go_simp)
    first | done | (with_reducible rfl)
  try simp only [Act.put, List.setIfInBounds_toArray, List.set_cons_zero, List.set_cons_succ]
  refine til_take (i := 2) (oi := ⟨some 4, _, _, _, _, _⟩) (v := ?_) rfl (by kernel_rfl) (by kernel_rfl) (by kernel_rfl) (by decide) (by kernel_rfl) (by kernel_rfl) (fun _ _ _ h => h) (Or.inl ⟨by rfl, ?_⟩) D0.out ?_
  rotate_left
  · (intro W hSW; clear hSW; go_simp)
    first | done | (with_reducible rfl)
  try simp only [Act.put, List.setIfInBounds_toArray, List.set_cons_zero, List.set_cons_succ]
  refine til_take (i := 3) (oi := ⟨some 5, _, _, _, _, _⟩) (v := ?_) rfl (by kernel_rfl) (by kernel_rfl) (by kernel_rfl) (by decide) (by kernel_rfl) (by kernel_rfl) (fun _ _ _ h => h) (Or.inl ⟨by rfl, ?_⟩) D0.out ?_
  rotate_left
  · (intro W hSW; clear hSW; go_simp)
    first | done | (with_reducible rfl)
  try simp only [Act.put, List.setIfInBounds_toArray, List.set_cons_zero, List.set_cons_succ]
  refine til_take (i := 4) (oi := ⟨some 6, _, _, _, _, _⟩) (v := .int .i64 1) rfl (by kernel_rfl) (by kernel_rfl) (by kernel_rfl) (by decide) (by kernel_rfl) (by kernel_rfl) (fun _ _ _ h => h) (Or.inl ⟨by rfl, ?_⟩) D0.out ?_
  · (intro W hSW; have d1 := gcell_t hSW; clear hSW; go_simp)
  try simp only [Act.put, List.setIfInBounds_toArray, List.set_cons_zero, List.set_cons_succ]
  refine til_take (i := 5) (oi := ⟨some 7, _, _, _, _, _⟩) (v := .agg key0.cs.toArray) rfl (by kernel_rfl) (by kernel_rfl) (by kernel_rfl) (by decide) (by kernel_rfl) (by kernel_rfl) (fun _ _ _ h => h) (yields_build (by rfl) 22 [] rfl [] rfl key0.cs (fun _ => run_key0 _)) D0.out ?_
  try simp only [Act.put, List.setIfInBounds_toArray, List.set_cons_zero, List.set_cons_succ]
  refine til_takeP (i := 6) (oi := ⟨some 8, _, _, _, _, _⟩) (v := ?_) rfl (by kernel_rfl) (by kernel_rfl) (by kernel_rfl) (by decide) (fun _ _ _ h => h) (Or.inl ⟨by rfl, ?_⟩) (fun _ => D0.out) ?_
  rotate_left
  · (intro W hSW; clear hSW; go_simp)
    first | done | (with_reducible rfl)
  try simp only [Act.put, List.setIfInBounds_toArray, List.set_cons_zero, List.set_cons_succ]
  refine til_takeP (i := 7) (oi := ⟨some 9, _, _, _, _, _⟩) (v := ?_) rfl (by kernel_rfl) (by kernel_rfl) (by kernel_rfl) (by decide) (fun _ _ _ h => h) (Or.inl ⟨by rfl, ?_⟩) (fun _ => D0.out) ?_
  rotate_left
  · (intro W hSW; clear hSW; go_simp)
    first | done | (with_reducible rfl)
  try simp only [Act.put, List.setIfInBounds_toArray, List.set_cons_zero, List.set_cons_succ]
  refine til_takeP (i := 8) (oi := ⟨some 10, _, _, _, _, _⟩) (v := ?_) rfl (by kernel_rfl) (by kernel_rfl) (by kernel_rfl) (by decide) (fun _ _ _ h => h) (Or.inl ⟨by rfl, ?_⟩) (fun _ => D0.out) ?_
  rotate_left
  · (intro W hSW; clear hSW; go_simp)
    first | done | (with_reducible rfl)
  try simp only [Act.put, List.setIfInBounds_toArray, List.set_cons_zero, List.set_cons_succ]
  refine til_one (i := 9) (o := ⟨none, _, _, _, _, _⟩) (by kernel_rfl) rfl (fun K hK => ?_)
  refine step_putk (by rfl) (.tmp 10) (.tmp 7) rfl g 17 key0 rfl rfl 56 _ D0.out (by rw [gcs_len]; decide) ?_
  intro w3 K3 F3
  rw [HM.out] at K3
  refine hK.out _ _ (past (by kernel_rfl)) ?_
  clear hK K
  try simp only [Act.put]
  refine til_done (by kernel_rfl) ?_ _
  have d33 := gcell_o K3.out
  have d34 := gcell_v K3.out
  have d35 := gcell_m K3.out
  have d36 := gcell_e K3.out
  have f33 := K3.out.frozen 33
  have f34 := K3.out.frozen 34
  have f35 := K3.out.frozen 35
  have f36 := K3.out.frozen 36
  go_wp2_with (go_at_call 20; (with_reducible refine (HO.out _ K3.out).mono ?_); rintro e5 w5 ⟨rfl, rfl⟩)
  have K4 : Hid (Blk ((((w3.setCell ⟨g, 33, none⟩ (.int .i64 0)).setCell ⟨g, 34, none⟩ (.bool false)).setCell ⟨g, 35, none⟩ (.int .i64 0)).setCell ⟨g, 36, none⟩ (.int .i64 ((e : Int) + 1))) g 56 (gcs n p key0 false false 0 (e + 1))) := by
    have k1 := (((K3.out.set_ 33 (.int .i64 0)).set_ 34 (.bool false)).set_ 35 (.int .i64 0)).set_ 36 (.int .i64 ((e + 1 : Nat) : Int))
    have e1 : ((((gcs n p key0 true v m e).set 33 (.int .i64 0)).set 34 (.bool false)).set 35 (.int .i64 0)).set 36 (.int .i64 ((e + 1 : Nat) : Int)) = gcs n p key0 false false 0 (e + 1) := by
      have a1 := gset_o (n := n) (p := p) (q := key0) (o := true) (v := v) (m := m) (e := e) false
      have a2 := gset_v (n := n) (p := p) (q := key0) (o := false) (v := v) (m := m) (e := e) false
      have a3 := gset_m (n := n) (p := p) (q := key0) (o := false) (v := false) (m := m) (e := e) 0
      have a4 := gset_e (n := n) (p := p) (q := key0) (o := false) (v := false) (m := 0) (e := e) (e + 1)
      rw [← a4, ← a3, ← a2, ← a1]
      rfl
    rw [e1] at k1
    exact k1
  have F4 : Hid (Far (only g) w ((((w3.setCell ⟨g, 33, none⟩ (.int .i64 0)).setCell ⟨g, 34, none⟩ (.bool false)).setCell ⟨g, 35, none⟩ (.int .i64 0)).setCell ⟨g, 36, none⟩ (.int .i64 ((e : Int) + 1)))) :=
    ((((F0.out.trans F3.out (fun _ _ e => e)).set_ (p := ⟨g, 33, none⟩) (fun _ => rfl) _).set_ (p := ⟨g, 34, none⟩) (fun _ => rfl) _).set_ (p := ⟨g, 35, none⟩) (fun _ => rfl) _).set_ (p := ⟨g, 36, none⟩) (fun _ => rfl) _
  go_end0
  exact ⟨rfl, K4.out, F4.out⟩
end Go.Proofs.Ytfhlgmmfknfamaa
