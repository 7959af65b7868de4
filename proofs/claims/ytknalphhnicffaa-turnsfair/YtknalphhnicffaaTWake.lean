/- The contracts of the turns' Wake and Sleep. Conditions: those of each theorem. -/
import Derived.Test.YtknalphhnicffaaTNew
namespace Go.Proofs.Ytknalphhnicffaa
open Go.RowKit

/-- The world behind Wake's stores. -/
def wokenW (w : World) (g c l : Nat) : World := (((w.setCell ⟨g, 2 + c * 2, none⟩ (.int .i64 0)).setCell ⟨g, 2 + c * 2 + 1, none⟩ (.bool true)).setCell ⟨g, 261 + l, none⟩ (.int .i64 (c : Nat))).setCell ⟨g, 260, none⟩ (.int .i64 ((l : Int) + 1))
theorem sole_set {w w' : World} {g : Nat} (h : Far (sole g) w w') (i : Nat) (v : Value) : Far (sole g) w (w'.setCell ⟨g, i, none⟩ v) := Far.set_ (S := sole g) (p := ⟨g, i, none⟩) h (fun _ => rfl) v
theorem built61 (w : World) : (Instr.build 61 #[(1, .bool true)]).run Try.prog w = .ok (.agg #[.int .i64 0, .bool true]) w := by kernel_rfl
theorem built61z (w : World) : (Instr.build 61 #[]).run Try.prog w = .ok (.agg #[.int .i64 0, .bool false]) w := by kernel_rfl
set_option maxHeartbeats 1000000 in
theorem wake_ (b : Nat → Prop) (g n Q : Nat) (c : Int) (L : List Cls) (w : World) (h : TAt b w g n Q L) :
    Calls Try.prog 11 #[.pointer (some ⟨g, 0, none⟩), .int .i64 c] w fun e w' => e = .returned (.bool (canWake n L c)) ∧ TAt b w' g n Q (wakeOf n L c) ∧ Far b w w' := by
  have HT := Lib.hid h
  have C22 := Lib.hid (has_ b g n Q c L w h)
  have hl := h.len_le
  rcases hh : hasOf n c with _ | _
  · have e1 : canWake n L c = false := by unfold canWake; unfold hasOf at hh; rw [hh]; rfl
    have e2 : wakeOf n L c = L := by simp [wakeOf, e1]
    rw [e1, e2]
    rw [hh] at C22
    clear h hh e1 e2
    go_enter Try.func11, Try.ntmps11
    go_wp2_with (go_at_call 22; (with_reducible refine C22.out.mono ?_); rintro e w' ⟨rfl, rfl⟩)
    go_ret
    exact ⟨rfl, HT.out, Far.refl _ _⟩
  · rcases hi : isIn L c with _ | _
    · have e1 : canWake n L c = true := by unfold canWake; unfold hasOf at hh; rw [hh, hi]; rfl
      have hlt := h.ok.length_lt e1
      obtain ⟨k, rfl, hk⟩ := has_of hh
      have e2 : wakeOf n L (k : Int) = L ++ [⟨k, true, 0⟩] := by simp [wakeOf, e1]
      have HOK := Lib.hid (h.ok.wake (k : Int))
      rw [e2] at HOK
      rw [e1, e2]
      rw [hh] at C22
      have hk2 : k < 129 := by have := h.n_le; omega
      have hl2 : L.length < 129 := by have := h.n_le; omega
      have HI := Lib.hid hi
      clear h hh e1 e2 hi hl
      go_enter Try.func11, Try.ntmps11
      go_upto_region 3 with (first | (go_at_call 22; (with_reducible refine C22.out.mono ?_); rintro e w' ⟨rfl, rfl⟩) | (go_at_call 24; (with_reducible refine (line_ b g n Q L _ HT.out).mono ?_); rintro e w1 ⟨rfl, hb⟩; have B1 := Lib.hid hb; have T1 := Lib.hid (HT.out.below hb); clear hb) | (go_at_call 23; (with_reducible refine (contains_ _ _ _ _ L _ T1.out.vals (by omega)).mono ?_); rintro e w' ⟨rfl, rfl⟩; rw [HI.out]))
      obtain ⟨cs, HB, HG⟩ := TAt.open_ T1.out
      have hbd := built61
      have q1 : w1.cell? ⟨g, 2 + k * 2, none⟩ = some (.int .i64 (defOf L k : Nat)) := (HB.out.cell _).trans (HG.out.d k hk2)
      have q2 : w1.cell? ⟨g, 2 + k * 2 + 1, none⟩ = some (.bool (freOf L k)) := (HB.out.cell _).trans (HG.out.f k hk2)
      have q3 := HB.out.frozen (2 + k * 2)
      have q4 := HB.out.frozen (2 + k * 2 + 1)
      go_upto_region 4 with fail
      have HB2 := Lib.hid ((HB.out.set_ (2 + k * 2) (.int .i64 0)).set_ (2 + k * 2 + 1) (.bool true))
      have F2 : Hid (Far (sole g) w1 ((w1.setCell ⟨g, 2 + k * 2, none⟩ (.int .i64 0)).setCell ⟨g, 2 + k * 2 + 1, none⟩ (.bool true))) := sole_set (sole_set (Far.refl _ _) _ _) _ _
      generalize (w1.setCell ⟨g, 2 + k * 2, none⟩ (.int .i64 0)).setCell ⟨g, 2 + k * 2 + 1, none⟩ (.bool true) = w2 at *
      clear q1 q2 q3 q4
      have r1 : w2.cell? ⟨g, 260, none⟩ = some (.int .i64 (L.length : Nat)) := by rw [HB2.out.cell, set_other (by omega), set_other (by omega)]; exact HG.out.k
      obtain ⟨u, r2⟩ : ∃ u, w2.cell? ⟨g, 261 + L.length, none⟩ = some u := by rw [HB2.out.cell]; exact ⟨_, List.getElem?_eq_getElem (by simp; have := HG.out.size; omega)⟩
      have r3 := HB2.out.frozen (261 + L.length)
      go_wp2
      go_region
      go_upto_region 5 with fail
      have HB3 := Lib.hid ((HB2.out.set_ (261 + L.length) (.int .i64 (k : Nat))).drewN 1)
      have F3 : Hid (Far (sole g) w1 (w2.setCell ⟨g, 261 + L.length, none⟩ (.int .i64 (k : Nat))).drew) := (sole_set F2.out _ _).drew
      have s1 : ((w2.setCell ⟨g, 261 + L.length, none⟩ (.int .i64 (k : Nat))).drew).cell? ⟨g, 260, none⟩ = some (.int .i64 (L.length : Nat)) := by rw [show ((w2.setCell ⟨g, 261 + L.length, none⟩ (.int .i64 (k : Nat))).drew).cell? ⟨g, 260, none⟩ = _ from HB3.out.cell 260, set_other (by omega), set_other (by omega), set_other (by omega)]; exact HG.out.k
      have s2 : ((w2.setCell ⟨g, 261 + L.length, none⟩ (.int .i64 (k : Nat))).drew).frozen? ⟨g, 260, none⟩ = false := HB3.out.frozen 260
      have HB3' : Hid (Blk (w2.setCell ⟨g, 261 + L.length, none⟩ (.int .i64 (k : Nat))).drew g 65 _) := HB3.out
      clear HB3
      generalize (w2.setCell ⟨g, 261 + L.length, none⟩ (.int .i64 (k : Nat))).drew = w3 at *
      clear r1 r2 r3
      go_wp2_with fail
      go_ret
      exact ⟨rfl, T1.out.put HOK.out (HB3'.out.set_ 260 (.int .i64 ((L.length : Int) + 1))) (HG.out.wake hk2 hl2 HI.out), (Far.of_below B1.out b).trans (sole_set F3.out 260 _) (fun i _ e => by rw [e]; exact T1.out.1)⟩
    · have e1 : canWake n L c = false := by unfold canWake; rw [hi]; simp
      have e2 : wakeOf n L c = L := by simp [wakeOf, e1]
      rw [e1, e2]
      rw [hh] at C22
      have HI := Lib.hid hi
      clear h hh e1 e2 hi
      go_enter Try.func11, Try.ntmps11
      go_wp2_with (first | (go_at_call 22; (with_reducible refine C22.out.mono ?_); rintro e w' ⟨rfl, rfl⟩) | (go_at_call 24; (with_reducible refine (line_ b g n Q L _ HT.out).mono ?_); rintro e w1 ⟨rfl, hb⟩; have B1 := Lib.hid hb; have T1 := Lib.hid (HT.out.below hb); clear hb) | (go_at_call 23; (with_reducible refine (contains_ _ _ _ _ L _ T1.out.vals hl).mono ?_); rintro e w' ⟨rfl, rfl⟩; rw [HI.out]))
      go_ret
      exact ⟨rfl, T1.out, Far.of_below B1.out b⟩
/-- Where a class stands, and what is left without it. -/
theorem sleep_ex {n Q : Nat} {L : List Cls} {c : Int} (ho : Ok n Q L) (h : isIn L c = true) : ∃ (k : Nat) (x : Cls), L[k]? = some x ∧ (x.n : Int) = c ∧ placeOf L c = (k : Nat) ∧ lastOf L k x = sleepOf L c ++ [x] := by
  obtain ⟨k, x, h1, h2, h3, _⟩ := place_ex h
  obtain ⟨k', x', _, h3', _, h5⟩ := sleep_at ho h
  have e : k = k' := by omega
  subst e
  exact ⟨k, x, h1, h2, h3, by rw [h5]; rfl⟩
theorem sleep_isnt (L : List Cls) (c : Int) : isIn (sleepOf L c) c = false := by
  rw [isIn_not]
  intro y hy
  have := (List.mem_filter.1 hy).2
  simpa using this
set_option maxHeartbeats 1000000 in
theorem sleep_ (b : Nat → Prop) (g n Q : Nat) (c : Int) (L : List Cls) (w : World) (h : TAt b w g n Q L) :
    Calls Try.prog 14 #[.pointer (some ⟨g, 0, none⟩), .int .i64 c] w fun e w' => e = .returned (.bool (isIn L c)) ∧ TAt b w' g n Q (sleepOf L c) ∧ Far b w w' := by
  have HT := Lib.hid h
  have hl := h.len_le
  rcases hi : isIn L c with _ | _
  · have e2 : sleepOf L c = L := by
      unfold sleepOf
      rw [List.filter_eq_self]
      intro y hy
      simpa using isIn_not.1 hi y hy
    have HP : Hid (placeOf L c = -1) := place_not hi
    rw [e2]
    clear h e2 hi
    go_enter Try.func14, Try.ntmps14
    go_wp2_with (first | (go_at_call 24; (with_reducible refine (line_ b g n Q L _ HT.out).mono ?_); rintro e w1 ⟨rfl, hb⟩; have B1 := Lib.hid hb; have T1 := Lib.hid (HT.out.below hb); clear hb) | (go_at_call 28; (with_reducible refine (index_ _ _ _ _ L _ T1.out.vals hl).mono ?_); rintro e w' ⟨rfl, rfl⟩; rw [HP.out]))
    go_ret
    exact ⟨rfl, T1.out, Far.of_below B1.out b⟩
  · obtain ⟨k, x, hk, hxc, hp, he⟩ := sleep_ex h.ok hi
    subst hxc
    have hx : x.n < 129 := by have := h.ok.lt x (List.mem_of_getElem? hk); have := h.n_le; omega
    have HOK := Lib.hid (h.ok.sleep (x.n : Int))
    have HN := Lib.hid (sleep_isnt L (x.n : Int))
    have HP := Lib.hid hp
    have HK := Lib.hid hk
    have HE := Lib.hid he
    clear h hi hk hp he
    generalize sleepOf L (x.n : Int) = R at *
    have hbd := built61z
    go_enter Try.func14, Try.ntmps14
    go_upto_region 5 with (first | (go_at_call 24; (with_reducible refine (line_ b g n Q L _ HT.out).mono ?_); rintro e w1 ⟨rfl, hb⟩; have B1 := Lib.hid hb; have T1 := Lib.hid (HT.out.below hb); clear hb) | (go_at_call 28; (with_reducible refine (index_ _ _ _ _ L _ T1.out.vals hl).mono ?_); rintro e w' ⟨rfl, rfl⟩; rw [HP.out]) | (go_at_call 29; (with_reducible refine (last_ b g n Q k _ x L _ T1.out rfl HK.out).mono ?_); rintro e w2 ⟨rfl, ht, hf⟩; rw [HE.out] at ht; have T2 := Lib.hid ht; have F2 : Hid (Far b w w2) := (Far.of_below B1.out b).trans hf (fun i _ e => by rw [e]; exact T1.out.1); clear ht hf))
    obtain ⟨cs, HB, HG⟩ := TAt.open_ T2.out
    have r1 : w2.cell? ⟨g, 260, none⟩ = some (.int .i64 ((R.length : Int) + 1)) := by rw [HB.out.cell, HG.out.k]; simp
    have r3 := HB.out.frozen 260
    have hR : R.length < 129 := by have := T2.out.len_le; simp at this; omega
    go_upto_region 6 with fail
    have HB2 := Lib.hid (HB.out.set_ 260 (.int .i64 (R.length : Nat)))
    have F3 : Hid (Far b w (w2.setCell ⟨g, 260, none⟩ (.int .i64 (R.length : Nat)))) := F2.out.trans (sole_set (Far.refl _ _) _ _) (fun i _ e => by rw [e]; exact T1.out.1)
    generalize w2.setCell ⟨g, 260, none⟩ (.int .i64 (R.length : Nat)) = w3 at *
    have q1 : w3.cell? ⟨g, 2 + x.n * 2, none⟩ = some (.int .i64 (defOf (R ++ [x]) x.n : Nat)) := by rw [HB2.out.cell, set_other (by omega)]; exact HG.out.d x.n hx
    have q2 : w3.cell? ⟨g, 2 + x.n * 2 + 1, none⟩ = some (.bool (freOf (R ++ [x]) x.n)) := by rw [HB2.out.cell, set_other (by omega)]; exact HG.out.f x.n hx
    have q3 := HB2.out.frozen (2 + x.n * 2)
    have q4 := HB2.out.frozen (2 + x.n * 2 + 1)
    clear r1 r3
    go_wp2_with fail
    go_ret
    exact ⟨rfl, T2.out.put HOK.out ((HB2.out.set_ (2 + x.n * 2) (.int .i64 0)).set_ (2 + x.n * 2 + 1) (.bool false)) (HG.out.pop hx HN.out), F3.out.trans (sole_set (sole_set (Far.refl _ _) _ _) _ _) (fun i _ e => by rw [e]; exact T1.out.1)⟩
end Go.Proofs.Ytknalphhnicffaa
