/- The contract of the turns' Pick. Conditions: those of each theorem. -/
import Derived.Test.YtknalphhnicffaaTPick1
namespace Go.Proofs.Ytknalphhnicffaa
open Go.RowKit

set_option maxHeartbeats 4000000 in
set_option maxRecDepth 100000 in
theorem pick_ (b : Nat → Prop) (g n Q : Nat) (A : Option Addr) (m c : Nat) (hs : List Int) (L L' : List Cls) (o : Option Nat) (w : World) (h : TAt b w g n Q L) (hbw : ∀ k, w.heap.size ≤ k → b k)
    (hl : hs.length = m) (hv : Vals w A m (ints hs)) (hA : ∀ ad, A = some ad → 0 < m → ¬ b ad.block) (hp : Picks Q (hdOf hs) L L' o) :
    Calls Try.prog 16 #[.pointer (some ⟨g, 0, none⟩), headsV A m c] w fun e w' => e = .returned (.tuple #[.int .i64 (told o), .bool o.isSome]) ∧ TAt b w' g n Q L' ∧ Far b w w' := by
  have HT := Lib.hid h
  have HV := Lib.hid hv
  have HA := Lib.hid hA
  have HP := Lib.hid hp
  have HBW := Lib.hid hbw
  have HL := Lib.hid hl
  clear h hv hA hp hbw hl
  have hmeth : ∀ (v : Value) (w : World), (method 195 43 v "Head").run Try.prog w = .ok (48, v) w := fun _ _ => by kernel_rfl
  have hmf : ∀ (fn : Fn) (first cap : Array Value) (w : World), (Instr.makeFunc fn first cap).run Try.prog w = .ok (.func fn first cap) w := fun _ _ _ _ => rfl
  go_enter_defers Try.func16, Try.ntmps16
  go_upto_region 3 with fail
  have P1 := Lib.hid (PI.new HT.out HV.out)
  generalize ((w.alloc (Obj.cells #[Value.pointer (some ⟨g, 0, none⟩)] 25)).alloc (Obj.cells #[Value.int .i64 0] 3)).alloc (Obj.cells #[Value.bool false] 4) = w1 at *
  obtain ⟨cs, HB, HG⟩ := TAt.open_ P1.out.t
  have t0 : w1.cell? ⟨w.heap.size, 0, none⟩ = some (.pointer (some ⟨g, 0, none⟩)) := P1.out.v.t.cell 0
  go_upto_region 4 with (first | (refine wpList_whole65 (by rfl) (.tmp 15) rfl g rfl cs (by exact HB.out) (by exact HG.out.size) ?_) | (refine wpList_new65 rfl rfl ?_; intro w2 B2 W2) | (refine wpList_put65 rfl (.tmp 6) (.tmp 16) rfl w1.heap.size cs rfl rfl 65 (cells0 0 0) (by exact B2.out) zero_length (by exact HG.out.size) (by exact HG.out.all) ?_; intro w3 B3 F3; have P3 := Lib.hid (P1.out.below (W2.out.trans (F3.out.below W2.out.size (fun k hk e => by unfold sole at e; omega))))))
  clear P1 B2 W2 B3 F3 t0 HB HG HT HV
  go_wp2_with fail
  go_loopg [7] (mu L) (fun k _ wr => ∃ L1 : List Cls, mu L1 = k ∧ Picks Q (hdOf hs) L1 L' o ∧ PI b w g n Q A m hs L1 wr)
  case atStart => exact ⟨L, rfl, HP.out, P3.out⟩
  case round =>
    clear HP P3
    obtain ⟨L1, hmu, hpk, hpi⟩ := hrel
    have HMU := Lib.hid hmu
    have HPK := Lib.hid hpk
    have HPI := Lib.hid hpi
    have t0 : wr.cell? ⟨w.heap.size, 0, none⟩ = some (.pointer (some ⟨g, 0, none⟩)) := HPI.out.v.t.cell 0
    have t1 := HPI.out.t.ck
    clear hmu hpk hpi
    rcases L1 with _ | ⟨x, xs⟩
    · obtain ⟨e1, e2⟩ := HPK.out.nil
      have HE1 := Lib.hid e1
      have HE2 := Lib.hid e2
      clear e1 e2
      simp only [List.length_nil] at t1
      have u1 : wr.cell? ⟨w.heap.size + 1, 0, none⟩ = some (.int .i64 0) := HPI.out.v.c.cell 0
      have u2 : wr.cell? ⟨w.heap.size + 1 + 1, 0, none⟩ = some (.bool false) := HPI.out.v.k.cell 0
      have f1 : wr.frozen? ⟨w.heap.size + 1, 0, none⟩ = false := HPI.out.v.c.frozen 0
      have f2 : wr.frozen? ⟨w.heap.size + 1 + 1, 0, none⟩ = false := HPI.out.v.k.frozen 0
      go_wp2_with fail
      obtain ⟨k1, k2, k3, k4⟩ := HPI.out.end_ HBW.out 0 false
      generalize (wr.setCell ⟨w.heap.size + 1, 0, none⟩ (.int .i64 0)).setCell ⟨w.heap.size + 1 + 1, 0, none⟩ (.bool false) = wz at *
      have K1 := Lib.hid k1
      have K2 := Lib.hid k2
      clear k1 k2
      refine leaves_cons (f := 30) (args := #[.pointer (some ⟨w1.heap.size, 0, none⟩), .pointer (some ⟨w.heap.size, 0, none⟩), .pointer (some ⟨w.heap.size + 1, 0, none⟩), .pointer (some ⟨w.heap.size + 1 + 1, 0, none⟩)]) (by simp) (by simp [go_sem]) ?_
      refine (catch_idle _ _ _ _ _).mono ?_
      rintro e u' w'' ⟨rfl, rfl, rfl⟩
      simp [Leaves, settle, results, Try.results16, go_sem, k3, k4]
      rw [HE1.out, HE2.out]
      exact ⟨⟨rfl, rfl⟩, K1.out, K2.out⟩
    · simp only [List.length_cons] at t1
      have t2 := HPI.out.t.co rfl
      have HH : Hid (∀ W, PI b w g n Q A m hs (x :: xs) W → Calls Try.prog 48 #[.agg #[.slice A m c], .int .i64 (x.n : Nat)] W fun e w' => e = .returned (.int .i64 (hdOf hs x.n)) ∧ Below W.heap.size W w') := fun W p => head_any A m c x.n hs _ W rfl HL.out p.a
      rcases HPK.out.inv with ⟨i1, i2⟩ | ⟨i1, i2, i3, i4⟩ | ⟨i1, i2, i3⟩
      · have C31 : Hid (∀ W, PI b w g n Q A m hs (x :: xs) W → Calls Try.prog 31 #[.pointer (some ⟨g, 0, none⟩), .int .i64 (x.n : Nat), .int .i64 (hdOf hs x.n)] W fun e w' => e = .returned (.bool false) ∧ PI b w g n Q A m hs xs w') :=
          fun W p => (look_sleeps _ g n Q x xs _ W p.t i1).mono fun e w' ⟨h1, h2, h3⟩ => ⟨h1, p.turn HA.out h2 h3⟩
        have HN : Hid (Picks Q (hdOf hs) xs L' o) := i2
        have HM : Hid (mu xs < mu (x :: xs)) := mu_sleeps x xs
        clear i1 i2
        generalize hhe : hdOf hs x.n = hh at *
        have HHE := Lib.hid hhe
        clear hhe
        go_upto_region 7 with fail
        refine wp_region_held_drew (S := fun W => ∃ L3, PI b w g n Q A m hs L3 W) (by kernel_rfl) ?_ (fun _ => ?_)
        · exact ⟨_, HPI.out.drew⟩
        have HS0 : Hid (∃ L3, PI b w g n Q A m hs L3 wr.drew) := ⟨_, HPI.out.drew⟩
        refine wpAnyH_take (i := 0) (oi := ⟨some 28, _, _, _, _, _⟩) (v := ?_) rfl (by kernel_rfl) (by kernel_rfl) (by kernel_rfl) (fun _ _ _ h => pan16 28 (by decide) (by decide) h) (Or.inl ⟨by rfl, ?_⟩) HS0.out ?_
        rotate_left
        · (intro W hSW; obtain ⟨L3, hP⟩ := hSW; have hc := hP.v.t.cell 0; have hSW := True.intro; clear hP; clear hSW; go_simp)
          first | done | (with_reducible rfl)
        try simp only [Act.put, List.setIfInBounds_toArray, List.set_cons_zero, List.set_cons_succ]
        refine wpAnyH_take (i := 1) (oi := ⟨some 29, _, _, _, _, _⟩) (v := ?_) rfl (by kernel_rfl) (by kernel_rfl) (by kernel_rfl) (fun _ _ _ h => pan16 29 (by decide) (by decide) h) (Or.inl ⟨by rfl, ?_⟩) HS0.out ?_
        rotate_left
        · (intro W hSW; clear hSW; go_simp)
          first | done | (with_reducible rfl)
        try simp only [Act.put, List.setIfInBounds_toArray, List.set_cons_zero, List.set_cons_succ]
        refine wpAnyH_take (i := 2) (oi := ⟨some 30, _, _, _, _, _⟩) (v := ?_) rfl (by kernel_rfl) (by kernel_rfl) (by kernel_rfl) (fun _ _ _ h => pan16 30 (by decide) (by decide) h) (Or.inl ⟨by rfl, ?_⟩) HS0.out ?_
        rotate_left
        · (intro W hSW; clear hSW; go_simp)
          first | done | (with_reducible rfl)
        try simp only [Act.put, List.setIfInBounds_toArray, List.set_cons_zero, List.set_cons_succ]
        refine wpAnyH_take (i := 3) (oi := ⟨some 31, _, _, _, _, _⟩) (v := ?_) rfl (by kernel_rfl) (by kernel_rfl) (by kernel_rfl) (fun _ _ _ h => pan16 31 (by decide) (by decide) h) (Or.inl ⟨by rfl, ?_⟩) HS0.out ?_
        rotate_left
        · (intro W hSW; clear hSW; go_simp)
          first | done | (with_reducible rfl)
        try simp only [Act.put, List.setIfInBounds_toArray, List.set_cons_zero, List.set_cons_succ]
        refine wpAnyH_ready (rs := [4]) (by kernel_rfl) (by simp) ?_
        refine AllReadyH.cons (o := ⟨some 32, _, _, _, _, _⟩) rfl (fun K hK => ?_) AllReadyH.nil
        go_simp
        refine (HH.out _ HPI.out.drew).mono ?_
        rintro e x1 ⟨rfl, hb⟩
        have HP1 := Lib.hid (HPI.out.drew.below hb)
        have HS1 : Hid (∃ L3, PI b w g n Q A m hs L3 x1) := ⟨_, HP1.out⟩
        clear hb
        go_simp
        refine hK.out _ _ ?_ (fun _ => ?_)
        · exact HS1.out
        clear hK K
        try simp only [Act.put, List.setIfInBounds_toArray, List.set_cons_zero, List.set_cons_succ]
        refine wpAnyH_ready (rs := [5]) (by kernel_rfl) (by simp) ?_
        refine AllReadyH.cons (o := ⟨some 33, _, _, _, _, _⟩) rfl (fun K hK => ?_) AllReadyH.nil
        go_simp
        refine (C31.out _ HP1.out).mono ?_
        rintro e x2 ⟨rfl, hb⟩
        have P6 := Lib.hid hb
        have HS2 : Hid (∃ L3, PI b w g n Q A m hs L3 x2) := ⟨_, P6.out⟩
        clear hb
        go_simp
        refine hK.out _ _ ?_ (fun _ => ?_)
        · exact HS2.out
        clear hK K
        try simp only [Act.put, List.setIfInBounds_toArray, List.set_cons_zero, List.set_cons_succ]
        refine wpAnyH_done (by kernel_rfl) ?_ _
        go_wp2_with fail
        go_roundg (mu xs)
        case measure => have := HM.out; have := HMU.out; omega
        case rel => exact ⟨_, rfl, HN.out, P6.out⟩
      · have C31 : Hid (∀ W, PI b w g n Q A m hs (x :: xs) W → Calls Try.prog 31 #[.pointer (some ⟨g, 0, none⟩), .int .i64 (x.n : Nat), .int .i64 (hdOf hs x.n)] W fun e w' => e = .returned (.bool true) ∧ PI b w g n Q A m hs (⟨x.n, false, due Q x - len (hdOf hs x.n)⟩ :: xs) w') :=
          fun W p => (look_takes _ g n Q x xs _ W p.t i1 i2).mono fun e w' ⟨h1, h2, h3⟩ => ⟨h1, p.turn HA.out h2 h3⟩
        subst i3 i4
        clear i1 i2
        generalize hhe : hdOf hs x.n = hh at *
        have HHE := Lib.hid hhe
        clear hhe
        go_upto_region 7 with fail
        refine wp_region_held_drew (S := fun W => ∃ L3, PI b w g n Q A m hs L3 W) (by kernel_rfl) ?_ (fun _ => ?_)
        · exact ⟨_, HPI.out.drew⟩
        have HS0 : Hid (∃ L3, PI b w g n Q A m hs L3 wr.drew) := ⟨_, HPI.out.drew⟩
        refine wpAnyH_take (i := 0) (oi := ⟨some 28, _, _, _, _, _⟩) (v := ?_) rfl (by kernel_rfl) (by kernel_rfl) (by kernel_rfl) (fun _ _ _ h => pan16 28 (by decide) (by decide) h) (Or.inl ⟨by rfl, ?_⟩) HS0.out ?_
        rotate_left
        · (intro W hSW; obtain ⟨L3, hP⟩ := hSW; have hc := hP.v.t.cell 0; have hSW := True.intro; clear hP; clear hSW; go_simp)
          first | done | (with_reducible rfl)
        try simp only [Act.put, List.setIfInBounds_toArray, List.set_cons_zero, List.set_cons_succ]
        refine wpAnyH_take (i := 1) (oi := ⟨some 29, _, _, _, _, _⟩) (v := ?_) rfl (by kernel_rfl) (by kernel_rfl) (by kernel_rfl) (fun _ _ _ h => pan16 29 (by decide) (by decide) h) (Or.inl ⟨by rfl, ?_⟩) HS0.out ?_
        rotate_left
        · (intro W hSW; clear hSW; go_simp)
          first | done | (with_reducible rfl)
        try simp only [Act.put, List.setIfInBounds_toArray, List.set_cons_zero, List.set_cons_succ]
        refine wpAnyH_take (i := 2) (oi := ⟨some 30, _, _, _, _, _⟩) (v := ?_) rfl (by kernel_rfl) (by kernel_rfl) (by kernel_rfl) (fun _ _ _ h => pan16 30 (by decide) (by decide) h) (Or.inl ⟨by rfl, ?_⟩) HS0.out ?_
        rotate_left
        · (intro W hSW; clear hSW; go_simp)
          first | done | (with_reducible rfl)
        try simp only [Act.put, List.setIfInBounds_toArray, List.set_cons_zero, List.set_cons_succ]
        refine wpAnyH_take (i := 3) (oi := ⟨some 31, _, _, _, _, _⟩) (v := ?_) rfl (by kernel_rfl) (by kernel_rfl) (by kernel_rfl) (fun _ _ _ h => pan16 31 (by decide) (by decide) h) (Or.inl ⟨by rfl, ?_⟩) HS0.out ?_
        rotate_left
        · (intro W hSW; clear hSW; go_simp)
          first | done | (with_reducible rfl)
        try simp only [Act.put, List.setIfInBounds_toArray, List.set_cons_zero, List.set_cons_succ]
        refine wpAnyH_ready (rs := [4]) (by kernel_rfl) (by simp) ?_
        refine AllReadyH.cons (o := ⟨some 32, _, _, _, _, _⟩) rfl (fun K hK => ?_) AllReadyH.nil
        go_simp
        refine (HH.out _ HPI.out.drew).mono ?_
        rintro e x1 ⟨rfl, hb⟩
        have HP1 := Lib.hid (HPI.out.drew.below hb)
        have HS1 : Hid (∃ L3, PI b w g n Q A m hs L3 x1) := ⟨_, HP1.out⟩
        clear hb
        go_simp
        refine hK.out _ _ ?_ (fun _ => ?_)
        · exact HS1.out
        clear hK K
        try simp only [Act.put, List.setIfInBounds_toArray, List.set_cons_zero, List.set_cons_succ]
        refine wpAnyH_ready (rs := [5]) (by kernel_rfl) (by simp) ?_
        refine AllReadyH.cons (o := ⟨some 33, _, _, _, _, _⟩) rfl (fun K hK => ?_) AllReadyH.nil
        go_simp
        refine (C31.out _ HP1.out).mono ?_
        rintro e x2 ⟨rfl, hb⟩
        have P6 := Lib.hid hb
        have HS2 : Hid (∃ L3, PI b w g n Q A m hs L3 x2) := ⟨_, P6.out⟩
        clear hb
        go_simp
        refine hK.out _ _ ?_ (fun _ => ?_)
        · exact HS2.out
        clear hK K
        try simp only [Act.put, List.setIfInBounds_toArray, List.set_cons_zero, List.set_cons_succ]
        refine wpAnyH_done (by kernel_rfl) ?_ _
        have u1 : x2.cell? ⟨w.heap.size + 1, 0, none⟩ = some (.int .i64 0) := P6.out.v.c.cell 0
        have u2 : x2.cell? ⟨w.heap.size + 1 + 1, 0, none⟩ = some (.bool false) := P6.out.v.k.cell 0
        have f1 : x2.frozen? ⟨w.heap.size + 1, 0, none⟩ = false := P6.out.v.c.frozen 0
        have f2 : x2.frozen? ⟨w.heap.size + 1 + 1, 0, none⟩ = false := P6.out.v.k.frozen 0
        go_wp2_with fail
        obtain ⟨k1, k2, k3, k4⟩ := P6.out.end_ HBW.out ((x.n : Nat) : Int) true
        generalize (x2.setCell ⟨w.heap.size + 1, 0, none⟩ (.int .i64 ((x.n : Nat) : Int))).setCell ⟨w.heap.size + 1 + 1, 0, none⟩ (.bool true) = wz at *
        have K1 := Lib.hid k1
        have K2 := Lib.hid k2
        clear k1 k2
        refine leaves_cons (f := 30) (args := #[.pointer (some ⟨w1.heap.size, 0, none⟩), .pointer (some ⟨w.heap.size, 0, none⟩), .pointer (some ⟨w.heap.size + 1, 0, none⟩), .pointer (some ⟨w.heap.size + 1 + 1, 0, none⟩)]) (by simp) (by simp [go_sem]) ?_
        refine (catch_idle _ _ _ _ _).mono ?_
        rintro e u' w'' ⟨rfl, rfl, rfl⟩
        simp [Leaves, settle, results, Try.results16, go_sem, k3, k4]
        rw [HHE.out]
        exact ⟨rfl, K1.out, K2.out⟩
      · have C31 : Hid (∀ W, PI b w g n Q A m hs (x :: xs) W → Calls Try.prog 31 #[.pointer (some ⟨g, 0, none⟩), .int .i64 (x.n : Nat), .int .i64 (hdOf hs x.n)] W fun e w' => e = .returned (.bool false) ∧ PI b w g n Q A m hs (xs ++ [⟨x.n, true, due Q x⟩]) w') :=
          fun W p => (look_waits _ g n Q x xs _ W p.t i1 i2).mono fun e w' ⟨h1, h2, h3⟩ => ⟨h1, p.turn HA.out h2 h3⟩
        have HN : Hid (Picks Q (hdOf hs) (xs ++ [⟨x.n, true, due Q x⟩]) L' o) := i3
        have HM : Hid (mu (xs ++ [⟨x.n, true, due Q x⟩]) < mu (x :: xs)) := mu_waits HPI.out.t.2.2.1 i2
        clear i1 i2 i3
        generalize hhe : hdOf hs x.n = hh at *
        have HHE := Lib.hid hhe
        clear hhe
        go_upto_region 7 with fail
        refine wp_region_held_drew (S := fun W => ∃ L3, PI b w g n Q A m hs L3 W) (by kernel_rfl) ?_ (fun _ => ?_)
        · exact ⟨_, HPI.out.drew⟩
        have HS0 : Hid (∃ L3, PI b w g n Q A m hs L3 wr.drew) := ⟨_, HPI.out.drew⟩
        refine wpAnyH_take (i := 0) (oi := ⟨some 28, _, _, _, _, _⟩) (v := ?_) rfl (by kernel_rfl) (by kernel_rfl) (by kernel_rfl) (fun _ _ _ h => pan16 28 (by decide) (by decide) h) (Or.inl ⟨by rfl, ?_⟩) HS0.out ?_
        rotate_left
        · (intro W hSW; obtain ⟨L3, hP⟩ := hSW; have hc := hP.v.t.cell 0; have hSW := True.intro; clear hP; clear hSW; go_simp)
          first | done | (with_reducible rfl)
        try simp only [Act.put, List.setIfInBounds_toArray, List.set_cons_zero, List.set_cons_succ]
        refine wpAnyH_take (i := 1) (oi := ⟨some 29, _, _, _, _, _⟩) (v := ?_) rfl (by kernel_rfl) (by kernel_rfl) (by kernel_rfl) (fun _ _ _ h => pan16 29 (by decide) (by decide) h) (Or.inl ⟨by rfl, ?_⟩) HS0.out ?_
        rotate_left
        · (intro W hSW; clear hSW; go_simp)
          first | done | (with_reducible rfl)
        try simp only [Act.put, List.setIfInBounds_toArray, List.set_cons_zero, List.set_cons_succ]
        refine wpAnyH_take (i := 2) (oi := ⟨some 30, _, _, _, _, _⟩) (v := ?_) rfl (by kernel_rfl) (by kernel_rfl) (by kernel_rfl) (fun _ _ _ h => pan16 30 (by decide) (by decide) h) (Or.inl ⟨by rfl, ?_⟩) HS0.out ?_
        rotate_left
        · (intro W hSW; clear hSW; go_simp)
          first | done | (with_reducible rfl)
        try simp only [Act.put, List.setIfInBounds_toArray, List.set_cons_zero, List.set_cons_succ]
        refine wpAnyH_take (i := 3) (oi := ⟨some 31, _, _, _, _, _⟩) (v := ?_) rfl (by kernel_rfl) (by kernel_rfl) (by kernel_rfl) (fun _ _ _ h => pan16 31 (by decide) (by decide) h) (Or.inl ⟨by rfl, ?_⟩) HS0.out ?_
        rotate_left
        · (intro W hSW; clear hSW; go_simp)
          first | done | (with_reducible rfl)
        try simp only [Act.put, List.setIfInBounds_toArray, List.set_cons_zero, List.set_cons_succ]
        refine wpAnyH_ready (rs := [4]) (by kernel_rfl) (by simp) ?_
        refine AllReadyH.cons (o := ⟨some 32, _, _, _, _, _⟩) rfl (fun K hK => ?_) AllReadyH.nil
        go_simp
        refine (HH.out _ HPI.out.drew).mono ?_
        rintro e x1 ⟨rfl, hb⟩
        have HP1 := Lib.hid (HPI.out.drew.below hb)
        have HS1 : Hid (∃ L3, PI b w g n Q A m hs L3 x1) := ⟨_, HP1.out⟩
        clear hb
        go_simp
        refine hK.out _ _ ?_ (fun _ => ?_)
        · exact HS1.out
        clear hK K
        try simp only [Act.put, List.setIfInBounds_toArray, List.set_cons_zero, List.set_cons_succ]
        refine wpAnyH_ready (rs := [5]) (by kernel_rfl) (by simp) ?_
        refine AllReadyH.cons (o := ⟨some 33, _, _, _, _, _⟩) rfl (fun K hK => ?_) AllReadyH.nil
        go_simp
        refine (C31.out _ HP1.out).mono ?_
        rintro e x2 ⟨rfl, hb⟩
        have P6 := Lib.hid hb
        have HS2 : Hid (∃ L3, PI b w g n Q A m hs L3 x2) := ⟨_, P6.out⟩
        clear hb
        go_simp
        refine hK.out _ _ ?_ (fun _ => ?_)
        · exact HS2.out
        clear hK K
        try simp only [Act.put, List.setIfInBounds_toArray, List.set_cons_zero, List.set_cons_succ]
        refine wpAnyH_done (by kernel_rfl) ?_ _
        go_wp2_with fail
        go_roundg (mu (xs ++ [⟨x.n, true, due Q x⟩]))
        case measure => have := HM.out; have := HMU.out; omega
        case rel => exact ⟨_, rfl, HN.out, P6.out⟩
end Go.Proofs.Ytknalphhnicffaa
