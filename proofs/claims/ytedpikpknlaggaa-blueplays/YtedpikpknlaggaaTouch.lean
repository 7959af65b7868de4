/- The contracts of blue's touch, and of the closures of Touch and Mark. Conditions: those of each theorem. -/
import Derived.Test.YtedpikpknlaggaaShut
namespace Go.Proofs.Ytedpikpknlaggaa
open Go.RowKit

theorem BAt.bin_ {w : World} {g s : Nat} {q : Nat → Nat} {V : Blu} {l k : Nat} {x : Bin} (h : BAt w g s q (V.put (setB V.B l k x))) (hl : l < V.n) (hk : k < V.m) :
    w.cell? ⟨q l, k * 3, none⟩ = some (.int .i64 (x.b : Nat)) ∧ w.cell? ⟨q l, k * 3 + 1, none⟩ = some (.int .i64 (x.p : Nat)) ∧ w.cell? ⟨q l, k * 3 + 2, none⟩ = some (.int .i64 (x.c : Nat)) := by
  have := h.bin (l := l) (k := k) hl hk
  rw [show (V.put (setB V.B l k x)).B l k = x from setB_at _ _ _ _] at this
  exact this
theorem bin_out_same {g s : Nat} {q : Nat → Nat} {V : Blu} {l k N : Nat} {w : World} (h : BAt w g s q V) : BinOut g s q V l k (V.B l k) w (.returned (.tuple #[])) (w.drewN N) := by
  refine ⟨rfl, ?_, ⟨rfl, rfl, rfl, Nat.le_refl _, fun _ _ _ => rfl⟩⟩
  rw [setB_self, put_self]
  exact h.drewN N
/-- Its moment stored behind. -/
theorem BAt.moment_ {w : World} {g s : Nat} {q : Nat → Nat} {V : Blu} {l k : Nat} {x : Bin} (h : BAt w g s q (V.put (setB V.B l k x))) (hl : l < V.n) (hk : k < V.m) {v : Nat} (hv : v ≤ 4611686018427387903) :
    BAt (w.setCell ⟨q l, k * 3 + 2, none⟩ (.int .i64 (v : Nat))) g s q (V.put (setB V.B l k ⟨x.b, x.p, v⟩)) ∧ Far (only (q l)) w (w.setCell ⟨q l, k * 3 + 2, none⟩ (.int .i64 (v : Nat))) := by
  have := h.moment (l := l) (k := k) hl hk hv
  rw [put_put, show (V.put (setB V.B l k x)).B l k = x from setB_at _ _ _ _, show setB (V.put (setB V.B l k x)).B l k ⟨x.b, x.p, v⟩ = setB V.B l k ⟨x.b, x.p, v⟩ from setB_twice _ _ _ _ _] at this
  exact this

set_option maxHeartbeats 2000000 in
theorem touch_ (g s : Nat) (q : Nat → Nat) (V : Blu) (l k T : Nat) (w : World) (h : BAt w g s q V) (hl : l < V.n) (hk : k < V.m) (hT : T ≤ 4611686018427387903) :
    Calls Try.prog 38 #[.pointer (some ⟨g, 0, none⟩), .pointer (some ⟨q l, k * 3, none⟩), .int .i64 (T : Nat)] w (BinOut g s q V l k (touchB V.t V.h V.u V.d T (V.B l k)) w) := by
  have HSame := Lib.hid (fun N => bin_out_same (l := l) (k := k) (N := N) h)
  have hok := h.ok
  have hxo := hok.B l k
  have HF : Hid (∀ N, (w.drewN N).cell? ⟨g, 1, none⟩ = some (.int .i64 (V.t : Nat)) ∧ (w.drewN N).cell? ⟨g, 2, none⟩ = some (.int .i64 (V.h : Nat)) ∧ (w.drewN N).cell? ⟨g, 3, none⟩ = some (.int .i64 (V.u : Nat)) ∧ (w.drewN N).cell? ⟨g, 4, none⟩ = some (.int .i64 (V.d : Nat))) := fun N => (h.drewN N).nums
  have HB : Hid (∀ N, (w.drewN N).cell? ⟨q l, k * 3, none⟩ = some (.int .i64 ((V.B l k).b : Nat)) ∧ (w.drewN N).cell? ⟨q l, k * 3 + 1, none⟩ = some (.int .i64 ((V.B l k).p : Nat)) ∧ (w.drewN N).cell? ⟨q l, k * 3 + 2, none⟩ = some (.int .i64 ((V.B l k).c : Nat))) := fun N => (h.drewN N).bin hl hk
  have HZ : Hid (∀ N i, (w.drewN N).frozen? ⟨q l, i, none⟩ = false) := fun N i => (h.drewN N).soft hl i
  have HT1 := Lib.hid (fun N (v : Nat) (hv : v ≤ 65536) => (h.drewN N).prob hl hk hv)
  have HT2 := Lib.hid (fun W (x : Bin) (hW : BAt W g s q (V.put (setB V.B l k x))) => hW.moment_ hl hk hT)
  have HT3 := Lib.hid (fun W (x : Bin) (hW : BAt W g s q (V.put (setB V.B l k x))) => hW.bin_ hl hk)
  have HT4 := Lib.hid (fun W (x : Bin) (hW : BAt W g s q (V.put (setB V.B l k x))) => hW.soft (l := l) hl (k * 3 + 2))
  have hu := hok.u
  have hdd := hok.d
  have hh := hok.h
  have htt := hok.t
  clear h hok hl hk
  obtain ⟨ob, op, oc⟩ := hxo
  have HE := Lib.hid (rfl : touchB V.t V.h V.u V.d T (V.B l k) = touchB V.t V.h V.u V.d T (V.B l k))
  rw [show touchB V.t V.h V.u V.d T (V.B l k) = if T < (V.B l k).c + V.h then V.B l k else if V.t < (V.B l k).b then ⟨(V.B l k).b, min ((V.B l k).p + V.u) 65536, T⟩ else if (V.B l k).b = 0 then ⟨(V.B l k).b, (V.B l k).p - V.d, T⟩ else V.B l k from rfl]
  clear HE
  have HX : Hid (∀ N, BinOut g s q V l k (V.B l k) w (.returned (.tuple #[])) (w.drewN N)) := HSame
  clear HSame
  have HX2 := Lib.hid (setB_at V.B l k)
  generalize hB : V.B l k = X at *
  obtain ⟨b, p, c⟩ := X
  dsimp only at *
  have a0 := fun N => (HB.out N).1
  have a1 := fun N => (HB.out N).2.1
  have a2 := fun N => (HB.out N).2.2
  have b1 := fun N => (HF.out N).1
  have b2 := fun N => (HF.out N).2.1
  have b3 := fun N => (HF.out N).2.2.1
  have b4 := fun N => (HF.out N).2.2.2
  generalize hVt : V.t = t at *
  generalize hVh : V.h = hd at *
  generalize hVu : V.u = u at *
  generalize hVd : V.d = d at *
  by_cases hc1 : T < c + hd
  · rw [if_pos hc1]
    have e1 : decide ((T : Int) - (c : Int) < (hd : Int)) = true := by simp; omega
    go_enter Try.func38, Try.ntmps38
    go_wp2_with fail
    go_quiet (fail)
    go_wp2_with fail
    go_end0
    exact HX.out _
  · rw [if_neg hc1]
    have e1 : decide ((T : Int) - (c : Int) < (hd : Int)) = false := by simp; omega
    by_cases hc2 : t < b
    · rw [if_pos hc2]
      have e2 : decide ((t : Int) < (b : Int)) = true := by simp; omega
      have e2' : decide (t < b) = true := by simpa using hc2
      obtain ⟨z, hz⟩ : ∃ z, min (p + u) 65536 = z := ⟨_, rfl⟩
      have hz2 : min ((p : Int) + (u : Int)) 65536 = (z : Int) := by omega
      have hz3 : z ≤ 65536 := by omega
      rw [hz]
      go_enter Try.func38, Try.ntmps38
      go_wp2_with fail
      go_quiet (fail)
      go_wp2_with fail
      go_quiet (fail)
      go_wp2_with fail
      rename_i n1 K1 hK1
      try rw [World.drewN_drewN]
      have c1 := a1 (n1 + nq)
      have c3 := b3 (n1 + nq)
      have c4 := HZ.out (n1 + nq) (k * 3 + 1)
      obtain ⟨s1, s2⟩ := HT1.out (n1 + nq) z hz3
      have S1 := Lib.hid s1
      have F1 : Hid (Far (only (q l)) w ((w.drewN (n1 + nq)).setCell ⟨q l, k * 3 + 1, none⟩ (.int .i64 (z : Nat)))) := ⟨s2.os, s2.tape, s2.output, s2.size, s2.block⟩
      clear s1 s2 a0 a1 a2 b1 b2 b3 b4 HX
      generalize w.drewN (n1 + nq) = wx at *
      go_region
      go_upto_region 5 with fail
      have S2 := Lib.hid S1.out.drew
      have F2 := Lib.hid F1.out.drew
      have d2 := (HT3.out _ _ S2.out).2.2
      have d3 := HT4.out _ _ S2.out
      clear S1 F1 c1 c3 c4
      generalize (wx.setCell ⟨q l, k * 3 + 1, none⟩ (.int .i64 (z : Nat))).drew = wy at *
      go_wp2_with fail
      go_end0
      have R := HT2.out _ _ S2.out
      exact ⟨rfl, R.1, F2.out.trans R.2 (fun _ _ e => e)⟩
    · rw [if_neg hc2]
      have e2 : decide ((t : Int) < (b : Int)) = false := by simp; omega
      have e2' : decide (t < b) = false := by simpa using hc2
      by_cases hc3 : b = 0
      · rw [if_pos hc3]
        have e3 : ((b : Int) == 0) = true := by simp; omega
        have e3' : (b == 0) = true := by simpa using hc3
        obtain ⟨z, hz⟩ : ∃ z, p - d = z := ⟨_, rfl⟩
        have hz2 : max ((p : Int) - (d : Int)) 0 = (z : Int) := by omega
        have hz3 : z ≤ 65536 := by omega
        rw [hz]
        clear hc3
        go_enter Try.func38, Try.ntmps38
        go_wp2_with fail
        go_quiet (fail)
        go_wp2_with fail
        go_quiet (fail)
        go_wp2_with fail
        rename_i n1 K1 hK1
        try rw [World.drewN_drewN]
        have c1 := a1 (n1 + nq)
        have c3 := b4 (n1 + nq)
        have c4 := HZ.out (n1 + nq) (k * 3 + 1)
        obtain ⟨s1, s2⟩ := HT1.out (n1 + nq) z hz3
        have S1 := Lib.hid s1
        have F1 : Hid (Far (only (q l)) w ((w.drewN (n1 + nq)).setCell ⟨q l, k * 3 + 1, none⟩ (.int .i64 (z : Nat)))) := ⟨s2.os, s2.tape, s2.output, s2.size, s2.block⟩
        clear s1 s2 a0 a1 a2 b1 b2 b3 b4 HX
        generalize w.drewN (n1 + nq) = wx at *
        go_region
        go_upto_region 5 with fail
        have S2 := Lib.hid S1.out.drew
        have F2 := Lib.hid F1.out.drew
        have d2 := (HT3.out _ _ S2.out).2.2
        have d3 := HT4.out _ _ S2.out
        clear S1 F1 c1 c3 c4
        generalize (wx.setCell ⟨q l, k * 3 + 1, none⟩ (.int .i64 (z : Nat))).drew = wy at *
        go_wp2_with fail
        go_end0
        have R := HT2.out _ _ S2.out
        exact ⟨rfl, R.1, F2.out.trans R.2 (fun _ _ e => e)⟩
      · rw [if_neg hc3]
        have e3 : ((b : Int) == 0) = false := by simp; omega
        have e3' : (b == 0) = false := by simpa using hc3
        clear hc3
        go_enter Try.func38, Try.ntmps38
        go_wp2_with fail
        go_quiet (fail)
        go_wp2_with fail
        go_quiet (fail)
        go_wp2_with fail
        go_end0
        try rw [World.drewN_drewN]
        exact HX.out _
end Go.Proofs.Ytedpikpknlaggaa
