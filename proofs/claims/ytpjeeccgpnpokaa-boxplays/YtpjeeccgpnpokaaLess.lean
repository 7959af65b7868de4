/- The contract of the document's Less. Conditions: those of each theorem. -/
import Derived.Test.YtpjeeccgpnpokaaEnts
namespace Go.Proofs.Ytpjeeccgpnpokaa
open Go.RowKit

/-- Two new blocks: two prefixes. -/
theorem two_new (p q : Pre) (w : World) : Blk ((w.alloc (.cells p.cs.toArray 31)).alloc (.cells q.cs.toArray 31)) w.heap.size 31 p.cs ∧ Blk ((w.alloc (.cells p.cs.toArray 31)).alloc (.cells q.cs.toArray 31)) (w.heap.size + 1) 31 q.cs ∧ Below w.heap.size w ((w.alloc (.cells p.cs.toArray 31)).alloc (.cells q.cs.toArray 31)) := by
  refine ⟨(Blk.new w 31 _).alloc _, ?_, ((Below.refl _ w).alloc (Nat.le_refl _) _).alloc (by simp) _⟩
  have := Blk.new (w.alloc (.cells p.cs.toArray 31)) 31 q.cs
  rwa [show (w.alloc (.cells p.cs.toArray 31)).heap.size = w.heap.size + 1 by simp] at this
set_option maxHeartbeats 1000000 in
theorem less_ (p q : Pre) (w : World) : Calls Try.prog 30 #[.agg p.cs.toArray, .agg q.cs.toArray] w fun e w' => e = .returned (.bool (ltP p q)) ∧ Below w.heap.size w w' := by
  obtain ⟨n1, n2, n3⟩ := two_new p q w
  have P1 := Lib.hid n1
  have Q1 := Lib.hid n2
  have W1 := Lib.hid n3
  clear n1 n2 n3
  go_enter Try.func30, Try.ntmps30
  go_upto_region 1 with fail
  generalize ((w.alloc (.cells p.cs.toArray 31)).alloc (.cells q.cs.toArray 31)) = x at *
  have d0 : x.cell? ⟨w.heap.size, 0, none⟩ = some (.bool p.v) := P1.out.cell 0
  have d1 : x.cell? ⟨w.heap.size + 1, 0, none⟩ = some (.bool q.v) := Q1.out.cell 0
  by_cases hv : p.v = q.v
  · have HL : Hid (ltP p q = ltL (p.bs.drop 0) (q.bs.drop 0)) := by show _ = _; unfold ltP; rw [if_pos hv]; rfl
    have hb : (p.v == q.v) = true := by simp [hv]
    clear hv
    go_wp2_with fail
    go_loopw [5, 13] (fun _ i w' => ∃ k : Nat, k ≤ 7 ∧ i = .int .i64 k ∧ ltP p q = ltL (p.bs.drop k) (q.bs.drop k) ∧ Below x.heap.size x w') (fun _ i _ => 7 - (intOf i).toNat)
    case atStart => exact ⟨0, by omega, rfl, HL.out, Below.refl _ _⟩
    case round =>
      obtain ⟨k, hk, rfl, hlk, hbe⟩ := hrel
      have W2 := Lib.hid hbe
      have HK := Lib.hid hlk
      clear hbe hlk d0 d1
      by_cases hlt : k < 7
      · have c0 : ∀ N, (wr.drewN N).cell? ⟨w.heap.size, 1 + k, none⟩ = some (.int .u8 (p.b_ k)) := fun N => ((P1.out.below W2.out).cell (1 + k)).trans (cs_byte hlt)
        have c1 : ∀ N, (wr.drewN N).cell? ⟨w.heap.size + 1, 1 + k, none⟩ = some (.int .u8 (q.b_ k)) := fun N => ((Q1.out.below W2.out).cell (1 + k)).trans (cs_byte hlt)
        by_cases e : p.b_ k = q.b_ k
        · have HN : Hid (ltP p q = ltL (p.bs.drop (k + 1)) (q.bs.drop (k + 1))) := HK.out.trans (ltL_step hlt e)
          have he : (p.b_ k == q.b_ k) = true := by simp [e]
          clear e
          go_wp2_with fail
          go_quiet (fail)
          go_wp2_with fail
          go_roundw
          case rel => exact ⟨k + 1, by omega, by go_num, HN.out, below_drewN W2.out _⟩
          case measure => simp [intOf]; omega
        · have HN : Hid (ltP p q = decide (p.b_ k < q.b_ k)) := HK.out.trans (ltL_out hlt e)
          have he : (p.b_ k == q.b_ k) = false := by simp [e]
          clear e
          go_wp2_with fail
          go_quiet (fail)
          go_wp2_with fail
          go_quiet (fail)
          go_wp2
          go_ret
          exact ⟨ret_bool HN.out.symm, W1.out.trans ((below_drewN (below_drewN W2.out _) _).mono W1.out.size)⟩
      · have hk7 : k = 7 := by omega
        subst hk7
        have HE : Hid (ltP p q = false) := HK.out
        go_wp2
        go_ret
        exact ⟨ret_bool HE.out.symm, W1.out.trans (W2.out.mono W1.out.size)⟩
  · have HL : Hid (ltP p q = q.v) := by show _ = _; unfold ltP; rw [if_neg hv]
    have hb : (p.v == q.v) = false := by simp [hv]
    clear hv
    go_wp2
    go_ret
    exact ⟨ret_bool HL.out.symm, W1.out⟩
end Go.Proofs.Ytpjeeccgpnpokaa
