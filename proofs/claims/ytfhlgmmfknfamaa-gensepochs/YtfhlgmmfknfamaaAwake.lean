/- Loads of keys; awake. Conditions: the program's contracts. -/
import Derived.Test.YtfhlgmmfknfamaaProgs
namespace Go.Proofs.Ytfhlgmmfknfamaa
open Go.RowKit

theorem sizeK : (Try.prog.info? 22).map (·.size) = some 16 := by kernel_rfl
theorem run_key0 (w : World) : (Instr.build 22 #[]).run Try.prog w = .ok (.agg key0.cs.toArray) w := run_build w 22 _ _ (by kernel_rfl)
def key1 : Key := ⟨1 :: List.replicate 15 0, by simp⟩
theorem key1_ok : key1.Ok := fun z hz => by
  rcases List.mem_cons.1 hz with rfl | hz
  · exact ⟨by omega, by omega⟩
  · have := List.eq_of_mem_replicate hz
    subst this
    exact ⟨by omega, by omega⟩
theorem run_key1 (w : World) : (Instr.build 22 #[(0, .int .u8 1)]).run Try.prog w = .ok (.agg key1.cs.toArray) w := run_build w 22 _ _ (by kernel_rfl)
section
variable {ops : Array Oper} {rest : List Oper} {op : Oper} {a : Act} {w : World} {Q : Exit → Act → World → Prop} {S : World → Prop}
/-- A load of a key. -/
theorem wpList_key (hw : Region.wanted op (yielded ops a.tmps) = true) (x : Operand) (ho : op.op = .load 22 x) (b o : Nat) (hx : a.eval x = .pointer (some ⟨b, o, none⟩)) (k : Key) (hc : w.rangeAt b o k.cs)
    (h : wpList Try.prog ops Q rest (a.put op.dst (.agg k.cs.toArray)) w) : wpList Try.prog ops Q (op :: rest) a w := by
  unfold wpList
  rw [if_pos hw]
  exact .inl (wp_load_mid 22 x ho b o hx k.cs _ hc Try.underlying22 rfl (by rw [key16]; exact sizeK) h)
end
theorem ans_be {v : Value} {w w' : World} {e : Ending} (h : Ans v w e w') : Below w.heap.size w w' := h.2
set_option maxRecDepth 100000 in
set_option maxHeartbeats 1000000 in
theorem awake_ (T : Gbl) (K : Ks) (P : ProgG T K) (w : World) : Calls Try.prog 7 #[] w (Ans (.bool true) w) := by
  have HP := Lib.hid P
  clear P
  have HN := Lib.hid (At.new (w := w) HP.out (Below.refl _ w) (m := 1) (by omega) (by omega) key0_ok)
  go_enter Try.func7, Try.ntmps7
  go_upto_region 2 with (first
    | (refine wpList_build rfl 22 [] rfl [] rfl key0.cs (run_key0 _) ?_)
    | (go_at_call 8; (refine HN.out.mono ?_); rintro e w1 ⟨g, rfl, ha⟩; have A1 := Lib.hid ha; clear ha))
  have HR := Lib.hid (A1.out.rekey HP.out (st0_ok (by omega) (by omega) key0_ok) key1_ok)
  have hm : (rek (st0 1 key0) key1).mv.isSome = true := rfl
  have ho : (rek (st0 1 key0) key1).o = false := rfl
  have he : rekE (st0 1 key0) = 0 := rfl
  rw [he] at HR
  go_wp2_with (first
    | (refine wpList_buildG (by rfl) 22 _ rfl [(0, .int .u8 1)] (by rfl) key1.cs (run_key1 _) ?_)
    | (go_at_call 9; (with_reducible refine HR.out.mono ?_); rintro e w2 hact; have A2 := Lib.hid hact.2.1; obtain ⟨rfl, -, -⟩ := hact)
    | (go_at_call 10; (with_reducible refine (A2.out.moving HP.out).mono ?_); rintro e w3 ⟨rfl, hb⟩; have A3 := Lib.hid (A2.out.below HP.out hb); clear hb; rw [hm])
    | (go_at_call 18; (with_reducible refine (A3.out.old HP.out).mono ?_); rintro e w4 ⟨rfl, hb⟩; have B4 : Hid (Below w.heap.size w w4) := A3.out.be.trans (hb.mono A3.out.be.size); clear hb; rw [ho, show ((nm false : Nat) : Int) = 0 from rfl]))
  go_ret
  exact ⟨rfl, B4.out⟩
end Go.Proofs.Ytfhlgmmfknfamaa
