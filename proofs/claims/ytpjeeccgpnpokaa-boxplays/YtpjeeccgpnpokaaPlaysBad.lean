/- The walk of BoxPlays where there is too much to do, and where there is no such box. Conditions: the program's contracts. -/
import Derived.Test.YtpjeeccgpnpokaaAwake
import Derived.Deep.CutBlock
namespace Go.Proofs.Ytpjeeccgpnpokaa
open Go.RowKit

theorem wpList_buildG {ops : Array Oper} {rest : List Oper} {o : Oper} {a : Act} {w : World} {Q : Exit → Act → World → Prop} (hw : Region.wanted o (yielded ops a.tmps) = true) (ty : TypeId) (parts : List (Nat × Operand)) (ho : o.op = .build ty parts.toArray)
    (vals : List (Nat × Value)) (hp : (parts.map fun px => (px.1, a.eval px.2)) = vals) (cells : List Value) (hb : (Instr.build ty vals.toArray).run Try.prog w = .ok (.agg cells.toArray) w)
    (h : wpList Try.prog ops Q rest (a.put o.dst (.agg cells.toArray)) w) : wpList Try.prog ops Q (o :: rest) a w := by
  subst hp
  unfold wpList
  rw [if_pos hw]
  refine .inl ?_
  unfold Oper.wp
  simp only [execOp, ho, List.map_toArray]
  simp [hb, Oper.upon]
  exact h
set_option maxRecDepth 100000 in
set_option maxHeartbeats 2000000 in
theorem plays_long (T : Tbl) (P : ProgB T) (a0 a1 a2 a3 : Int) (A : Option Addr) (k c : Nat) (w : World) (hk : 100 < k) (hm : k ≤ maxLen) :
    Calls Try.prog 3 #[.int .i64 a0, .int .i64 a1, .int .i64 a2, .int .i64 a3, .slice A k c] w (Ans (.bool true) w) := by
  have HA := Lib.hid (fun W => awake_ T P W)
  unfold maxLen at hm
  clear P
  go_enter Try.func3, Try.ntmps3
  go_wp2_with (first
    | (go_at_call 6; (with_reducible refine (HA.out w).mono ?_); rintro e w1 ⟨rfl, hb⟩; have B1 := Lib.hid hb; clear hb)
    | (go_at_call 6; (with_reducible refine (HA.out w1).mono ?_); rintro e w2 ⟨rfl, hb⟩; have B2 : Hid (Below w.heap.size w w2) := B1.out.trans (hb.mono B1.out.size); clear hb))
  go_ret
  exact ⟨rfl, B2.out⟩
set_option maxRecDepth 100000 in
set_option maxHeartbeats 4000000 in
theorem plays_bad (T : Tbl) (P : ProgB T) (C : Cfg) (A : Option Addr) (n c : Nat) (w : World) (b0 : i64 C.room) (b1 : i64 C.term) (b2 : i64 C.r) (b3 : i64 C.b) (hn : n ≤ 100) (hC : ¬ C.Ok) :
    Calls Try.prog 3 #[.int .i64 C.room, .int .i64 C.term, .int .i64 C.r, .int .i64 C.b, .slice A n c] w (Ans (.bool true) w) := by
  have HA := Lib.hid (fun W => awake_ T P W)
  have HP := Lib.hid P
  have HB := Lib.hid (fun W => P.bad C W b0 b1 b2 b3 hC)
  have hcase : C.room < 1 ∨ 64 < C.room ∨ C.term < 1 ∨ 4611686018427387903 < C.term ∨ C.r < 0 ∨ 1073741824 < C.r ∨ C.b < 1 ∨ 1073741824 < C.b := by
    refine Classical.byContradiction fun h => hC ⟨?_, ?_, ?_, ?_⟩ <;> omega
  clear P hC b0 b1 b2 b3
  go_enter Try.func3, Try.ntmps3
  go_upto_region 4 with (first
    | (go_at_call 6; (with_reducible refine (HA.out w).mono ?_); rintro e w1 ⟨rfl, hb⟩; have S1 : Hid (Below w.heap.size w w1) := Lib.hid hb; clear hb)
    | (go_at_call 7; (with_reducible refine (HB.out _).mono ?_); rintro e w2 ⟨rfl, hb⟩; have S0 : Hid (Below w.heap.size w w2) := S1.out.trans (hb.mono S1.out.size); clear hb))
  clear S1 HA HB
  go_cut [64] from 35 to 63 (fun v wx => v = .bool true ∧ w2 = wx)
  case first =>
    by_cases k0 : C.room < 1
    · clear hcase
      go_wp2_with fail
      go_meet
      case rel => exact ⟨rfl, rfl⟩
    · by_cases k1 : 64 < C.room
      · clear hcase
        go_wp2_with fail
        go_meet
        case rel => exact ⟨rfl, rfl⟩
      · by_cases k2 : C.term < 1
        · clear hcase
          go_wp2_with fail
          go_meet
          case rel => exact ⟨rfl, rfl⟩
        · by_cases k3 : 4611686018427387903 < C.term
          · clear hcase
            go_wp2_with fail
            go_meet
            case rel => exact ⟨rfl, rfl⟩
          · by_cases k4 : C.r < 0
            · clear hcase
              go_wp2_with fail
              go_meet
              case rel => exact ⟨rfl, rfl⟩
            · by_cases k5 : 1073741824 < C.r
              · clear hcase
                go_wp2_with fail
                go_meet
                case rel => exact ⟨rfl, rfl⟩
              · by_cases k6 : C.b < 1
                · clear hcase
                  go_wp2_with fail
                  go_meet
                  case rel => exact ⟨rfl, rfl⟩
                · have k7 : 1073741824 < C.b := by omega
                  clear hcase
                  go_wp2_with fail
                  go_meet
                  case rel => exact ⟨rfl, rfl⟩
  case rest =>
  obtain ⟨rfl, rfl⟩ := hcut
  clear hcase
  go_wp2_with (first
    | (refine wpList_buildG (by rfl) 31 _ rfl [] (by rfl) pre0.cs (run_pre0 _) ?_)
    | (go_at_call 8; (refine (HP.out.putNil pre0 0 _ pre0_ok ⟨by omega, by omega⟩).mono ?_); rintro e w3 ⟨rfl, hb⟩; have S0 : Hid (Below w.heap.size w w3) := S0.out.trans (hb.mono S0.out.size); clear hb)
    | (go_at_call 9; (refine (HP.out.inNil pre0 0 _ pre0_ok ⟨by omega, by omega⟩).mono ?_); rintro e w3 ⟨rfl, hb⟩; have S0 : Hid (Below w.heap.size w w3) := S0.out.trans (hb.mono S0.out.size); clear hb)
    | (go_at_call 10; (refine (HP.out.allNil 0 _ ⟨by omega, by omega⟩).mono ?_); rintro e w3 ⟨A1, c1, rfl, _, _, hb⟩; have S0 : Hid (Below w.heap.size w w3) := S0.out.trans (hb.mono S0.out.size); clear hb))
  go_ret
  exact ⟨rfl, S0.out⟩
end Go.Proofs.Ytpjeeccgpnpokaa
