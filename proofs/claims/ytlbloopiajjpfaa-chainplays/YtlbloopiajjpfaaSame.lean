/- The contract of the law's 'same': chains and the document's lines that hold the same places are the same. Conditions: those of each theorem. -/
import Derived.Test.YtlbloopiajjpfaaRefCut
import Derived.Test.YtlbloopiajjpfaaOnceNums
import Derived.Deep.CutBlock
namespace Go.Proofs.Ytlbloopiajjpfaa
open Go.RowKit

/-- Where the loops stand: nothing has turned, and the copy of the document's lines stands. -/
def SameRel (w : World) (A : Option Addr) (n m c : Nat) (w' : World) : Prop := Below w.heap.size w w' ∧ Blk w' w.heap.size 32 [.slice A n c, .int .i64 (m : Nat)]
theorem SameRel.drewN {w w' : World} {A : Option Addr} {n m c : Nat} (h : SameRel w A n m c w') (N : Nat) : SameRel w A n m c (w'.drewN N) := ⟨below_drewN h.1 N, h.2⟩
theorem SameRel.below {w w' w'' : World} {A : Option Addr} {n m c : Nat} (h : SameRel w A n m c w') (hb : Below w'.heap.size w' w'') : SameRel w A n m c w'' :=
  ⟨h.1.trans (hb.mono h.1.size), h.2.far (Far.of_below hb nobody) (fun e => e)⟩
theorem ChAt.rows {w : World} {g q s n m : Nat} {L : List (List Nat)} (h : ChAt w g q s n m L) : Short L := by
  obtain ⟨qs, ss, b1, b2, b3, n1, n2, n3, H⟩ := h
  intro l xs hl
  have := H.short hl
  have := H.highm
  omega

set_option maxRecDepth 100000 in
set_option maxHeartbeats 8000000 in
theorem same_ (b : Nat → Prop) (g q s n m c : Nat) (A : Option Addr) (L : List (List Nat)) (w : World) (hc : ChAt w g q s n m L) (h : RefAt b w A L) :
    Calls Try.prog 18 #[.pointer (some ⟨g, 0, none⟩), .agg #[.slice A n c, .int .i64 (m : Nat)]] w fun e w' => e = .returned (.bool true) ∧ Below w.heap.size w w' := by
  have hlen := hc.len
  obtain ⟨h1, h2, h3, h4⟩ := hc.size
  have HC := Lib.hid (fun w' (hr : SameRel w A n m c w') => hc.below hr.1)
  have HR := Lib.hid (fun w' (hr : SameRel w A n m c w') => h.below hr.1)
  have HLEN := Lib.hid hlen
  have HSH : Hid (∀ (l : Nat) (xs : List Nat), L[l]? = some xs → xs.length ≤ 4096) := hc.rows
  have HSL := Lib.hid (fun x => hc.short x)
  have H0 : Hid (SameRel w A n m c (w.alloc (Obj.cells #[Value.slice A n c, Value.int IntKind.i64 (m : Nat)] 32))) := ⟨(Below.refl _ _).alloc (Nat.le_refl _) _, Blk.new w 32 [Value.slice A n c, Value.int IntKind.i64 (m : Nat)]⟩
  have HROW := Lib.hid (fun w' (hr : SameRel w A n m c w') l xs (hl : L[l]? = some xs) => (h.below hr.1).row hl)
  clear hlen hc h
  go_enter Try.func18, Try.ntmps18
  go_wp2_with fail
  go_loopw [5, 6, 7, 8, 9] (fun v _ _ _ _ w' => ∃ iv : Int, -1 ≤ iv ∧ iv ≤ (n : Int) + 1 ∧ iv ≤ 13 ∧ v = .int .i64 iv ∧ SameRel w A n m c w') (fun v _ _ _ _ _ => (14 - intOf v).toNat)
  case atStart => exact ⟨-1, by omega, by omega, by omega, rfl, H0.out⟩
  case round =>
    clear H0
    obtain ⟨iv, hi0, hi1, hi2, rfl, hrel'⟩ := hrel
    have R1 := Lib.hid hrel'
    have q0 : wr.cell? ⟨w.heap.size, 0, none⟩ = some (.slice A n c) := hrel'.2.cell 0
    have q1 : wr.cell? ⟨w.heap.size, 1, none⟩ = some (.int .i64 (m : Nat)) := hrel'.2.cell 1
    clear hrel'
    go_upto_region 2 with fail
    go_cut [18] from 13 to 18 (fun v wx => wr = wx ∧ ∃ b2, v = .bool b2 ∧ (b2 = true ↔ (iv ≤ (n : Int) ∧ iv ≤ 12)))
    case first =>
      by_cases hr : (n : Int) ≤ 12
      · have hr' : decide ((n : Int) ≤ 12) = true := by simpa using hr
        go_wp2_with fail
        go_meet
        case rel => exact ⟨rfl, _, rfl, by simp; omega⟩
      · have hr' : decide ((n : Int) ≤ 12) = false := by simpa using hr
        go_wp2_with fail
        go_meet
        case rel => exact ⟨rfl, _, rfl, by simp; omega⟩
    case rest =>
      obtain ⟨rfl, b2, rfl, hb2⟩ := hcut
      rcases b2 with _ | _
      · clear hb2
        go_wp2_with fail
        go_loopw [10, 11, 12] (fun v _ _ w' => ∃ pv : Int, -1 ≤ pv ∧ pv ≤ (m : Int) + 1 ∧ pv ≤ 13 ∧ v = .int .i64 pv ∧ SameRel w A n m c w') (fun v _ _ _ => (14 - intOf v).toNat)
        case atStart => exact ⟨-1, by omega, by omega, by omega, rfl, R1.out⟩
        case round =>
          clear R1 q0 q1
          obtain ⟨pv, hp0, hp1, hp2, rfl, hrel'⟩ := hrel
          have R2 := Lib.hid hrel'
          have C2 := Lib.hid (HC.out wr hrel')
          have q0 : wr.cell? ⟨w.heap.size, 0, none⟩ = some (.slice A n c) := hrel'.2.cell 0
          have q1 : wr.cell? ⟨w.heap.size, 1, none⟩ = some (.int .i64 (m : Nat)) := hrel'.2.cell 1
          have RR : Hid (∀ N, RefAt b (wr.drewN N) A L) := fun N => HR.out _ (R2.out.drewN N)
          clear hrel'
          go_upto_region 16 with fail
          go_cut [65] from 61 to 65 (fun v wx => wr = wx ∧ ∃ b2, v = .bool b2 ∧ (b2 = true ↔ (pv ≤ (m : Int) ∧ pv ≤ 12)))
          case first =>
            by_cases hr : (m : Int) ≤ 12
            · have hr' : decide ((m : Int) ≤ 12) = true := by simpa using hr
              go_wp2_with fail
              go_meet
              case rel => exact ⟨rfl, _, rfl, by simp; omega⟩
            · have hr' : decide ((m : Int) ≤ 12) = false := by simpa using hr
              go_wp2_with fail
              go_meet
              case rel => exact ⟨rfl, _, rfl, by simp; omega⟩
          case rest =>
            obtain ⟨rfl, b2, rfl, hb2⟩ := hcut
            rcases b2 with _ | _
            · clear hb2
              go_wp2_with fail
              go_ret
              exact ⟨rfl, R2.out.1⟩
            · have hle := hb2.1 rfl
              clear hb2
              go_wp2_with (first | (go_at_call 20; (with_reducible refine (line_ g q s n m _ L _ C2.out).mono ?_); rintro e w8 ⟨rfl, N1, rfl⟩) | (go_at_call 24; (with_reducible refine (refLine_ b n m c A _ L _ (RR.out N1) HLEN.out h2 HSH.out).mono ?_); rintro e w9 ⟨rfl, hb9⟩; have R9 : Hid (SameRel w A n m c w9) := (R2.out.drewN N1).below hb9; clear hb9) | (go_at_call 14; (with_reducible refine (told_ (lineOf L pv) _ _ _ _ rfl rfl rfl).mono ?_); rintro e w' ⟨rfl, rfl⟩))
              go_roundw
              case rel => exact ⟨pv + 1, by omega, by omega, by omega, by go_num, R9.out⟩
              case measure => simp [intOf]; omega
      · have hle := hb2.1 rfl
        clear hb2
        go_upto_region 5 with fail
        go_cut [29] from 21 to 29 (fun v wx => wr = wx ∧ ∃ b2, v = .bool b2 ∧ (b2 = true ↔ (0 ≤ iv ∧ iv < (n : Int))))
        case first =>
          by_cases hneg : iv < 0
          · have e1 : decide (0 ≤ iv) = false := by simp; omega
            go_wp2_with fail
            go_meet
            case rel => exact ⟨rfl, _, rfl, by simp; omega⟩
          · have e1 : decide (0 ≤ iv) = true := by simp; omega
            go_wp2_with fail
            go_meet
            case rel => exact ⟨rfl, _, rfl, by simp; omega⟩
        case rest =>
          obtain ⟨rfl, b2, rfl, hb2⟩ := hcut
          go_upto_if 29 with fail
          go_cut [6, 29] from 30 to 35 (fun v _ wx => wr = wx ∧ v = .int .i64 (lenOf L iv : Nat))
          case first =>
            rcases b2 with _ | _
            · have hno : ¬ (0 ≤ iv ∧ iv < (n : Int)) := fun hh => by have := hb2.2 hh; cases this
              have hz : lenOf L iv = 0 := by
                have : rowOf L iv = none := rowOf_out (by have := HLEN.out; omega)
                simp [lenOf, this]
              clear hb2
              go_wp2_with fail
              go_meet
              case rel => exact ⟨rfl, by rw [hz]; rfl⟩
            · have hyes := hb2.1 rfl
              clear hb2
              obtain ⟨l, rfl⟩ : ∃ l : Nat, iv = l := ⟨iv.toNat, by omega⟩
              have hln : l < n := by omega
              obtain ⟨xs, hl⟩ : ∃ xs, L[l]? = some xs := ⟨_, List.getElem?_eq_getElem (by have := HLEN.out; omega)⟩
              have hz : lenOf L (l : Int) = xs.length := by simp [lenOf, rowOf_nat hl]
              obtain ⟨ad, B, c2, rfl, hcl, _⟩ := HROW.out wr R1.out l xs hl
              clear hl
              generalize xs.length = r at *
              go_wp2_with fail
              go_meet
              case rel => exact ⟨rfl, by rw [hz]⟩
          case rest =>
            obtain ⟨rfl, rfl⟩ := hcut
            clear hb2
            have hsl := HSL.out iv
            have C1 := Lib.hid (HC.out wr R1.out)
            go_wp2_with (go_at_call 9; (with_reducible refine (len_ g q s n m _ L _ C1.out).mono ?_); rintro e w' ⟨rfl, rfl⟩)
            go_loopw [7, 8, 9] (fun v _ _ w' => ∃ kv : Int, -1 ≤ kv ∧ kv ≤ (lenOf L iv : Int) + 1 ∧ v = .int .i64 kv ∧ SameRel w A n m c w') (fun v _ _ _ => ((lenOf L iv : Int) + 2 - intOf v).toNat)
            case atStart => exact ⟨-1, by omega, by omega, rfl, R1.out⟩
            case round =>
              obtain ⟨kv, hk0, hk1, rfl, hrel'⟩ := hrel
              have R2 := Lib.hid hrel'
              have C2 := Lib.hid (HC.out wr hrel')
              clear hrel'
              by_cases hkl : kv ≤ (lenOf L iv : Int)
              · have hd : decide (kv ≤ (lenOf L iv : Int)) = true := by simpa using hkl
                have q0' : wr.cell? ⟨w.heap.size, 0, none⟩ = some (.slice A n c) := R2.out.2.cell 0
                have q1' : wr.cell? ⟨w.heap.size, 1, none⟩ = some (.int .i64 (m : Nat)) := R2.out.2.cell 1
                have RR : Hid (∀ N, RefAt b (wr.drewN N) A L) := fun N => HR.out _ (R2.out.drewN N)
                go_wp2_with (first | (go_at_call 19; (with_reducible refine (at_ g q s n m _ _ L _ C2.out).mono ?_); rintro e w8 ⟨rfl, N1, rfl⟩) | (go_at_call 15; (with_reducible refine (refAt_ b n m c A _ _ L _ (RR.out N1) HLEN.out).mono ?_); rintro e w9 ⟨rfl, hb9⟩; have R9 : Hid (SameRel w A n m c w9) := (R2.out.drewN N1).below hb9; clear hb9) | (go_at_call 14; (with_reducible refine (told_ (atOf L iv kv) _ _ _ _ rfl rfl rfl).mono ?_); rintro e w' ⟨rfl, rfl⟩))
                go_roundw
                case rel => exact ⟨kv + 1, by omega, by omega, by go_num, R9.out⟩
                case measure => simp [intOf]; omega
              · have hd : decide (kv ≤ (lenOf L iv : Int)) = false := by simpa using hkl
                go_wp2_with fail
                go_roundw
                case rel => exact ⟨iv + 1, by omega, by omega, by omega, by go_num, R2.out⟩
                case measure => simp [intOf]; omega
end Go.Proofs.Ytlbloopiajjpfaa
