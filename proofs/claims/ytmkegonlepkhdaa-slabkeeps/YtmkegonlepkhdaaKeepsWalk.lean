/- The walk of the law SlabKeeps: for any numbers, whichever are given back, it returns true and turns nothing that was there. -/
import Derived.Test.YtmkegonlepkhdaaKeepsMem
namespace Go.Proofs.Ytmkegonlepkhdaa
open Go.RowKit

theorem ret_bool {a b : Bool} (h : a = b) : Ending.returned (.bool a) = .returned (.bool b) := by rw [h]

set_option maxRecDepth 100000 in
set_option maxHeartbeats 1000000 in
theorem keeps_far (A B : Option Addr) (n c m d : Nat) (w : World) (hn : n ≤ 9223372036854775807) (h : n = 0 ∨ 60 < n ∨ m < n) :
    Calls Try.prog 6 #[.slice A n c, .slice B m d] w fun e w' => e = .returned (.bool true) ∧ Below w.heap.size w w' := by
  rcases Nat.eq_zero_or_pos n with h0 | h0
  · subst h0
    clear h
    go_enter Try.func6, Try.ntmps6
    go_wp2_with fail
    refine (awake_any _).mono ?_
    rintro e w1 ⟨rfl, hb⟩
    have HB := Lib.hid hb
    clear hb
    go_wp2_with fail
    refine (awake_any _).mono ?_
    rintro e w2 ⟨rfl, hb⟩
    have HC := Lib.hid hb
    clear hb
    go_wp2
    go_ret
    exact ⟨rfl, HB.out.trans (HC.out.mono HB.out.size)⟩
  · have hd0 : ((n : Int) == 0) = false := by simp; omega
    by_cases h1 : 60 < n
    · have hd : decide ((60 : Int) < (n : Int)) = true := by simp; omega
      clear h
      go_enter Try.func6, Try.ntmps6
      go_wp2_with fail
      refine (awake_any _).mono ?_
      rintro e w1 ⟨rfl, hb⟩
      have HB := Lib.hid hb
      clear hb
      go_wp2_with fail
      refine (awake_any _).mono ?_
      rintro e w2 ⟨rfl, hb⟩
      have HC := Lib.hid hb
      clear hb
      go_wp2
      go_ret
      exact ⟨rfl, HB.out.trans (HC.out.mono HB.out.size)⟩
    · have hd : decide ((60 : Int) < (n : Int)) = false := by simp; omega
      have hd2 : decide (m < n) = true := by simp; omega
      clear h
      go_enter Try.func6, Try.ntmps6
      go_wp2_with fail
      refine (awake_any _).mono ?_
      rintro e w1 ⟨rfl, hb⟩
      have HB := Lib.hid hb
      clear hb
      go_wp2_with fail
      refine (awake_any _).mono ?_
      rintro e w2 ⟨rfl, hb⟩
      have HC := Lib.hid hb
      clear hb
      go_wp2
      go_ret
      exact ⟨rfl, HB.out.trans (HC.out.mono HB.out.size)⟩

set_option maxRecDepth 100000 in
set_option maxHeartbeats 4000000 in
theorem keeps_near (A B : Option Addr) (n c m d : Nat) (X : Nat → Int) (Y : Nat → Bool) (w : World) (h1 : 1 ≤ n) (h2 : n ≤ 60) (hm : n ≤ m) (ha : KeepsArgs w A B n X Y) :
    Calls Try.prog 6 #[.slice A n c, .slice B m d] w fun e w' => e = .returned (.bool true) ∧ Below w.heap.size w w' := by
  have HA := Lib.hid ha
  clear ha
  have hd0 : ((n : Int) == 0) = false := by simp; omega
  have hd : decide ((60 : Int) < (n : Int)) = false := by simp; omega
  have hd2 : decide (m < n) = false := by simp; omega
  go_enter Try.func6, Try.ntmps6
  go_wp2_with (first | (go_at_call 7; (with_reducible refine (awake_any _).mono ?_); rintro e w1 ⟨rfl, hb1⟩; have W1 := Lib.hid hb1; clear hb1)  | (go_at_call 8; (with_reducible refine (new_I n _ _ rfl h1 (by omega)).mono ?_); rintro e w2 ⟨g, q, f, rfl, hr, ha, hb2⟩; have R2 := Lib.hid hr; have HN := Lib.hid ha; have W2 : Hid (Below w.heap.size w w2) := W1.out.trans (hb2.mono W1.out.size); clear hr ha hb2))
  have hsz1 := W1.out.size
  obtain ⟨a1, a2, a3, _⟩ := HN.out
  have a1' : w.heap.size ≤ g := by omega
  have a2' : w.heap.size ≤ q := by omega
  have a3' : w.heap.size ≤ f := by omega
  clear HN a1 a2 a3 hsz1
  go_loopw [7, 8, 9, 10, 44] (fun v _ _ _ i w' => ∃ (k : Nat) (vs : List (Option Value)) (fr : List Nat) (At : Nat → Nat), k ≤ n ∧ i = .int .i64 k ∧ fr.length + k = n ∧ Took X At k vs ∧ KeepsRel w g q f n k vs fr At v w') (fun _ _ _ _ i _ => n - (intOf i).toNat)
  case atStart => exact ⟨0, _, _, fun _ => 0, by omega, rfl, by simp, ⟨fun j hj => absurd hj (by omega), fun i j hi => absurd hi (by omega)⟩, R2.out, World.ownsRow_nil _ _ _ _, by simp [Value.ownBlock], W2.out⟩
  case round =>
    obtain ⟨k, vs, fr, At, hk, rfl, hfr, htook, hrel⟩ := hrel
    have HT := Lib.hid htook
    have HR := Lib.hid hrel
    clear htook hrel
    by_cases hlt : k < n
    · have hd3 : decide ((k : Int) < (n : Int)) = true := by simp; omega
      obtain ⟨a, b, rfl, rfl, hca, hcb⟩ := HA.out k hlt
      obtain ⟨fr', p, rfl, hfr'⟩ := last_of (m := n - k - 1) (fr := fr) (by omega)
      have hca' : wr.cell? (a.add k) = some (.int .i64 (X k)) := (HR.out.2.2.2.cell (World.block_lt_of_cell? w _ hca)).trans hca
      have HP := Lib.hid ((HR.out.1.free p).1 (by simp))
      have R3 := Lib.hid HR.out.1
      clear hca hcb
      obtain ⟨A1, c1, rfl, hnc, hvals, hob⟩ := Vals.shape HR.out.2.1
      clear hvals hob
      go_wp2_with (first | (go_at_call 11; (with_reducible refine (take_I g q f n p _ _ _ _ R3.out).mono ?_); rintro e w3 ⟨rfl, hr, hf⟩; have K3 := Lib.hid (HR.out.turn hr hf a1' a2' a3'); clear hr hf)  | (at_builtin; refine wpList_app rfl (.tmp 58) (.tmp 60) rfl w.heap.size _ k (ats At k) rfl (by exact K3.out.2.1.alloc _) (some ⟨w3.heap.size, 0, none⟩) 1 1 [(p : Int)] rfl (by exact Vals.of_blk (vs := ints [(p : Int)]) (Blk.new w3 3 (ints [(p : Int)])) rfl) (k + 1) rfl (ats (more At k p) (k + 1)) (ats_more At k p) (by omega) (by have := K3.out.2.2.2.size; simp; omega) ?_; intro A' c' w' H1 H2 H3))
      go_roundw
      case rel => exact ⟨k + 1, _, fr', _, by omega, by go_num, by omega, HT.out.more HP.out, K3.out.app H1.out H2.out H3.out⟩
      case measure => simp [intOf]; omega
    · obtain rfl : n = k := by omega
      have hd3 : decide ((n : Int) < (n : Int)) = false := by simp
      obtain rfl : fr = [] := List.length_eq_zero_iff.1 (by omega)
      obtain ⟨A1, c1, rfl, hnc, _, _⟩ := Vals.shape HR.out.2.1
      obtain ⟨ad, rfl, _⟩ := (Vals.of_own HR.out.2.1).at_ (ats_at (j := 0) (by omega))
      have HI := Lib.hid HT.out.2
      have HG := Lib.hid (Gave.first (Y := Y) HT.out)
      clear HT W1 W2 R2 hfr hlt hk
      go_wp2_with fail
      go_loopw [11, 12, 65] (fun go _ i w' => ∃ (k : Nat) (vs : List (Option Value)) (fr : List Nat), k ≤ n ∧ i = .int .i64 k ∧ fr.length ≤ k ∧ go = .int .i64 fr.length ∧ Gave X Y At n k vs ∧ KeepsRel w g q f n n vs fr At (.slice (some ad) n c1) w') (fun _ _ i _ => n - (intOf i).toNat)
      case atStart => exact ⟨0, _, [], by omega, rfl, by simp, rfl, HG.out, HR.out⟩
      case round =>
        clear HR HG
        obtain ⟨k, vs, fr, hk, rfl, hfr, rfl, hgave, hrel⟩ := hrel
        have HG := Lib.hid hgave
        have HR := Lib.hid hrel
        clear hgave hrel
        by_cases hlt : k < n
        · have hd4 : decide ((k : Int) < (n : Int)) = true := by simp; omega
          have hd5 : decide (k < m) = true := by simp; omega
          obtain ⟨a, b, rfl, rfl, hca, hcb⟩ := HA.out k hlt
          have hcb' : wr.cell? (b.add k) = some (.bool (Y k)) := (HR.out.2.2.2.cell (World.block_lt_of_cell? w _ hcb)).trans hcb
          obtain ⟨ad', had, hcp⟩ := (Vals.of_own HR.out.2.1).at_ (ats_at (At := At) hlt)
          cases had
          have R3 := Lib.hid HR.out.1
          clear hca hcb
          by_cases hy : Y k = true
          · have HK : Hid (vs[At k]? = some (some (.int .i64 (X k)))) := by
              have := HG.out k hlt
              rw [if_neg (by omega)] at this
              exact this
            have HG' := Lib.hid (HG.out.step hy hlt HI.out)
            rw [hy] at hcb'
            go_wp2_with (first | (go_at_call 12; (with_reducible refine (give_I g q f n (At k) _ _ _ _ _ R3.out rfl HK.out).mono ?_); rintro e w3 ⟨rfl, hr, hf⟩; have K3 := Lib.hid (HR.out.turn hr hf a1' a2' a3'); clear hr hf))
            go_roundw
            case rel => exact ⟨k + 1, _, _, by omega, by go_num, by simp; omega, by simp, HG'.out, K3.out⟩
            case measure => simp [intOf]; omega
          · have hy' : Y k = false := by simpa using hy
            have HG' := Lib.hid (HG.out.skip hy')
            rw [hy'] at hcb'
            go_wp2_with fail
            go_roundw
            case rel => exact ⟨k + 1, _, _, by omega, by go_num, by omega, rfl, HG'.out, HR.out⟩
            case measure => simp [intOf]; omega
        · obtain rfl : n = k := by omega
          have HG' := Lib.hid (Again.first HG.out)
          clear HG
          go_wp2_with fail
          obtain ⟨G, hG⟩ : ∃ G, fr.length = G := ⟨_, rfl⟩
          have HGL := Lib.hid hG
          rw [hG] at hfr ⊢
          clear hG
          go_loopw [82] (fun i w' => ∃ (k : Nat) (vs : List (Option Value)) (fr : List Nat), k ≤ G ∧ i = .int .i64 k ∧ fr.length + k = G ∧ Again X Y At n vs ∧ KeepsRel w g q f n n vs fr At (.slice (some ad) n c1) w') (fun i _ => G - (intOf i).toNat)
          case atStart => exact ⟨0, _, _, by omega, rfl, HGL.out, HG'.out, HR.out⟩
          case round =>
            clear HR HG' HGL hlt hk
            obtain ⟨k, vs, fr, hk, rfl, hfl, hag, hrel⟩ := hrel
            have HG := Lib.hid hag
            have HR := Lib.hid hrel
            clear hag hrel
            by_cases hlt : k < G
            · have hd4 : decide ((k : Int) < (G : Int)) = true := by simp; omega
              obtain ⟨fr', p, rfl, hfr'⟩ := last_of (m := G - k - 1) (fr := fr) (by omega)
              have HG' := Lib.hid (HG.out.step ((HR.out.1.free p).1 (by simp)))
              have R3 := Lib.hid HR.out.1
              go_wp2_with (first | (go_at_call 11; (with_reducible refine (take_I g q f n p _ _ _ _ R3.out).mono ?_); rintro e w3 ⟨rfl, hr, hf⟩; have K3 := Lib.hid (HR.out.turn hr hf a1' a2' a3'); clear hr hf))
              go_roundw
              case rel => exact ⟨k + 1, _, _, by omega, by go_num, by omega, HG'.out, K3.out⟩
              case measure => simp [intOf]; omega
            · obtain rfl : G = k := by omega
              have hd4 : decide ((G : Int) < (G : Int)) = false := by simp
              obtain rfl : fr = [] := List.length_eq_zero_iff.1 (by omega)
              have HV : Hid (∀ j, j < n → vs[At j]? = some (some (.int .i64 (if Y j = true then -7 else X j)))) := fun j hj => by
                obtain ⟨e1, e2⟩ := HG.out j hj
                by_cases hy : Y j = true
                · rw [if_pos hy]
                  rcases e2 hy with e | e
                  · exact absurd ((HR.out.1.free _).2 e) (by simp)
                  · exact e
                · rw [if_neg hy]
                  exact e1 (by simpa using hy)
              clear HG hfl
              go_wp2_with fail
              go_loopw [13, 14, 15, 89] (fun _ _ _ i w' => ∃ k : Nat, k ≤ n ∧ i = .int .i64 k ∧ KeepsRel w g q f n n vs [] At (.slice (some ad) n c1) w') (fun _ _ _ i _ => n - (intOf i).toNat)
              case atStart => exact ⟨0, by omega, rfl, HR.out⟩
              case round =>
                clear HR hlt hk
                obtain ⟨k, hk, rfl, hrel⟩ := hrel
                have HR := Lib.hid hrel
                have R3 := Lib.hid hrel.1
                clear hrel
                by_cases hlt : k < n
                · have hd5 : decide ((k : Int) < (n : Int)) = true := by simp; omega
                  have hd6 : decide (k < m) = true := by simp; omega
                  obtain ⟨a, b, rfl, rfl, hca, hcb⟩ := HA.out k hlt
                  have hca' : wr.cell? (a.add k) = some (.int .i64 (X k)) := (HR.out.2.2.2.cell (World.block_lt_of_cell? w _ hca)).trans hca
                  have hcb' : wr.cell? (b.add k) = some (.bool (Y k)) := (HR.out.2.2.2.cell (World.block_lt_of_cell? w _ hcb)).trans hcb
                  obtain ⟨ad', had, hcp⟩ := (Vals.of_own HR.out.2.1).at_ (ats_at (At := At) hlt)
                  cases had
                  clear hca hcb
                  have HK := Lib.hid (HV.out k hlt)
                  by_cases hy : Y k = true
                  · rw [if_pos hy] at HK
                    rw [hy] at hcb'
                    go_wp2_with (first | (go_at_call 14; (with_reducible refine (get_I g q f n (At k) _ _ _ _ _ R3.out rfl HK.out).mono ?_); rintro e w' ⟨rfl, rfl⟩))
                    go_roundw
                    case rel => exact ⟨k + 1, by omega, by go_num, HR.out⟩
                    case measure => simp [intOf]; omega
                  · rw [if_neg hy] at HK
                    have hy' : Y k = false := by simpa using hy
                    rw [hy'] at hcb'
                    go_wp2_with (first | (go_at_call 14; (with_reducible refine (get_I g q f n (At k) _ _ _ _ _ R3.out rfl HK.out).mono ?_); rintro e w' ⟨rfl, rfl⟩))
                    go_roundw
                    case rel => exact ⟨k + 1, by omega, by go_num, HR.out⟩
                    case measure => simp [intOf]; omega
                · obtain rfl : n = k := by omega
                  go_wp2_with (first | (go_at_call 9; (with_reducible refine (freein_I g q f n 0 _ _ _ R3.out rfl).mono ?_); rintro e w' ⟨rfl, rfl⟩))
                  go_ret
                  exact ⟨rfl, HR.out.2.2.2⟩
end Go.Proofs.Ytmkegonlepkhdaa
