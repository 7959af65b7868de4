/- The contract of the laws' awake: it returns true. Conditions: those of each theorem. -/
import Derived.Test.YtmpkbggnopcajaaRefGo
namespace Go.Proofs.Ytmpkbggnopcajaa
open Go.RowKit

/-- The bytes that it takes. -/
def awl : List Int := [96, 0, 0, 0, 0, 8, 17, 0, 0, 0, 0, 0, 0, 0, 0, 0, 0, 0, 0, 0, 0, 0, 0, 0, 0, 0, 0, 0, 0, 0, 0, 0, 0, 0, 0, 0, 0, 0, 0, 0, 7, 0, 0, 0, 0, 0, 0, 0]
def awb : List Int := [7, 0, 0, 0, 0, 0, 0, 0]
theorem awl_tel : tel awl = (0, 17, awb, true) := by decide +kernel
theorem awl_octs : Octs awl := by unfold Octs; decide +kernel
theorem awl_new (w : World) : Blk (w.alloc (.cells (madeCells #[.int .u8 0] 48) 5)) w.heap.size 5 (cel (List.replicate 48 0)) := by
  have h : madeCells #[.int .u8 0] 48 = (cel (List.replicate 48 0)).toArray := by
    apply Array.toList_inj.1
    rw [toList_madeCells_one]
    rfl
  rw [h]
  exact Blk.new w 5 (cel (List.replicate 48 0))
theorem awl_set : ((((cel (List.replicate 48 0)).set 0 (.int .u8 96)).set 5 (.int .u8 8)).set 6 (.int .u8 17)).set 40 (.int .u8 7) = cel awl := rfl

theorem parse_b (A : Option Addr) (n c r : Nat) (q : Int) (bs ks : List Int) (f : Bool) (w : World) (h : Byts w A n bs) (ho : Octs bs) (hm : n ≤ 9223372036854775807) (hc : n ≤ c) (hR : tel bs = (r, q, ks, f)) (k : Nat) (hk : ks.length = k) :
    Calls Try.prog 8 #[.slice A n c] w fun e w' => ∃ A' c', e = .returned (.tuple #[.agg (net q (sr bs r) (ds bs r) (.slice A' k c') f).toArray, .int .i64 ((r : Nat) : Int)]) ∧ Below w.heap.size w w' ∧ Bod w' A' ks := by
  subst hk
  exact parse_any A n c r q bs ks f w h ho hm hc hR
theorem tel_long {bs : List Int} {r : Nat} {q : Int} {ks : List Int} {f : Bool} (h : tel bs = (r, q, ks, f)) : r = 0 → 40 ≤ bs.length := fun e => (why_fine (tel_why (bs := bs) (by rw [h]; exact e))).1
theorem parn_length {bs : List Int} {r : Nat} {q : Int} {ks : List Int} {f : Bool} {B : Value} (h : tel bs = (r, q, ks, f)) : (net q (sr bs r) (ds bs r) B f).length = 35 := net_length (sr_sixteen (tel_long h)) (ds_sixteen (tel_long h))

set_option maxRecDepth 100000 in
set_option maxHeartbeats 2000000 in
theorem awake_any (w : World) : Calls Try.prog 7 #[] w fun e w' => e = .returned (.bool true) ∧ Below w.heap.size w w' := by
  have hmk : ∀ W, (Instr.makeSlice 22 (.int .i64 48) (.int .i64 48)).run Try.prog W = .ok (.slice (some ⟨W.heap.size, 0, none⟩) 48 48) (W.alloc (.cells (madeCells #[.int .u8 0] 48) 5)) := fun W => run_make_row' (P := Try.prog) 22 5 (.int .u8 0) 1 Try.underlying22 info5 rfl .i64 .i64 48 (by omega) (by omega) W
  have B0 := Lib.hid (awl_new w)
  have W0 : Hid (Below w.heap.size w (w.alloc (.cells (madeCells #[.int .u8 0] 48) 5))) := (Below.refl _ _).alloc (Nat.le_refl _) _
  go_enter Try.func7, Try.ntmps7
  go_upto_region 2 with (fail)
  generalize (w.alloc (.cells (madeCells #[.int .u8 0] 48) 5)) = w1 at *
  have c0 : w1.cell? ⟨w.heap.size, 0, none⟩ = some (.int .u8 0) := B0.out.cell 0
  have c5 : w1.cell? ⟨w.heap.size, 5, none⟩ = some (.int .u8 0) := B0.out.cell 5
  have c6 : w1.cell? ⟨w.heap.size, 6, none⟩ = some (.int .u8 0) := B0.out.cell 6
  have c40 : w1.cell? ⟨w.heap.size, 40, none⟩ = some (.int .u8 0) := B0.out.cell 40
  have g0 := B0.out.frozen 0
  have g5 := B0.out.frozen 5
  have g6 := B0.out.frozen 6
  have g40 := B0.out.frozen 40
  go_upto_region 3 with (fail)
  have BW : Hid (Blk ((((w1.setCell ⟨w.heap.size, 0, none⟩ (.int .u8 96)).setCell ⟨w.heap.size, 5, none⟩ (.int .u8 8)).setCell ⟨w.heap.size, 6, none⟩ (.int .u8 17)).setCell ⟨w.heap.size, 40, none⟩ (.int .u8 7)) w.heap.size 5 (cel awl)) := by
    have := (((B0.out.set_ 0 (.int .u8 96)).set_ 5 (.int .u8 8)).set_ 6 (.int .u8 17)).set_ 40 (.int .u8 7)
    rw [awl_set] at this
    exact this
  have W1 : Hid (Below w.heap.size w ((((w1.setCell ⟨w.heap.size, 0, none⟩ (.int .u8 96)).setCell ⟨w.heap.size, 5, none⟩ (.int .u8 8)).setCell ⟨w.heap.size, 6, none⟩ (.int .u8 17)).setCell ⟨w.heap.size, 40, none⟩ (.int .u8 7))) := (((W0.out.setCell (p := ⟨w.heap.size, 0, none⟩) (Nat.le_refl _) _).setCell (p := ⟨w.heap.size, 5, none⟩) (Nat.le_refl _) _).setCell (p := ⟨w.heap.size, 6, none⟩) (Nat.le_refl _) _).setCell (p := ⟨w.heap.size, 40, none⟩) (Nat.le_refl _) _
  clear c0 c5 c6 c40 g0 g5 g6 g40 hmk
  generalize (((w1.setCell ⟨w.heap.size, 0, none⟩ (.int .u8 96)).setCell ⟨w.heap.size, 5, none⟩ (.int .u8 8)).setCell ⟨w.heap.size, 6, none⟩ (.int .u8 17)).setCell ⟨w.heap.size, 40, none⟩ (.int .u8 7) = w2 at *
  have LV : Hid (∀ A1 c1, (net 17 (sr awl 0) (ds awl 0) (.slice A1 8 c1) true).length = 35) := fun _ _ => parn_length awl_tel
  have HP := Lib.hid (parse_b (some ⟨w.heap.size, 0, none⟩) 48 48 0 17 awl awb true w2 (Byts.of_all BW.out rfl) awl_octs (by omega) (by omega) awl_tel 8 rfl)
  go_upto_region 4 with (first | (go_at_call 8; (with_reducible refine HP.out.mono ?_); rintro e x2 ⟨A1, c1, rfl, hb, hbod⟩; have W2 : Hid (Below w.heap.size w x2) := W1.out.trans (hb.mono W1.out.size); have BB2 := Lib.hid hbod; clear hb hbod) | (refine wpList_var26 rfl (.tmp 2) (.tmp 16) rfl x2 (net 17 (sr awl 0) (ds awl 0) (.slice A1 8 c1) true) rfl rfl (LV.out _ _) (net_one rfl) ?_; intro x3 B3 hb3; have W3 : Hid (Below w.heap.size w x3) := W2.out.trans (hb3.out.mono W2.out.size); have BB3 := Lib.hid (BB2.out.below hb3.out); clear hb3))
  obtain ⟨ad, rfl, hcell⟩ := BB3.out.byts.2 (by decide)
  have k0 : x3.cell? ⟨x2.heap.size, 0, none⟩ = some (.int .u8 17) := (B3.out.cell 0).trans net_0
  have k3 : x3.cell? ⟨x2.heap.size, 33, none⟩ = some (.slice (some ad) 8 c1) := (B3.out.cell 33).trans (net_33 (sr_sixteen (tel_long awl_tel)) (ds_sixteen (tel_long awl_tel)))
  have k4 : x3.cell? ⟨x2.heap.size, 34, none⟩ = some (.bool true) := (B3.out.cell 34).trans (net_34 (sr_sixteen (tel_long awl_tel)) (ds_sixteen (tel_long awl_tel)))
  have k7 : x3.cell? ad = some (.int .u8 7) := by simpa [Addr.add, awb] using hcell 0 (by decide)
  clear hcell
  go_wp2
  go_ret
  exact ⟨rfl, W3.out⟩
end Go.Proofs.Ytmpkbggnopcajaa
