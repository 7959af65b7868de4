/- The program's turns are what is asked of them. Conditions: those of each theorem. -/
import Derived.Test.YtknalphhnicffaaTPick
namespace Go.Proofs.Ytknalphhnicffaa
open Go.RowKit

theorem vars_new (w : World) (g : Nat) : Blk (((w.alloc (Obj.cells #[Value.pointer (some ⟨g, 0, none⟩)] 25)).alloc (Obj.cells #[Value.int .i64 0] 3)).alloc (Obj.cells #[Value.bool false] 4)) (w.heap.size + 1) 3 [.int .i64 0] ∧
    Blk (((w.alloc (Obj.cells #[Value.pointer (some ⟨g, 0, none⟩)] 25)).alloc (Obj.cells #[Value.int .i64 0] 3)).alloc (Obj.cells #[Value.bool false] 4)) (w.heap.size + 1 + 1) 4 [.bool false] ∧
    Below w.heap.size w (((w.alloc (Obj.cells #[Value.pointer (some ⟨g, 0, none⟩)] 25)).alloc (Obj.cells #[Value.int .i64 0] 3)).alloc (Obj.cells #[Value.bool false] 4)) := by
  refine ⟨?_, ?_, (((Below.refl _ _).alloc (Nat.le_refl _) _).alloc (by simp) _).alloc (by simp; omega) _⟩
  · have := (Blk.new (w.alloc (Obj.cells #[Value.pointer (some ⟨g, 0, none⟩)] 25)) 3 [Value.int .i64 0]).alloc (Obj.cells #[Value.bool false] 4)
    simpa using this
  · have := Blk.new ((w.alloc (Obj.cells #[Value.pointer (some ⟨g, 0, none⟩)] 25)).alloc (Obj.cells #[Value.int .i64 0] 3)) 4 [Value.bool false]
    simpa using this
set_option maxHeartbeats 1000000 in
theorem pick_nil (g : Nat) (w : World) :
    Calls Try.prog 16 #[.pointer (some ⟨g, 0, none⟩), .nilIface] w fun e w' => e = .returned (.tuple #[.int .i64 0, .bool false]) ∧ Below w.heap.size w w' := by
  go_enter_defers Try.func16, Try.ntmps16
  go_upto_region 2 with fail
  obtain ⟨h1, h2, h3⟩ := vars_new w g
  have H1 := Lib.hid h1
  have H2 := Lib.hid h2
  have H3 := Lib.hid h3
  clear h1 h2 h3
  generalize ((w.alloc (Obj.cells #[Value.pointer (some ⟨g, 0, none⟩)] 25)).alloc (Obj.cells #[Value.int .i64 0] 3)).alloc (Obj.cells #[Value.bool false] 4) = w1 at *
  have u1 : w1.cell? ⟨w.heap.size + 1, 0, none⟩ = some (.int .i64 0) := H1.out.cell 0
  have u2 : w1.cell? ⟨w.heap.size + 1 + 1, 0, none⟩ = some (.bool false) := H2.out.cell 0
  have f1 : w1.frozen? ⟨w.heap.size + 1, 0, none⟩ = false := H1.out.frozen 0
  have f2 : w1.frozen? ⟨w.heap.size + 1 + 1, 0, none⟩ = false := H2.out.frozen 0
  go_wp2_with fail
  have k3 : ((w1.setCell ⟨w.heap.size + 1, 0, none⟩ (.int .i64 0)).setCell ⟨w.heap.size + 1 + 1, 0, none⟩ (.bool false)).cell? ⟨w.heap.size + 1, 0, none⟩ = some (.int .i64 0) := (((H1.out.set_ 0 (.int .i64 0)).other (p := ⟨w.heap.size + 1 + 1, 0, none⟩) (by simp) (.bool false))).cell 0
  have k4 : ((w1.setCell ⟨w.heap.size + 1, 0, none⟩ (.int .i64 0)).setCell ⟨w.heap.size + 1 + 1, 0, none⟩ (.bool false)).cell? ⟨w.heap.size + 1 + 1, 0, none⟩ = some (.bool false) := ((Blk.other H2.out (p := ⟨w.heap.size + 1, 0, none⟩) (by simp) (.int .i64 0)).set_ 0 (.bool false)).cell 0
  have K := Lib.hid ((H3.out.setCell (show w.heap.size ≤ (⟨w.heap.size + 1, 0, none⟩ : Addr).block by simp) (.int .i64 0)).setCell (show w.heap.size ≤ (⟨w.heap.size + 1 + 1, 0, none⟩ : Addr).block by simp; omega) (.bool false))
  generalize (w1.setCell ⟨w.heap.size + 1, 0, none⟩ (.int .i64 0)).setCell ⟨w.heap.size + 1 + 1, 0, none⟩ (.bool false) = wz at *
  simp [bodyPostD, Leaves, results, Try.results16, go_sem, k3, k4]
  exact K.out
theorem prog : Prog TAt where
  ok := TAt.ok
  far := TAt.far
  weak := TAt.weak
  new := fun n Q x y w hx hy h1 h2 h3 h4 => new_ n Q x y w hx hy h1 h2 h3 h4
  newbad := newbad_
  wake := fun b g n Q c L w h _ => wake_ b g n Q c L w h
  sleep := fun b g n Q c L w h _ => sleep_ b g n Q c L w h
  pick := fun b g n Q A m c hs L L' o w h hb hl hv hA hp => pick_ b g n Q A m c hs L L' o w h hb hl hv hA hp
  picknil := fun _ g _ _ _ w _ => pick_nil g w
  awake := awake_
  deficit := deficit_
  wakenil := wake_nil
  awakenil := awake_nil
end Go.Proofs.Ytknalphhnicffaa
