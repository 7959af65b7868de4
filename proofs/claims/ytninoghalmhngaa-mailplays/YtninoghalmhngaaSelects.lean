/- Put and Take of a box: the select that is in them. Conditions: those of each theorem. -/
import Derived.Test.YtninoghalmhngaaCalls
namespace Go.Proofs.Ytninoghalmhngaa
open Go.RowKit Go.Conc

set_option maxRecDepth 100000 in
set_option maxHeartbeats 1000000 in
theorem put_room (g c n : Nat) (B : Nat → Prop) (vs : List Int) (x : Int) (w : World) (h : BoxAt w g c n B vs) (hr : vs.length < n) (hB : ¬ B w.heap.size) : Calls Try.prog 10 #[.pointer (some ⟨g, 0, none⟩), .int .i64 x] w fun e w' => e = .returned (.bool true) ∧ BoxAt w' g c n B (vs ++ [x]) ∧ Far (only c) w w' := by
  obtain ⟨ps, ⟨s, r, hc⟩, hl, hp, hv⟩ := h.has
  have HB := Lib.hid h
  have HP := Lib.hid hp
  have HV := Lib.hid hv
  have hlt := h.lt
  have hcell : (w.alloc (.cells #[.int .i64 x] 3)).cell? ⟨g, 0, none⟩ = some (.chan (some c)) := (h.own.alloc _).cell 0
  have hc' : (w.alloc (.cells #[.int .i64 x] 3)).heap[c]? = some (.chan n (ps.map fun p => Value.pointer (some ⟨p, 0, none⟩)).toArray false s r false) := (Below.heap_alloc w _ c hlt.2).trans hc
  clear h hp hv
  refine calls_of_loneTo fun cs => ?_
  have e : Frame.enter Try.prog 10 #[.pointer (some ⟨g, 0, none⟩), .int .i64 x] .normal = (base 10).at ⟨#[.pointer (some ⟨g, 0, none⟩), .int .i64 x, undef, undef, undef, undef, undef, undef, undef, undef, undef, undef, undef, undef], []⟩ [.code (Try.f10.body.getD .skip)] := by
    simp [Frame.enter, Frame.at, Try.func10, base, Try.f10]
  rw [e]
  refine LoneTo.goes (n := 60) ?_
  simp only [Try.f10, Option.getD_some]
  repeat (first | s_c stepG_seq | s_reg | s_op | s_c stepG_region_end | s_cond false | s_c stepG_skip)
  s_stop
  refine LoneTo.step (step_lone_select_send_room (c := c) (cap := n) (buf := (ps.map fun p => Value.pointer (some ⟨p, 0, none⟩)).toArray) (s := s) (r := r) (tm := false) (stepG_comm (cases := #[scase c (.pointer (some ⟨w.heap.size, 0, none⟩)) (.pointer none)]) (blocking := false) (shape := .select) (w' := w.alloc (.cells #[.int .i64 x] 3)) rfl rfl (by decide) (by simp [go_sem, execOp, scase, Act.eval])) hc' (by simp; omega)) ?_
  rw [Frame.finish_at]
  walk_nrm
  refine LoneTo.goes (n := 60) ?_
  repeat (first | s_c stepG_seq | s_reg | s_op | s_c stepG_region_end | s_c stepG_block | s_cond true | s_c stepG_skip | s_c stepG_ret')
  s_stop
  refine LoneTo.done ⟨.returned (.bool true), _, rfl, ⟨rfl, ?_, ?_⟩, rfl, rfl, rfl, rfl, _, Try.func10, by simp [results, Try.f10, Frame.at]⟩
  · simpa using HB.out.push (s := s + 1) (r := r) x hr hB hl HP.out HV.out
  · exact ((Far.refl (only c) w).alloc _).chan (fun _ => show c = c from rfl) _ _ _ _ _ _

set_option maxRecDepth 100000 in
set_option maxHeartbeats 1000000 in
theorem put_full (g c n : Nat) (B : Nat → Prop) (vs : List Int) (x : Int) (w : World) (h : BoxAt w g c n B vs) (hr : vs.length = n) : Calls Try.prog 10 #[.pointer (some ⟨g, 0, none⟩), .int .i64 x] w fun e w' => e = .returned (.bool false) ∧ BoxAt w' g c n B vs ∧ Far (only c) w w' := by
  obtain ⟨ps, ⟨s, r, hc⟩, hl, hp, hv⟩ := h.has
  have HB := Lib.hid h
  have hlt := h.lt
  have hcell : (w.alloc (.cells #[.int .i64 x] 3)).cell? ⟨g, 0, none⟩ = some (.chan (some c)) := (h.own.alloc _).cell 0
  have hc' : (w.alloc (.cells #[.int .i64 x] 3)).heap[c]? = some (.chan n (ps.map fun p => Value.pointer (some ⟨p, 0, none⟩)).toArray false s r false) := (Below.heap_alloc w _ c hlt.2).trans hc
  clear h hp hv
  refine calls_of_loneTo fun cs => ?_
  have e : Frame.enter Try.prog 10 #[.pointer (some ⟨g, 0, none⟩), .int .i64 x] .normal = (base 10).at ⟨#[.pointer (some ⟨g, 0, none⟩), .int .i64 x, undef, undef, undef, undef, undef, undef, undef, undef, undef, undef, undef, undef], []⟩ [.code (Try.f10.body.getD .skip)] := by
    simp [Frame.enter, Frame.at, Try.func10, base, Try.f10]
  rw [e]
  refine LoneTo.goes (n := 60) ?_
  simp only [Try.f10, Option.getD_some]
  repeat (first | s_c stepG_seq | s_reg | s_op | s_c stepG_region_end | s_cond false | s_c stepG_skip)
  s_stop
  refine LoneTo.step (step_lone_select_send_full (c := c) (cap := n) (buf := (ps.map fun p => Value.pointer (some ⟨p, 0, none⟩)).toArray) (s := s) (r := r) (tm := false) (stepG_comm (cases := #[scase c (.pointer (some ⟨w.heap.size, 0, none⟩)) (.pointer none)]) (blocking := false) (shape := .select) (w' := w.alloc (.cells #[.int .i64 x] 3)) rfl rfl (by decide) (by simp [go_sem, execOp, scase, Act.eval])) hc' (by simp; omega)) ?_
  rw [Frame.finish_at]
  walk_nrm
  refine LoneTo.goes (n := 60) ?_
  repeat (first | s_c stepG_seq | s_reg | s_op | s_c stepG_region_end | s_c stepG_block | s_cond false | s_c stepG_skip | s_c stepG_ret')
  s_stop
  refine LoneTo.done ⟨.returned (.bool false), _, rfl, ⟨rfl, ?_, ?_⟩, rfl, rfl, rfl, rfl, _, Try.func10, by simp [results, Try.f10, Frame.at]⟩
  · exact HB.out.below ((Below.refl _ w).alloc (Nat.le_refl _) _)
  · exact (Far.refl (only c) w).alloc _

set_option maxRecDepth 100000 in
set_option maxHeartbeats 1000000 in
theorem take_none (g c n : Nat) (B : Nat → Prop) (w : World) (h : BoxAt w g c n B []) : Calls Try.prog 12 #[.pointer (some ⟨g, 0, none⟩)] w fun e w' => e = .returned (.tuple #[.int .i64 0, .bool false]) ∧ w = w' := by
  obtain ⟨ps, ⟨s, r, hc⟩, hl, hp, hv⟩ := h.has
  obtain rfl : ps = [] := List.length_eq_zero_iff.1 hl
  have hcell : w.cell? ⟨g, 0, none⟩ = some (.chan (some c)) := h.own.cell 0
  clear h hp hv hl
  refine calls_of_loneTo fun cs => ?_
  have e : Frame.enter Try.prog 12 #[.pointer (some ⟨g, 0, none⟩)] .normal = (base 12).at ⟨#[.pointer (some ⟨g, 0, none⟩), undef, undef, undef, undef, undef, undef, undef, undef, undef, undef, undef, undef, undef, undef, undef, undef, undef, undef, undef, undef], []⟩ [.code (Try.f12.body.getD .skip)] := by
    simp [Frame.enter, Frame.at, Try.func12, base, Try.f12]
  rw [e]
  refine LoneTo.goes (n := 60) ?_
  simp only [Try.f12, Option.getD_some]
  repeat (first | s_c stepG_seq | s_reg | s_op | s_c stepG_region_end | s_cond false | s_c stepG_skip)
  s_stop
  refine LoneTo.step (step_lone_select_default (c := c) (z := .pointer none) (cap := n) (s := s) (r := r) (tm := false) (stepG_comm (cases := #[rcase c (.pointer none)]) (blocking := false) (shape := .select) (w' := w) rfl rfl (by decide) (by simp [go_sem, execOp, rcase, Act.eval])) hc) ?_
  rw [Frame.finish_at]
  walk_nrm
  refine LoneTo.goes (n := 60) ?_
  repeat (first | s_c stepG_seq | s_reg | s_op | s_c stepG_region_end | s_c stepG_block | s_cond false | s_c stepG_skip | s_c stepG_ret')
  s_stop
  exact LoneTo.done ⟨.returned (.tuple #[.int .i64 0, .bool false]), _, rfl, ⟨rfl, rfl⟩, rfl, rfl, rfl, rfl, _, Try.func12, by simp [results, Try.f12, Frame.at]⟩

set_option maxRecDepth 100000 in
set_option maxHeartbeats 1000000 in
theorem take_some (g c n : Nat) (B : Nat → Prop) (v : Int) (vs : List Int) (w : World) (h : BoxAt w g c n B (v :: vs)) : Calls Try.prog 12 #[.pointer (some ⟨g, 0, none⟩)] w fun e w' => e = .returned (.tuple #[.int .i64 v, .bool true]) ∧ BoxAt w' g c n B vs ∧ Far (only c) w w' := by
  obtain ⟨ps, ⟨s, r, hc⟩, hl, hp, hv⟩ := h.has
  rcases ps with _ | ⟨p, ps⟩
  · simp at hl
  have HB := Lib.hid h
  have HP := Lib.hid hp
  have HV := Lib.hid hv
  have HL := Lib.hid hl
  have hcell : w.cell? ⟨g, 0, none⟩ = some (.chan (some c)) := h.own.cell 0
  have hb := hv 0 p v rfl rfl
  have hpc : p ≠ c := ChanAt.blk ⟨s, r, hc⟩ hb
  have hcp : ∀ W : World, W = w.setChan c n (ps.map fun p => Value.pointer (some ⟨p, 0, none⟩)).toArray false s (r + 1) false → W.cell? ⟨p, 0, none⟩ = some (.int .i64 v) := fun W e => by
    subst e
    exact (hb.far (S := only c) ((Far.refl (only c) _).chan (fun _ => show c = c from rfl) _ _ _ _ _ _) hpc).cell 0
  have hcp' := hcp _ rfl
  clear h hp hv hl hb hcp
  refine calls_of_loneTo fun cs => ?_
  have e : Frame.enter Try.prog 12 #[.pointer (some ⟨g, 0, none⟩)] .normal = (base 12).at ⟨#[.pointer (some ⟨g, 0, none⟩), undef, undef, undef, undef, undef, undef, undef, undef, undef, undef, undef, undef, undef, undef, undef, undef, undef, undef, undef, undef], []⟩ [.code (Try.f12.body.getD .skip)] := by
    simp [Frame.enter, Frame.at, Try.func12, base, Try.f12]
  rw [e]
  refine LoneTo.goes (n := 60) ?_
  simp only [Try.f12, Option.getD_some]
  repeat (first | s_c stepG_seq | s_reg | s_op | s_c stepG_region_end | s_cond false | s_c stepG_skip)
  s_stop
  refine LoneTo.step (step_lone_select_recv_buf (c := c) (z := .pointer none) (cap := n) (buf := ((p :: ps).map fun p => Value.pointer (some ⟨p, 0, none⟩)).toArray) (closed := false) (s := s) (r := r) (tm := false) (stepG_comm (cases := #[rcase c (.pointer none)]) (blocking := false) (shape := .select) (w' := w) rfl rfl (by decide) (by simp [go_sem, execOp, rcase, Act.eval])) hc (by simp)) ?_
  have hx : (((p :: ps).map fun p => Value.pointer (some ⟨p, 0, none⟩)).toArray).extract 1 (((p :: ps).map fun p => Value.pointer (some ⟨p, 0, none⟩)).toArray).size = (ps.map fun p => Value.pointer (some ⟨p, 0, none⟩)).toArray := by
    simp
    exact List.take_of_length_le (by simp)
  rw [hx, Frame.finish_at]
  walk_nrm
  refine LoneTo.goes (n := 60) ?_
  repeat (first | s_c stepG_seq | s_reg | s_op | s_c stepG_region_end | s_c stepG_block | s_cond true | s_c stepG_skip | s_c stepG_ret')
  s_stop
  refine LoneTo.done ⟨.returned (.tuple #[.int .i64 v, .bool true]), _, rfl, ⟨rfl, ?_, ?_⟩, rfl, rfl, rfl, rfl, _, Try.func12, by simp [results, Try.f12, Frame.at]⟩
  · exact HB.out.pop HL.out HP.out HV.out
  · exact (Far.refl (only c) w).chan (fun _ => show c = c from rfl) _ _ _ _ _ _
end Go.Proofs.Ytninoghalmhngaa
