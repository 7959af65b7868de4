/- A flow in one letter; the contracts of both Keys of it, of the program's Bucket, of the document's fall and Bucket. Conditions: those of each theorem. -/
import Derived.Test.YtfhlgmmfknfamaaKdFalls
namespace Go.Proofs.Ytfhlgmmfknfamaa.kd
open Go.RowKit

/-- A flow. -/
structure Flo where
  v : Bool
  p : Int
  s : List Int
  d : List Int
  a : Nat
  b : Nat
structure Flo.Ok (f : Flo) : Prop where
  hs : Sixteen f.s
  hd : Sixteen f.d
  os : Octs f.s
  od : Octs f.d
  hp : 0 ≤ f.p ∧ f.p ≤ 255
  ha : f.a ≤ 65535
  hb : f.b ≤ 65535
/-- Its cells, and its key. -/
def Flo.cells (f : Flo) : List Value := flo f.v f.p f.s f.d f.a f.b
def Flo.key (f : Flo) : List Int := Go.Proofs.Ytfhlgmmfknfamaa.kd.key f.v f.p f.s f.d f.a f.b
theorem Flo.Ok.cells_length {f : Flo} (h : f.Ok) : f.cells.length = 36 := flo_length h.hs h.hd
theorem Flo.Ok.key_length {f : Flo} (h : f.Ok) : f.key.length ≤ 38 := by
  unfold Flo.key
  rw [Go.Proofs.Ytfhlgmmfknfamaa.kd.key_length h.hs h.hd]
  split <;> omega
theorem Flo.Ok.key_octs {f : Flo} (h : f.Ok) : Octs f.key := by
  obtain ⟨hs, hd, os, od, hp, ha, hb⟩ := h
  unfold Flo.key Go.Proofs.Ytfhlgmmfknfamaa.kd.key
  intro z hz
  rcases List.mem_cons.1 hz with rfl | hz
  · split <;> decide
  rcases List.mem_cons.1 hz with rfl | hz
  · exact hp
  rcases List.mem_append.1 hz with hz | hz
  · exact os z (List.mem_of_mem_take hz)
  rcases List.mem_append.1 hz with hz | hz
  · exact od z (List.mem_of_mem_take hz)
  simp only [List.mem_cons, List.not_mem_nil, or_false] at hz
  omega
theorem Flo.prog_key {f : Flo} (h : f.Ok) (w : World) : Calls Try.prog 33 #[.agg f.cells.toArray] w (KeyOut w f.key) := progKey_any f.v f.p f.s f.d f.a f.b w h.hs h.hd h.ha h.hb
theorem Flo.ref_key {f : Flo} (h : f.Ok) (w : World) : Calls Try.prog 42 #[.agg f.cells.toArray] w (KeyOut w f.key) := refKey_any f.v f.p f.s f.d f.a f.b w h.hs h.hd h.ha h.hb

theorem kept {w x : World} {g : Nat} {t : TypeId} {xs : List Value} (h : Blk w g t xs) (hb : Below w.heap.size w x) : Blk x g t xs := h.far (Far.of_below hb nobody) (fun e => e)
theorem whole_at {w : World} {g : Nat} {t : TypeId} {cs : List Value} (h : Blk w g t cs) : w.rangeAt g 0 cs := fun j v hv => by rw [h.cell, Nat.zero_add]; exact hv
/-- A key in block g, a flow in block h. -/
def Two (g h : Nat) (k : List Nat) (f : Flo) (W : World) : Prop := Blk W g 22 (summ.cel k) ∧ Blk W h 45 f.cells
theorem Two.below {g h : Nat} {k : List Nat} {f : Flo} {w x : World} (t : Two g h k f w) (hb : Below w.heap.size w x) : Two g h k f x := ⟨kept t.1 hb, kept t.2 hb⟩
theorem Two.drew {g h : Nat} {k : List Nat} {f : Flo} {w : World} (t : Two g h k f w) : Two g h k f w.drew := t
theorem Two.new (w : World) (k : List Nat) (f : Flo) : Two w.heap.size (w.heap.size + 1) k f ((w.alloc (.cells (summ.cel k).toArray 22)).alloc (.cells f.cells.toArray 45)) := by
  refine ⟨(Blk.new w 22 _).alloc _, ?_⟩
  have := Blk.new (w.alloc (.cells (summ.cel k).toArray 22)) 45 f.cells
  rwa [show (w.alloc (.cells (summ.cel k).toArray 22)).heap.size = w.heap.size + 1 by simp] at this
theorem below_two (w : World) (x y : Obj) : Below w.heap.size w ((w.alloc x).alloc y) := ((Below.refl _ w).alloc (Nat.le_refl _) _).alloc (by simp) _
theorem yields_key {ops : Array Oper} {S : World → Prop} {op : Oper} {a : Act} (hw : Region.wanted op (yielded ops a.tmps) = true) (x : Operand) (ho : op.op = .load 22 x) (g : Nat) (hx : a.eval x = .pointer (some ⟨g, 0, none⟩)) (k : List Nat) (h16 : k.length = 16)
    (hS : ∀ W, S W → Blk W g 22 (summ.cel k)) : YieldsIf Try.prog ops S op (.agg (summ.cel k).toArray) a :=
  yieldsIf_load_mid hw 22 x ho g 0 hx (summ.cel k) _ (fun W hW => whole_at (hS W hW)) Try.underlying22 rfl (by rw [summ.cel_length, h16]; exact size24)
theorem yields_flow {ops : Array Oper} {S : World → Prop} {op : Oper} {a : Act} (hw : Region.wanted op (yielded ops a.tmps) = true) (x : Operand) (ho : op.op = .load 45 x) (g : Nat) (hx : a.eval x = .pointer (some ⟨g, 0, none⟩)) (f : Flo) (hf : f.cells.length = 36)
    (hS : ∀ W, S W → Blk W g 45 f.cells) : YieldsIf Try.prog ops S op (.agg f.cells.toArray) a :=
  yieldsIf_load_mid hw 45 x ho g 0 hx f.cells _ (fun W hW => whole_at (hS W hW)) Try.underlying45 rfl (by rw [hf]; exact sizeOfflow)
/-- What a number's call leaves. -/
def NumOut (w : World) (z : Int) (e : Ending) (w' : World) : Prop := e = .returned (.int .i64 z) ∧ Below w.heap.size w w'

set_option maxRecDepth 100000 in
set_option maxHeartbeats 2000000 in
theorem progBucket_any (k : List Nat) (f : Flo) (n : Int) (w : World) (hk : summ.Octs k) (h16 : k.length = 16) (hf : f.Ok) (hn : n ≤ 9223372036854775807) :
    Calls Try.prog 32 #[.agg (summ.cel k).toArray, .agg f.cells.toArray, .int .i64 n] w (NumOut w (fl k f.key 0 n)) := by
  have T1 : Hid (Two w.heap.size (w.heap.size + 1) k f ((w.alloc (.cells (summ.cel k).toArray 22)).alloc (.cells f.cells.toArray 45))) := Two.new w k f
  have V0 : Hid (Below w.heap.size w ((w.alloc (.cells (summ.cel k).toArray 22)).alloc (.cells f.cells.toArray 45))) := below_two w _ _
  have CK := Lib.hid (f.prog_key hf)
  have LF := Lib.hid hf.cells_length
  have LK := Lib.hid hf.key_length
  have OK := Lib.hid hf.key_octs
  have HK := Lib.hid hk
  have H16 := Lib.hid h16
  clear hf hk h16
  go_enter Try.func32, Try.ntmps32
  go_upto_region 1 with (fail)
  generalize ((w.alloc (.cells (summ.cel k).toArray 22)).alloc (.cells f.cells.toArray 45)) = w1 at *
  refine wp_region_held_drew (S := fun W => Two w.heap.size (w.heap.size + 1) k f W) (by kernel_rfl) ?_ (fun _ => ?_)
  · exact T1.out
  have HS0 : Hid (Two w.heap.size (w.heap.size + 1) k f w1.drew) := T1.out
  refine wpAnyH_take (i := 0) (oi := ⟨some 7, _, _, _, _, _⟩) (v := .agg (summ.cel k).toArray) rfl (by kernel_rfl) (by kernel_rfl) (by kernel_rfl) (fun _ _ _ h => h) (yields_key (by rfl) (.tmp 3) rfl (w.heap.size) rfl k H16.out (fun _ h => h.1)) HS0.out ?_
  try simp only [Act.put, List.setIfInBounds_toArray, List.set_cons_zero, List.set_cons_succ]
  refine wpAnyH_take (i := 1) (oi := ⟨some 8, _, _, _, _, _⟩) (v := .agg f.cells.toArray) rfl (by kernel_rfl) (by kernel_rfl) (by kernel_rfl) (fun _ _ _ h => h) (yields_flow (by rfl) (.tmp 4) rfl (w.heap.size + 1) rfl f LF.out (fun _ h => h.2)) HS0.out ?_
  try simp only [Act.put, List.setIfInBounds_toArray, List.set_cons_zero, List.set_cons_succ]
  refine wpAnyH_take (i := 3) (oi := ⟨some 10, _, _, _, _, _⟩) (v := ?_) rfl (by kernel_rfl) (by kernel_rfl) (by kernel_rfl) (fun _ _ _ h => h) (Or.inl ⟨by rfl, ?_⟩) HS0.out ?_
  rotate_left
  · (intro W hSW; clear hSW; go_simp)
    first | done | (with_reducible rfl)
  try simp only [Act.put, List.setIfInBounds_toArray, List.set_cons_zero, List.set_cons_succ]
  refine wpAnyH_ready (rs := [2]) (by kernel_rfl) (by simp) ?_
  refine AllReadyH.cons (o := ⟨some 9, _, _, _, _, _⟩) rfl (fun K hK => ?_) AllReadyH.nil
  go_simp
  refine (CK.out _).mono ?_
  rintro e x1 ⟨A, c, rfl, hb, hy⟩
  have HS1 : Hid (Two w.heap.size (w.heap.size + 1) k f x1) := HS0.out.below hb
  have V1 : Hid (Below w.heap.size w x1) := V0.out.drew.trans (hb.mono V0.out.size)
  have Y1 := Lib.hid (Byts.of_own hy)
  clear hb hy
  go_simp
  refine hK.out _ _ ?_ (fun _ => ?_)
  · exact HS1.out
  clear hK K
  try simp only [Act.put, List.setIfInBounds_toArray, List.set_cons_zero, List.set_cons_succ]
  refine wpAnyH_ready (rs := [4]) (by kernel_rfl) (by simp) ?_
  refine AllReadyH.cons (o := ⟨some 11, _, _, _, _, _⟩) rfl (fun K hK => ?_) AllReadyH.nil
  go_simp
  refine (fall_any k A f.key.length c 0 f.key n _ HK.out H16.out Y1.out OK.out (by have := LK.out; omega) (by decide) hn).mono ?_
  rintro e x2 ⟨rfl, hb⟩
  have HS2 : Hid (Two w.heap.size (w.heap.size + 1) k f x2) := HS1.out.below hb
  have V2 : Hid (Below w.heap.size w x2) := V1.out.trans (hb.mono V1.out.size)
  clear hb
  go_simp
  refine hK.out _ _ ?_ (fun _ => ?_)
  · exact HS2.out
  clear hK K
  try simp only [Act.put, List.setIfInBounds_toArray, List.set_cons_zero, List.set_cons_succ]
  refine wpAnyH_take (i := 5) (oi := ⟨some 6, _, _, _, _, _⟩) (v := ?_) rfl (by kernel_rfl) (by kernel_rfl) (by kernel_rfl) (fun _ _ _ h => h) (Or.inl ⟨by rfl, ?_⟩) HS2.out ?_
  rotate_left
  · (intro W hSW; clear hSW; go_simp)
    first | done | (with_reducible rfl)
  try simp only [Act.put, List.setIfInBounds_toArray, List.set_cons_zero, List.set_cons_succ]
  refine wpAnyH_done (by kernel_rfl) ?_ _
  go_wp2
  go_ret
  exact ⟨rfl, V2.out⟩

set_option maxRecDepth 100000 in
set_option maxHeartbeats 2000000 in
theorem refFall_none (k : List Nat) (f : Flo) (l : Nat) (n : Int) (w : World) (hn : n < 1) :
    Calls Try.prog 35 #[.agg (summ.cel k).toArray, .agg f.cells.toArray, .int .i64 ((l : Nat) : Int), .int .i64 n] w (NumOut w 0) := by
  have hd : decide (n < 1) = true := by simpa using hn
  have V0 : Hid (Below w.heap.size w ((w.alloc (.cells (summ.cel k).toArray 22)).alloc (.cells f.cells.toArray 45))) := below_two w _ _
  clear hn
  go_enter Try.func35, Try.ntmps35
  go_wp2
  go_ret
  exact ⟨rfl, V0.out⟩

set_option maxRecDepth 100000 in
set_option maxHeartbeats 4000000 in
theorem refFall_some (k : List Nat) (f : Flo) (l : Nat) (n : Int) (w : World) (hk : summ.Octs k) (h16 : k.length = 16) (hf : f.Ok) (hl : l ≤ 255) (hn : 1 ≤ n) (hn2 : n ≤ 9223372036854775807) :
    Calls Try.prog 35 #[.agg (summ.cel k).toArray, .agg f.cells.toArray, .int .i64 ((l : Nat) : Int), .int .i64 n] w (NumOut w (fl k f.key l n)) := by
  have T1 : Hid (Two w.heap.size (w.heap.size + 1) k f ((w.alloc (.cells (summ.cel k).toArray 22)).alloc (.cells f.cells.toArray 45))) := Two.new w k f
  have V0 : Hid (Below w.heap.size w ((w.alloc (.cells (summ.cel k).toArray 22)).alloc (.cells f.cells.toArray 45))) := below_two w _ _
  have CK := Lib.hid (f.ref_key hf)
  have LF := Lib.hid hf.cells_length
  have LK := Lib.hid hf.key_length
  have OK := Lib.hid hf.key_octs
  have HK := Lib.hid hk
  have H16 := Lib.hid h16
  have hd : decide (n < 1) = false := by simp; omega
  have hn0 : n ≠ 0 := by omega
  have F := Lib.hid (fl_bd (k := k) (bs := f.key) (l := l) hn)
  have e0 : IntKind.u8.wrap (l : Int) = ((l : Nat) : Int) := by
    unfold IntKind.wrap
    simp [IntKind.signed, IntKind.bits]
    omega
  have e1 : IntKind.u64.wrap n = n := u64_of (by omega) hn2
  have e2 : (summ.sip k (nats f.key ++ [l]) : Int).tmod n = fl k f.key l n := fl_some hn
  have e3 : IntKind.i64.wrap (fl k f.key l n) = fl k f.key l n := i64_of F.out.1 (by have := F.out.2; omega)
  have OL : Hid (Octs (f.key ++ [(l : Int)])) := OK.out.app (fun z hz => by simp at hz; omega)
  have EN : Hid (nats (f.key ++ [(l : Int)]) = nats f.key ++ [l]) := by
    refine Lib.hid ?_
    simp [nats]
  have EL : Hid ((f.key ++ [(l : Int)]).length = f.key.length + 1) := by
    refine Lib.hid ?_
    simp
  clear hf hk h16 hl
  go_enter Try.func35, Try.ntmps35
  go_upto_region 3 with (fail)
  generalize ((w.alloc (.cells (summ.cel k).toArray 22)).alloc (.cells f.cells.toArray 45)) = w1 at *
  refine wp_region_held_drew (S := fun W => Two w.heap.size (w.heap.size + 1) k f W) (by kernel_rfl) ?_ (fun _ => ?_)
  · exact T1.out
  have HS0 : Hid (Two w.heap.size (w.heap.size + 1) k f w1.drew) := T1.out
  have X0 : Hid (Below w.heap.size w w1.drew) := V0.out.drew
  refine wpAnyH_take (i := 0) (oi := ⟨some 11, _, _, _, _, _⟩) (v := .agg (summ.cel k).toArray) rfl (by kernel_rfl) (by kernel_rfl) (by kernel_rfl) (fun _ _ _ h => h) (yields_key (by rfl) (.tmp 4) rfl (w.heap.size) rfl k H16.out (fun _ h => h.1)) HS0.out ?_
  try simp only [Act.put, List.setIfInBounds_toArray, List.set_cons_zero, List.set_cons_succ]
  refine wpAnyH_take (i := 1) (oi := ⟨some 12, _, _, _, _, _⟩) (v := .agg f.cells.toArray) rfl (by kernel_rfl) (by kernel_rfl) (by kernel_rfl) (fun _ _ _ h => h) (yields_flow (by rfl) (.tmp 5) rfl (w.heap.size + 1) rfl f LF.out (fun _ h => h.2)) HS0.out ?_
  try simp only [Act.put, List.setIfInBounds_toArray, List.set_cons_zero, List.set_cons_succ]
  refine wpAnyH_take (i := 3) (oi := ⟨some 14, _, _, _, _, _⟩) (v := ?_) rfl (by kernel_rfl) (by kernel_rfl) (by kernel_rfl) (fun _ _ _ h => h) (Or.inl ⟨by rfl, ?_⟩) HS0.out ?_
  rotate_left
  · (intro W hSW; clear hSW; go_simp)
    first | done | (with_reducible rfl)
  try simp only [Act.put, List.setIfInBounds_toArray, List.set_cons_zero, List.set_cons_succ]
  refine wpAnyH_take (i := 4) (oi := ⟨some 15, _, _, _, _, _⟩) (v := .int .u8 (l : Nat)) rfl (by kernel_rfl) (by kernel_rfl) (by kernel_rfl) (fun _ _ _ h => h) (Or.inl ⟨by rfl, ?_⟩) HS0.out ?_
  · (intro W hSW; clear hSW; go_simp)
  try simp only [Act.put, List.setIfInBounds_toArray, List.set_cons_zero, List.set_cons_succ]
  refine wpAnyH_take (i := 8) (oi := ⟨some 19, _, _, _, _, _⟩) (v := ?_) rfl (by kernel_rfl) (by kernel_rfl) (by kernel_rfl) (fun _ _ _ h => h) (Or.inl ⟨by rfl, ?_⟩) HS0.out ?_
  rotate_left
  · (intro W hSW; clear hSW; go_simp)
    first | done | (with_reducible rfl)
  try simp only [Act.put, List.setIfInBounds_toArray, List.set_cons_zero, List.set_cons_succ]
  refine wpAnyH_take (i := 9) (oi := ⟨some 20, _, _, _, _, _⟩) (v := .int .u64 n) rfl (by kernel_rfl) (by kernel_rfl) (by kernel_rfl) (fun _ _ _ h => h) (Or.inl ⟨by rfl, ?_⟩) HS0.out ?_
  · (intro W hSW; clear hSW; go_simp)
  try simp only [Act.put, List.setIfInBounds_toArray, List.set_cons_zero, List.set_cons_succ]
  generalize w1.drew = y at *
  refine wpAnyH_ready (rs := [2, 5]) (by kernel_rfl) (by simp) ?_
  refine AllReadyH.cons (o := ⟨some 13, _, _, _, _, _⟩) rfl (fun K hK => ?_) (AllReadyH.cons (o := ⟨some 16, _, _, _, _, _⟩) rfl (fun K hK => ?_) AllReadyH.nil)
  · go_simp
    refine (CK.out _).mono ?_
    rintro e x1 ⟨A, c, rfl, hb, hy⟩
    have HS1 : Hid (Two w.heap.size (w.heap.size + 1) k f x1) := HS0.out.below hb
    have X1 : Hid (Below w.heap.size w x1) := X0.out.trans (hb.mono X0.out.size)
    have Y1 := Lib.hid hy
    have Y1SZ := Lib.hid hb.size
    have hg : w.heap.size + 1 < y.heap.size := HS0.out.2.lt
    clear hb hy
    go_simp
    refine hK.out _ _ ?_ (fun _ => ?_)
    · exact HS1.out
    clear hK K
    try simp only [Act.put, List.setIfInBounds_toArray, List.set_cons_zero, List.set_cons_succ]
    refine wpAnyH_ready (rs := [5]) (by kernel_rfl) (by simp) ?_
    refine AllReadyH.cons (o := ⟨some 16, _, _, _, _, _⟩) rfl (fun K hK => ?_) AllReadyH.nil
    go_simp
    have HT : Hid (Two w.heap.size (w.heap.size + 1) k f (x1.alloc (.cells #[.int .u8 ((l : Nat) : Int)] 5))) := HS1.out.below ((Below.refl _ _).alloc (Nat.le_refl _) _)
    have Z : Hid (Below w.heap.size w (x1.alloc (.cells #[.int .u8 ((l : Nat) : Int)] 5))) := X1.out.alloc X1.out.size _
    have O := Lib.hid (Y1.out.alloc (.cells #[.int .u8 ((l : Nat) : Int)] 5))
    have B : Hid (Byts (x1.alloc (.cells #[.int .u8 ((l : Nat) : Int)] 5)) (some ⟨x1.heap.size, 0, none⟩) 1 [(l : Int)]) := Byts.of_all (Blk.new x1 5 (cel [(l : Int)])) rfl
    have hbz : y.heap.size ≤ (x1.alloc (.cells #[.int .u8 ((l : Nat) : Int)] 5)).heap.size := by have := O.out; have := HT.out.1.lt; have := Y1SZ.out; simp; omega
    refine hK.out _ _ ?_ (fun _ => ?_)
    · exact HT.out
    clear hK K
    try simp only [Act.put, List.setIfInBounds_toArray, List.set_cons_zero, List.set_cons_succ]
    generalize (x1.alloc (.cells #[.int .u8 ((l : Nat) : Int)] 5)) = z at *
    obtain ⟨q, hq⟩ : ∃ q : Option Addr, (some ⟨x1.heap.size, 0, none⟩ : Option Addr) = q := ⟨_, rfl⟩
    rw [hq] at B ⊢
    obtain ⟨base, hba⟩ : ∃ base, y.heap.size = base := ⟨_, rfl⟩
    rw [hba] at O hbz hg
    have hbase : w.heap.size ≤ base := by omega
    clear hq hba Y1 HS1 X1 Y1SZ HS0 X0
    refine wpAnyH_ready (rs := [6]) (by kernel_rfl) (by simp) ?_
    refine AllReadyH.cons (o := ⟨some 17, _, _, _, _, _⟩) rfl (fun K hK => ?_) AllReadyH.nil
    refine step_app rfl (.tmp 13) (.tmp 16) rfl base (.slice A f.key.length c) f.key.length f.key rfl O.out q 1 1 [(l : Int)] rfl B.out (f.key.length + 1) rfl (f.key ++ [(l : Int)]) rfl (by have := LK.out; omega) hbz ?_
    intro A2 c2 z2 O2 G2
    have Z2 : Hid (Below w.heap.size w z2) := Z.out.grown G2.out Z.out.size (fun j e => Nat.le_trans hbase (O.out.lt j e).1)
    have HT2 : Hid (Two w.heap.size (w.heap.size + 1) k f z2) := ⟨HT.out.1.grown G2.out (fun e => by have := (O.out.lt _ e).1; omega), HT.out.2.grown G2.out (fun e => by have := (O.out.lt _ e).1; omega)⟩
    have Y2 : Hid (summ.Vals z2 A2 (f.key.length + 1) (summ.cel (nats f.key ++ [l]))) := by
      have := (Byts.of_own O2.out).vals OL.out
      rw [EN.out] at this
      exact this
    clear O2 G2 O B Z HT
    refine hK.out _ _ ?_ (fun _ => ?_)
    · exact HT2.out
    clear hK K
    try simp only [Act.put, List.setIfInBounds_toArray, List.set_cons_zero, List.set_cons_succ]
    refine wpAnyH_ready (rs := [7]) (by kernel_rfl) (by simp) ?_
    refine AllReadyH.cons (o := ⟨some 18, _, _, _, _, _⟩) rfl (fun K hK => ?_) AllReadyH.nil
    go_simp
    refine (summ.ref_sum k A2 (f.key.length + 1) c2 (nats f.key ++ [l]) _ HK.out H16.out Y2.out (by have := LK.out; omega) (by rw [← EN.out]; exact nats_octs OL.out)).mono ?_
    rintro e z3 ⟨rfl, hb⟩
    have HT3 : Hid (Two w.heap.size (w.heap.size + 1) k f z3) := HT2.out.below hb
    have Z3 : Hid (Below w.heap.size w z3) := Z2.out.trans (hb.mono Z2.out.size)
    clear hb
    go_simp
    refine hK.out _ _ ?_ (fun _ => ?_)
    · exact HT3.out
    clear hK K
    try simp only [Act.put, List.setIfInBounds_toArray, List.set_cons_zero, List.set_cons_succ]
    refine wpAnyH_take (i := 10) (oi := ⟨some 21, _, _, _, _, _⟩) (v := .int .u64 (fl k f.key l n)) rfl (by kernel_rfl) (by kernel_rfl) (by kernel_rfl) (fun _ _ _ h => h) (Or.inl ⟨by rfl, ?_⟩) HT3.out ?_
    · (intro W hSW; clear hSW; go_simp)
    try simp only [Act.put, List.setIfInBounds_toArray, List.set_cons_zero, List.set_cons_succ]
    refine wpAnyH_take (i := 11) (oi := ⟨some 22, _, _, _, _, _⟩) (v := .int .i64 (fl k f.key l n)) rfl (by kernel_rfl) (by kernel_rfl) (by kernel_rfl) (fun _ _ _ h => h) (Or.inl ⟨by rfl, ?_⟩) HT3.out ?_
    · (intro W hSW; clear hSW; go_simp)
    try simp only [Act.put, List.setIfInBounds_toArray, List.set_cons_zero, List.set_cons_succ]
    refine wpAnyH_take (i := 12) (oi := ⟨some 8, _, _, _, _, _⟩) (v := ?_) rfl (by kernel_rfl) (by kernel_rfl) (by kernel_rfl) (fun _ _ _ h => h) (Or.inl ⟨by rfl, ?_⟩) HT3.out ?_
    rotate_left
    · (intro W hSW; clear hSW; go_simp)
      first | done | (with_reducible rfl)
    try simp only [Act.put, List.setIfInBounds_toArray, List.set_cons_zero, List.set_cons_succ]
    refine wpAnyH_done (by kernel_rfl) ?_ _
    go_wp2
    go_ret
    exact ⟨rfl, Z3.out⟩
  · go_simp
    have HS1 : Hid (Two w.heap.size (w.heap.size + 1) k f (y.alloc (.cells #[.int .u8 ((l : Nat) : Int)] 5))) := HS0.out.below ((Below.refl _ _).alloc (Nat.le_refl _) _)
    have X1 : Hid (Below w.heap.size w (y.alloc (.cells #[.int .u8 ((l : Nat) : Int)] 5))) := X0.out.alloc X0.out.size _
    have B1 : Hid (Byts (y.alloc (.cells #[.int .u8 ((l : Nat) : Int)] 5)) (some ⟨y.heap.size, 0, none⟩) 1 [(l : Int)]) := Byts.of_all (Blk.new y 5 (cel [(l : Int)])) rfl
    refine hK.out _ _ ?_ (fun _ => ?_)
    · exact HS1.out
    clear hK K
    try simp only [Act.put, List.setIfInBounds_toArray, List.set_cons_zero, List.set_cons_succ]
    generalize (y.alloc (.cells #[.int .u8 ((l : Nat) : Int)] 5)) = z1 at *
    refine wpAnyH_ready (rs := [2]) (by kernel_rfl) (by simp) ?_
    refine AllReadyH.cons (o := ⟨some 13, _, _, _, _, _⟩) rfl (fun K hK => ?_) AllReadyH.nil
    go_simp
    refine (CK.out _).mono ?_
    rintro e z ⟨A, c, rfl, hb, hy⟩
    have HT : Hid (Two w.heap.size (w.heap.size + 1) k f z) := HS1.out.below hb
    have Z : Hid (Below w.heap.size w z) := X1.out.trans (hb.mono X1.out.size)
    have O := Lib.hid hy
    have B : Hid (Byts z (some ⟨y.heap.size, 0, none⟩) 1 [(l : Int)]) := B1.out.below hb
    have hg : w.heap.size + 1 < z1.heap.size := HS1.out.2.lt
    have hbz := hb.size
    clear hb hy
    go_simp
    refine hK.out _ _ ?_ (fun _ => ?_)
    · exact HT.out
    clear hK K
    try simp only [Act.put, List.setIfInBounds_toArray, List.set_cons_zero, List.set_cons_succ]
    obtain ⟨q, hq⟩ : ∃ q : Option Addr, (some ⟨y.heap.size, 0, none⟩ : Option Addr) = q := ⟨_, rfl⟩
    rw [hq] at B ⊢
    obtain ⟨base, hba⟩ : ∃ base, z1.heap.size = base := ⟨_, rfl⟩
    rw [hba] at O hbz hg
    have hbase : w.heap.size ≤ base := by omega
    clear hq hba B1 HS1 X1 HS0 X0
    refine wpAnyH_ready (rs := [6]) (by kernel_rfl) (by simp) ?_
    refine AllReadyH.cons (o := ⟨some 17, _, _, _, _, _⟩) rfl (fun K hK => ?_) AllReadyH.nil
    refine step_app rfl (.tmp 13) (.tmp 16) rfl base (.slice A f.key.length c) f.key.length f.key rfl O.out q 1 1 [(l : Int)] rfl B.out (f.key.length + 1) rfl (f.key ++ [(l : Int)]) rfl (by have := LK.out; omega) hbz ?_
    intro A2 c2 z2 O2 G2
    have Z2 : Hid (Below w.heap.size w z2) := Z.out.grown G2.out Z.out.size (fun j e => Nat.le_trans hbase (O.out.lt j e).1)
    have HT2 : Hid (Two w.heap.size (w.heap.size + 1) k f z2) := ⟨HT.out.1.grown G2.out (fun e => by have := (O.out.lt _ e).1; omega), HT.out.2.grown G2.out (fun e => by have := (O.out.lt _ e).1; omega)⟩
    have Y2 : Hid (summ.Vals z2 A2 (f.key.length + 1) (summ.cel (nats f.key ++ [l]))) := by
      have := (Byts.of_own O2.out).vals OL.out
      rw [EN.out] at this
      exact this
    clear O2 G2 O B Z HT
    refine hK.out _ _ ?_ (fun _ => ?_)
    · exact HT2.out
    clear hK K
    try simp only [Act.put, List.setIfInBounds_toArray, List.set_cons_zero, List.set_cons_succ]
    refine wpAnyH_ready (rs := [7]) (by kernel_rfl) (by simp) ?_
    refine AllReadyH.cons (o := ⟨some 18, _, _, _, _, _⟩) rfl (fun K hK => ?_) AllReadyH.nil
    go_simp
    refine (summ.ref_sum k A2 (f.key.length + 1) c2 (nats f.key ++ [l]) _ HK.out H16.out Y2.out (by have := LK.out; omega) (by rw [← EN.out]; exact nats_octs OL.out)).mono ?_
    rintro e z3 ⟨rfl, hb⟩
    have HT3 : Hid (Two w.heap.size (w.heap.size + 1) k f z3) := HT2.out.below hb
    have Z3 : Hid (Below w.heap.size w z3) := Z2.out.trans (hb.mono Z2.out.size)
    clear hb
    go_simp
    refine hK.out _ _ ?_ (fun _ => ?_)
    · exact HT3.out
    clear hK K
    try simp only [Act.put, List.setIfInBounds_toArray, List.set_cons_zero, List.set_cons_succ]
    refine wpAnyH_take (i := 10) (oi := ⟨some 21, _, _, _, _, _⟩) (v := .int .u64 (fl k f.key l n)) rfl (by kernel_rfl) (by kernel_rfl) (by kernel_rfl) (fun _ _ _ h => h) (Or.inl ⟨by rfl, ?_⟩) HT3.out ?_
    · (intro W hSW; clear hSW; go_simp)
    try simp only [Act.put, List.setIfInBounds_toArray, List.set_cons_zero, List.set_cons_succ]
    refine wpAnyH_take (i := 11) (oi := ⟨some 22, _, _, _, _, _⟩) (v := .int .i64 (fl k f.key l n)) rfl (by kernel_rfl) (by kernel_rfl) (by kernel_rfl) (fun _ _ _ h => h) (Or.inl ⟨by rfl, ?_⟩) HT3.out ?_
    · (intro W hSW; clear hSW; go_simp)
    try simp only [Act.put, List.setIfInBounds_toArray, List.set_cons_zero, List.set_cons_succ]
    refine wpAnyH_take (i := 12) (oi := ⟨some 8, _, _, _, _, _⟩) (v := ?_) rfl (by kernel_rfl) (by kernel_rfl) (by kernel_rfl) (fun _ _ _ h => h) (Or.inl ⟨by rfl, ?_⟩) HT3.out ?_
    rotate_left
    · (intro W hSW; clear hSW; go_simp)
      first | done | (with_reducible rfl)
    try simp only [Act.put, List.setIfInBounds_toArray, List.set_cons_zero, List.set_cons_succ]
    refine wpAnyH_done (by kernel_rfl) ?_ _
    go_wp2
    go_ret
    exact ⟨rfl, Z3.out⟩

/-- Whatever number there are. -/
theorem refFall_any (k : List Nat) (f : Flo) (l : Nat) (n : Int) (w : World) (hk : summ.Octs k) (h16 : k.length = 16) (hf : f.Ok) (hl : l ≤ 255) (hn : n ≤ 9223372036854775807) :
    Calls Try.prog 35 #[.agg (summ.cel k).toArray, .agg f.cells.toArray, .int .i64 ((l : Nat) : Int), .int .i64 n] w (NumOut w (fl k f.key l n)) := by
  by_cases h1 : n < 1
  · rw [fl_none h1]
    exact refFall_none k f l n w h1
  · exact refFall_some k f l n w hk h16 hf hl (by omega) hn
theorem refFall_zero (k : List Nat) (f : Flo) (n : Int) (w : World) (hk : summ.Octs k) (h16 : k.length = 16) (hf : f.Ok) (hn : n ≤ 9223372036854775807) :
    Calls Try.prog 35 #[.agg (summ.cel k).toArray, .agg f.cells.toArray, .int .i64 0, .int .i64 n] w (NumOut w (fl k f.key 0 n)) := refFall_any k f 0 n w hk h16 hf (by decide) hn
/-- A key, a flow out of their blocks. -/
theorem wpList_key {ops : Array Oper} {rest : List Oper} {o : Oper} {a : Act} {w : World} {Q : Exit → Act → World → Prop} (hgd : o.guard = none) (x : Operand) (ho : o.op = .load 22 x)
    (g : Nat) (hx : a.eval x = .pointer (some ⟨g, 0, none⟩)) (k : List Nat) (hb : Blk w g 22 (summ.cel k)) (h16 : k.length = 16)
    (h : wpList Try.prog ops Q rest (a.put o.dst (.agg (summ.cel k).toArray)) w) : wpList Try.prog ops Q (o :: rest) a w := summ.wpList_key hgd x ho g hx k hb h16 h
theorem wpList_flo {ops : Array Oper} {rest : List Oper} {o : Oper} {a : Act} {w : World} {Q : Exit → Act → World → Prop} (hgd : o.guard = none) (x : Operand) (ho : o.op = .load 45 x)
    (g : Nat) (hx : a.eval x = .pointer (some ⟨g, 0, none⟩)) (f : Flo) (hb : Blk w g 45 f.cells) (hf : f.cells.length = 36)
    (h : wpList Try.prog ops Q rest (a.put o.dst (.agg f.cells.toArray)) w) : wpList Try.prog ops Q (o :: rest) a w := wpList_whole_flow (by simp [Region.wanted, hgd]) x ho g hx f.cells hb hf h

set_option maxRecDepth 100000 in
set_option maxHeartbeats 2000000 in
theorem refBucket_any (k : List Nat) (f : Flo) (n : Int) (w : World) (hk : summ.Octs k) (h16 : k.length = 16) (hf : f.Ok) (hn : n ≤ 9223372036854775807) :
    Calls Try.prog 30 #[.agg (summ.cel k).toArray, .agg f.cells.toArray, .int .i64 n] w (NumOut w (fl k f.key 0 n)) := by
  have T1 : Hid (Two w.heap.size (w.heap.size + 1) k f ((w.alloc (.cells (summ.cel k).toArray 22)).alloc (.cells f.cells.toArray 45))) := Two.new w k f
  have V0 : Hid (Below w.heap.size w ((w.alloc (.cells (summ.cel k).toArray 22)).alloc (.cells f.cells.toArray 45))) := below_two w _ _
  have LF := Lib.hid hf.cells_length
  have H16 := Lib.hid h16
  have CF := Lib.hid (fun W => refFall_zero k f n W hk h16 hf hn)
  clear hf hk h16 hn
  go_enter Try.func30, Try.ntmps30
  go_upto_region 1 with (fail)
  generalize ((w.alloc (.cells (summ.cel k).toArray 22)).alloc (.cells f.cells.toArray 45)) = w1 at *
  go_wp2_with (first | (refine wpList_key rfl (.tmp 3) rfl w.heap.size rfl k T1.out.1 H16.out ?_) | (refine wpList_flo rfl (.tmp 4) rfl (w.heap.size + 1) rfl f T1.out.2 LF.out ?_) | (go_at_call 35; (with_reducible refine (CF.out _).mono ?_); rintro e w2 ⟨rfl, hb⟩; have V2 : Hid (Below w.heap.size w w2) := V0.out.trans (hb.mono V0.out.size); clear hb))
  go_ret
  exact ⟨rfl, V2.out⟩
end Go.Proofs.Ytfhlgmmfknfamaa.kd
