/- The contracts of the leaves: how many bytes a kind has; a copy of bytes; Out and In that are nil. Conditions: those of each theorem. -/
import Derived.Test.YtgbnpfaplaolcaaRows
import Derived.Test.YtgbnpfaplaolcaaMem
import Derived.WalkKit
import Derived.WalkSpells
import Derived.WalkLawsBesides
import Derived.ProofKit
import Derived.OpenShut
import Derived.Deep.OwnRows
import Derived.Laws.BitsAllLaws
namespace Go.Proofs.Ytgbnpfaplaolcaa
open Go.RowKit

theorem ret_int {k : IntKind} {a b : Int} (h : a = b) : Ending.returned (.int k a) = .returned (.int k b) := by rw [h]
theorem info5 : (Try.prog.info? 5).map (fun i => (i.zero, i.size, i.bytes)) = some (some (.int .u8 0), 1, 1) := by kernel_rfl
theorem size5 : (Try.prog.info? 5).map (·.size) = some 1 := by kernel_rfl

/-- How many bytes a kind has. -/
def manyF (k : Nat) : Nat := if k % 4 = 0 then 1 else if k % 4 = 1 then 2 else if k % 4 = 2 then 4 else 8

set_option maxHeartbeats 400000 in
theorem many_any (k : Nat) (w : World) (hk : k ≤ 255) : Calls Try.prog 9 #[.int .u8 k] w fun e w' => e = .returned (.int .i64 (manyF k)) ∧ w = w' := by
  have e : wrap64 (2 ^ (k % 4)) = ((manyF k : Nat) : Int) := by
    have h4 : k % 4 = 0 ∨ k % 4 = 1 ∨ k % 4 = 2 ∨ k % 4 = 3 := by omega
    unfold manyF
    rcases h4 with h | h | h | h <;> rw [h] <;> simp [wrap64]
  have E := Lib.hid e
  clear e
  go_enter Try.func9, Try.ntmps9
  go_wp2
  go_ret
  exact ⟨ret_int E.out, rfl⟩

set_option maxHeartbeats 400000 in
theorem copied_any (A : Option Addr) (n c : Nat) (bs : List Int) (w : World) (hn : n ≤ 1000000) (h : Byts w A n bs) :
    Calls Try.prog 28 #[.slice A n c] w fun e w' => e = .returned (.slice (some ⟨w.heap.size, 0, none⟩) n n) ∧ w.alloc (.cells (cel bs).toArray 5) = w' := by
  have hmk := fun W => run_make_row' (P := Try.prog) 23 5 (.int .u8 0) 1 Try.underlying23 info5 rfl .i64 .i64 n (by omega) (by omega) W
  have hcp := fun ty => run_copied (P := Try.prog) w 23 5 ty A n c bs Try.underlying23 size5 h
  have H := Lib.hid h
  clear h
  go_enter Try.func28, Try.ntmps28
  go_wp2
  go_ret
  exact ⟨rfl, rfl⟩

/-- append of bytes onto an own row, as a step of the walk. -/
theorem wpList_app {w : World} {ops : Array Oper} {rest : List Oper} {o : Oper} {a : Act} {Q : Exit → Act → World → Prop} (hgd : o.guard = none) (s x : Operand)
    (ho : o.op = .call { callee := .builtin .append, args := #[s, x], argTypes := #[23, 23] })
    (base : Nat) (v : Value) (n : Nat) (xs : List Int) (hs : a.eval s = v) (hown : w.ownsRow base 5 1 v n (cel xs))
    (A : Option Addr) (m c : Nat) (bs : List Int) (hx : a.eval x = .slice A m c) (h : Byts w A m bs) (hn : n + m ≤ 1000000) (hb : base ≤ w.heap.size)
    (hK : ∀ A' c' w', Hid (w'.ownsRow base 5 1 (.slice A' (n + m) c') (n + m) (cel (xs ++ bs))) → Hid (w.grownBy w' v.ownBlock) → Hid ((Value.slice A' (n + m) c').ownBlock = v.ownBlock ∨ (Value.slice A' (n + m) c').ownBlock = some w.heap.size) →
      wpList Try.prog ops Q rest (a.put o.dst (.slice A' (n + m) c')) w') : wpList Try.prog ops Q (o :: rest) a w := by
  refine wpList_plain hgd fun K hK' => ?_
  obtain ⟨v', w', hrun, h2, h3, h4⟩ := run_append_bytes (P := Try.prog) w base 23 o.type 5 Try.underlying23 info5 v n xs hown A m c bs h hn hb
  obtain ⟨A', c', rfl, _⟩ := Byts.of_row h2
  unfold Oper.wp
  simp [execOp, ho, resolve, invoke, builtin, hs, hx, hrun, Result.andThen]
  exact hK' _ _ (hK A' c' w' h2 h3 h4)

/-- An Out at block g, whose bytes lie in block r, if there is one. -/
def OutAt (w : World) (base g : Nat) (r : Option Nat) (bs : List Int) : Prop :=
  ∃ A c, Blk w g 26 [.slice A bs.length c] ∧ w.ownsRow base 5 1 (.slice A bs.length c) bs.length (cel bs) ∧ (Value.slice A bs.length c).ownBlock = r
/-- What putting into it may turn. -/
def outS (g : Nat) (r : Option Nat) : Nat → Prop := fun k => k = g ∨ r = some k
/-- What has become of it. -/
def OutPost (w : World) (base g : Nat) (r : Option Nat) (bs : List Int) (w' : World) : Prop :=
  ∃ r', OutAt w' base g r' bs ∧ Far (outS g r) w w' ∧ (r' = r ∨ ∃ k, r' = some k ∧ w.heap.size ≤ k)

theorem out_put {w w1 w' : World} {base g : Nat} {r : Option Nat} {bs news : List Int} {A A' : Option Addr} {c c' m : Nat} (hg : Blk w1 g 26 [.slice A bs.length c]) (ho : w1.ownsRow base 5 1 (.slice A bs.length c) bs.length (cel bs))
    (hr : (Value.slice A bs.length c).ownBlock = r) (hf : Far (outS g r) w w1) (hm : news.length = m) (h1 : w'.ownsRow base 5 1 (.slice A' (bs.length + m) c') (bs.length + m) (cel (bs ++ news)))
    (h2 : w1.grownBy w' (Value.slice A bs.length c).ownBlock) (h3 : (Value.slice A' (bs.length + m) c').ownBlock = (Value.slice A bs.length c).ownBlock ∨ (Value.slice A' (bs.length + m) c').ownBlock = some w1.heap.size) :
    OutPost w base g r (bs ++ news) (w'.setCell ⟨g, 0, none⟩ (.slice A' (bs.length + m) c')) := by
  have hl : (bs ++ news).length = bs.length + m := by simp [hm]
  have hb' : Blk w' g 26 [.slice A bs.length c] := hg.grown h2 (hg.row_apart ho (by decide))
  have hne : (Value.slice A' (bs.length + m) c').ownBlock ≠ some g := hb'.row_apart h1 (by decide)
  refine ⟨(Value.slice A' (bs.length + m) c').ownBlock, ⟨A', c', ?_, ?_, ?_⟩, ?_, ?_⟩
  · rw [hl]; exact hb'.set_ 0 _
  · rw [hl]
    exact (Far.set_ (S := fun k => k = g) (Far.refl _ _) (fun _ => rfl) _).row h1 (fun k hk e => hne (by rw [hk, e]))
  · rw [hl]
  · refine (hf.grown h2 (fun k hk _ => .inr (hr ▸ hk))).set_ (fun _ => .inl rfl) _
  · rcases h3 with h | h
    · exact .inl (h.trans hr)
    · exact .inr ⟨_, h, hf.size⟩

set_option maxHeartbeats 400000 in
theorem outU8_any (base g : Nat) (r : Option Nat) (bs : List Int) (x : Int) (w : World) (h : OutAt w base g r bs) (hn : bs.length ≤ 100000) (hb : base ≤ w.heap.size) :
    Calls Try.prog 11 #[.pointer (some ⟨g, 0, none⟩), .int .u8 x] w fun e w' => e = .returned (.tuple #[]) ∧ OutPost w base g r (bs ++ [x]) w' := by
  obtain ⟨A, c, hg, ho, hr⟩ := h
  have hgl := hg.lt
  have hc0 : w.cell? ⟨g, 0, none⟩ = some (.slice A bs.length c) := hg.cell 0
  have hne : w.heap.size ≠ g := by omega
  have HG := Lib.hid hg
  have HO := Lib.hid ho
  have HR := Lib.hid hr
  clear hg ho hr
  go_enter Try.func11, Try.ntmps11
  go_wp2_with (at_builtin; refine wpList_app rfl (.tmp 10) (.tmp 12) rfl base (.slice A bs.length c) bs.length bs rfl (by exact HO.out.alloc _) (some ⟨w.heap.size, 0, none⟩) 1 1 [x] rfl (by exact Byts.of_blk (bs := [x]) (Blk.new w 5 (cel [x])) 0 (by simp)) (by omega) (by simp; omega) ?_; intro A' c' w' H1 H2 H3; have hB := (HG.out.alloc _).grown H2.out (HG.out.row_apart HO.out (by decide)); have hc1 : w'.cell? ⟨g, 0, none⟩ = some (.slice A bs.length c) := hB.cell 0; have hf1 := hB.frozen 0; clear hB)
  go_end0
  exact ⟨rfl, out_put (HG.out.alloc _) (HO.out.alloc _) HR.out ((Far.refl _ _).alloc _) rfl H1.out H2.out H3.out⟩

set_option maxHeartbeats 400000 in
theorem outU8_nil (x : Int) (w : World) : Calls Try.prog 11 #[.pointer none, .int .u8 x] w fun e w' => e = .returned (.tuple #[]) ∧ w = w' := by
  go_enter Try.func11, Try.ntmps11
  go_wp2
  refine bodyPost_ret (results_none rfl _ _ _) rfl ?_
  exact ⟨rfl, rfl⟩

theorem OutPost.behind {w w1 w2 : World} {base g : Nat} {r r1 : Option Nat} {bs : List Int} (hf : Far (outS g r) w w1) (hr : r1 = r ∨ ∃ k, r1 = some k ∧ w.heap.size ≤ k) (h : OutPost w1 base g r1 bs w2) : OutPost w base g r bs w2 := by
  obtain ⟨r2, h1, h2, h3⟩ := h
  refine ⟨r2, h1, hf.trans h2 (fun i hi hs => ?_), ?_⟩
  · rcases hs with hs | hs
    · exact .inl hs
    · rcases hr with rfl | ⟨k, rfl, hk⟩
      · exact .inr hs
      · injection hs with hs; omega
  · rcases h3 with rfl | ⟨k, rfl, hk⟩
    · exact hr
    · exact .inr ⟨k, rfl, Nat.le_trans hf.size hk⟩

set_option maxHeartbeats 400000 in
theorem outU16_any (base g : Nat) (r : Option Nat) (bs : List Int) (x : Int) (w : World) (h : OutAt w base g r bs) (hn : bs.length ≤ 90000) (hb : base ≤ w.heap.size) (h0 : 0 ≤ x) (hm : x < 65536) :
    Calls Try.prog 12 #[.pointer (some ⟨g, 0, none⟩), .int .u16 x] w fun e w' => e = .returned (.tuple #[]) ∧ OutPost w base g r (bs ++ numB x.toNat 2) w' := by
  have H := Lib.hid h
  clear h
  go_enter Try.func12, Try.ntmps12
  go_wp2_with fail
  refine (outU8_any base g r bs _ _ H.out (by omega) hb).mono ?_
  rintro e w1 ⟨rfl, r1, ho, hf, hr⟩
  have hb1 : base ≤ w1.heap.size := Nat.le_trans hb hf.size
  have HO := Lib.hid ho
  have HF := Lib.hid hf
  have HR := Lib.hid hr
  clear ho hf hr
  go_wp2_with fail
  refine (outU8_any base g r1 _ _ _ HO.out (by simp; omega) hb1).mono ?_
  rintro e w2 ⟨rfl, hp⟩
  have HP := Lib.hid hp
  clear hp
  go_wp2
  go_end0
  refine ⟨rfl, ?_⟩
  have := HP.out.behind HF.out HR.out
  rw [List.append_assoc] at this
  have e : [x / 256] ++ [x % 256] = numB x.toNat 2 := by simp [numB]; omega
  rwa [e] at this

set_option maxHeartbeats 400000 in
theorem outU32_any (base g : Nat) (r : Option Nat) (bs : List Int) (x : Int) (w : World) (h : OutAt w base g r bs) (hn : bs.length ≤ 80000) (hb : base ≤ w.heap.size) (h0 : 0 ≤ x) (hm : x < 4294967296) :
    Calls Try.prog 13 #[.pointer (some ⟨g, 0, none⟩), .int .u32 x] w fun e w' => e = .returned (.tuple #[]) ∧ OutPost w base g r (bs ++ numB x.toNat 4) w' := by
  have H := Lib.hid h
  clear h
  go_enter Try.func13, Try.ntmps13
  go_wp2_with fail
  refine (outU16_any base g r bs _ _ H.out (by omega) hb (by omega) (by omega)).mono ?_
  rintro e w1 ⟨rfl, r1, ho, hf, hr⟩
  have hb1 : base ≤ w1.heap.size := Nat.le_trans hb hf.size
  have HO := Lib.hid ho
  have HF := Lib.hid hf
  have HR := Lib.hid hr
  clear ho hf hr
  go_wp2_with fail
  rw [IntKind.wrap_u16]
  refine (outU16_any base g r1 _ _ _ HO.out (by simp [numB_length]; omega) hb1 (by omega) (by omega)).mono ?_
  rintro e w2 ⟨rfl, hp⟩
  have HP := Lib.hid hp
  clear hp
  go_wp2
  go_end0
  refine ⟨rfl, ?_⟩
  have := HP.out.behind HF.out HR.out
  rw [List.append_assoc] at this
  have e : numB (x / 65536).toNat 2 ++ numB (x % 65536).toNat 2 = numB x.toNat 4 := by
    rw [← numB_4, show (x / 65536).toNat = x.toNat / 65536 % 65536 by omega, show (x % 65536).toNat = x.toNat % 65536 by omega]
  rwa [e] at this

set_option maxHeartbeats 400000 in
theorem outU64_any (base g : Nat) (r : Option Nat) (bs : List Int) (x : Int) (w : World) (h : OutAt w base g r bs) (hn : bs.length ≤ 70000) (hb : base ≤ w.heap.size) (h0 : 0 ≤ x) (hm : x < 18446744073709551616) :
    Calls Try.prog 14 #[.pointer (some ⟨g, 0, none⟩), .int .u64 x] w fun e w' => e = .returned (.tuple #[]) ∧ OutPost w base g r (bs ++ numB x.toNat 8) w' := by
  have H := Lib.hid h
  clear h
  go_enter Try.func14, Try.ntmps14
  go_wp2_with fail
  refine (outU32_any base g r bs _ _ H.out (by omega) hb (by omega) (by omega)).mono ?_
  rintro e w1 ⟨rfl, r1, ho, hf, hr⟩
  have hb1 : base ≤ w1.heap.size := Nat.le_trans hb hf.size
  have HO := Lib.hid ho
  have HF := Lib.hid hf
  have HR := Lib.hid hr
  clear ho hf hr
  go_wp2_with fail
  refine (outU32_any base g r1 _ _ _ HO.out (by simp [numB_length]; omega) hb1 (by omega) (by omega)).mono ?_
  rintro e w2 ⟨rfl, hp⟩
  have HP := Lib.hid hp
  clear hp
  go_wp2
  go_end0
  refine ⟨rfl, ?_⟩
  have := HP.out.behind HF.out HR.out
  rw [List.append_assoc] at this
  have e : numB (x / 4294967296).toNat 4 ++ numB (x % 4294967296).toNat 4 = numB x.toNat 8 := by
    rw [← numB_8, show (x / 4294967296).toNat = x.toNat / 4294967296 % 4294967296 by omega, show (x % 4294967296).toNat = x.toNat % 4294967296 by omega]
  rwa [e] at this

set_option maxHeartbeats 400000 in
theorem outU16_nil (x : Int) (w : World) : Calls Try.prog 12 #[.pointer none, .int .u16 x] w fun e w' => e = .returned (.tuple #[]) ∧ w = w' := by
  go_enter Try.func12, Try.ntmps12
  go_wp2_with (go_at_call 11; (with_reducible refine (outU8_nil _ _).mono ?_); rintro e w' ⟨rfl, rfl⟩)
  go_end0
  exact ⟨rfl, rfl⟩

set_option maxHeartbeats 400000 in
theorem outU32_nil (x : Int) (w : World) : Calls Try.prog 13 #[.pointer none, .int .u32 x] w fun e w' => e = .returned (.tuple #[]) ∧ w = w' := by
  go_enter Try.func13, Try.ntmps13
  go_wp2_with (go_at_call 12; (with_reducible refine (outU16_nil _ _).mono ?_); rintro e w' ⟨rfl, rfl⟩)
  go_end0
  exact ⟨rfl, rfl⟩

set_option maxHeartbeats 400000 in
theorem outU64_nil (x : Int) (w : World) : Calls Try.prog 14 #[.pointer none, .int .u64 x] w fun e w' => e = .returned (.tuple #[]) ∧ w = w' := by
  go_enter Try.func14, Try.ntmps14
  go_wp2_with (go_at_call 13; (with_reducible refine (outU32_nil _ _).mono ?_); rintro e w' ⟨rfl, rfl⟩)
  go_end0
  exact ⟨rfl, rfl⟩

set_option maxHeartbeats 400000 in
theorem outRaw_any (base g : Nat) (r : Option Nat) (bs news : List Int) (A : Option Addr) (n c : Nat) (w : World) (h : OutAt w base g r bs) (hn : bs.length ≤ 90000) (hm : n ≤ 90000) (hb : base ≤ w.heap.size) (hw : Byts w A n news) :
    Calls Try.prog 15 #[.pointer (some ⟨g, 0, none⟩), .slice A n c] w fun e w' => e = .returned (.tuple #[]) ∧ OutPost w base g r (bs ++ news) w' := by
  obtain ⟨A0, c0, hg, ho, hr⟩ := h
  have hc0 : w.cell? ⟨g, 0, none⟩ = some (.slice A0 bs.length c0) := hg.cell 0
  have HG := Lib.hid hg
  have HO := Lib.hid ho
  have HR := Lib.hid hr
  have HW := Lib.hid hw
  clear hg ho hr hw
  go_enter Try.func15, Try.ntmps15
  go_wp2_with (at_builtin; refine wpList_app rfl (.tmp 10) (.tmp 11) rfl base (.slice A0 bs.length c0) bs.length bs rfl (by exact HO.out) A n c news rfl (by exact HW.out) (by omega) (by exact hb) ?_; intro A' c' w' H1 H2 H3; have hB := HG.out.grown H2.out (HG.out.row_apart HO.out (by decide)); have hc1 : w'.cell? ⟨g, 0, none⟩ = some (.slice A0 bs.length c0) := hB.cell 0; have hf1 := hB.frozen 0; clear hB)
  go_end0
  exact ⟨rfl, out_put HG.out HO.out HR.out (Far.refl _ _) HW.out.1 H1.out H2.out H3.out⟩

set_option maxHeartbeats 400000 in
theorem outRaw_nil (A : Option Addr) (n c : Nat) (w : World) : Calls Try.prog 15 #[.pointer none, .slice A n c] w fun e w' => e = .returned (.tuple #[]) ∧ w = w' := by
  go_enter Try.func15, Try.ntmps15
  go_wp2
  refine bodyPost_ret (results_none rfl _ _ _) rfl ?_
  exact ⟨rfl, rfl⟩

set_option maxHeartbeats 400000 in
theorem outBytes_any (base g : Nat) (r : Option Nat) (bs : List Int) (w : World) (h : OutAt w base g r bs) (hn : bs.length ≤ 1000000) :
    Calls Try.prog 16 #[.pointer (some ⟨g, 0, none⟩)] w fun e w' => e = .returned (.slice (some ⟨w.heap.size, 0, none⟩) bs.length bs.length) ∧ w.alloc (.cells (cel bs).toArray 5) = w' := by
  obtain ⟨A0, c0, hg, ho, hr⟩ := h
  have hc0 : w.cell? ⟨g, 0, none⟩ = some (.slice A0 bs.length c0) := hg.cell 0
  have hw : Byts w A0 bs.length bs := by
    obtain ⟨A1, c1, e, _, _, h, _⟩ := Byts.of_row ho
    cases e
    exact h
  have HW := Lib.hid hw
  clear hg ho hr hw
  go_enter Try.func16, Try.ntmps16
  go_wp2_with (go_at_call 28; (with_reducible refine (copied_any _ _ _ bs _ (by omega) HW.out).mono ?_); rintro e w' ⟨rfl, rfl⟩)
  go_ret
  exact ⟨rfl, rfl⟩

set_option maxHeartbeats 400000 in
theorem outBytes_nil (w : World) : Calls Try.prog 16 #[.pointer none] w fun e w' => e = .returned (.slice none 0 0) ∧ w = w' := by
  go_enter Try.func16, Try.ntmps16
  go_wp2
  go_ret
  exact ⟨rfl, rfl⟩
end Go.Proofs.Ytgbnpfaplaolcaa
