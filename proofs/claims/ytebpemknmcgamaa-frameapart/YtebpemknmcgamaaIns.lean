/- The contracts of cursor's In that ether calls: New, Raw, U16, Bad, Left; append of bytes onto an own row. Conditions: those of each theorem. -/
import Derived.Test.YtebpemknmcgamaaRows
import Derived.Test.YtebpemknmcgamaaMem
import Derived.WalkKit
import Derived.WalkSpells
import Derived.WalkLawsBesides
import Derived.ProofKit
import Derived.OpenShut
import Derived.Deep.OwnRows
import Derived.Laws.BitsAllLaws
namespace Go.Proofs.Ytebpemknmcgamaa
open Go.RowKit

theorem ret_int {k : IntKind} {a b : Int} (h : a = b) : Ending.returned (.int k a) = .returned (.int k b) := by rw [h]
theorem info5 : (Try.prog.info? 5).map (fun i => (i.zero, i.size, i.bytes)) = some (some (.int .u8 0), 1, 1) := by kernel_rfl
theorem size5 : (Try.prog.info? 5).map (·.size) = some 1 := by kernel_rfl

set_option maxHeartbeats 400000 in
theorem copied_any (A : Option Addr) (n c : Nat) (bs : List Int) (w : World) (hn : n ≤ 1000000) (h : Byts w A n bs) :
    Calls Try.prog 38 #[.slice A n c] w fun e w' => e = .returned (.slice (some ⟨w.heap.size, 0, none⟩) n n) ∧ w.alloc (.cells (cel bs).toArray 5) = w' := by
  have hmk := fun W => run_make_row' (P := Try.prog) 22 5 (.int .u8 0) 1 Try.underlying22 info5 rfl .i64 .i64 n (by omega) (by omega) W
  have hcp := fun ty => run_copied (P := Try.prog) w 22 5 ty A n c bs Try.underlying22 size5 h
  have H := Lib.hid h
  clear h
  go_enter Try.func38, Try.ntmps38
  go_wp2
  go_ret
  exact ⟨rfl, rfl⟩

/-- append of bytes onto an own row, as a step of the walk. -/
theorem wpList_app {w : World} {ops : Array Oper} {rest : List Oper} {o : Oper} {a : Act} {Q : Exit → Act → World → Prop} (hgd : o.guard = none) (s x : Operand)
    (ho : o.op = .call { callee := .builtin .append, args := #[s, x], argTypes := #[22, 22] })
    (base : Nat) (v : Value) (n : Nat) (xs : List Int) (hs : a.eval s = v) (hown : w.ownsRow base 5 1 v n (cel xs))
    (A : Option Addr) (m c : Nat) (bs : List Int) (hx : a.eval x = .slice A m c) (h : Byts w A m bs) (hn : n + m ≤ 1000000) (hb : base ≤ w.heap.size)
    (hK : ∀ A' c' w', Hid (w'.ownsRow base 5 1 (.slice A' (n + m) c') (n + m) (cel (xs ++ bs))) → Hid (w.grownBy w' v.ownBlock) → Hid ((Value.slice A' (n + m) c').ownBlock = v.ownBlock ∨ (Value.slice A' (n + m) c').ownBlock = some w.heap.size) →
      wpList Try.prog ops Q rest (a.put o.dst (.slice A' (n + m) c')) w') : wpList Try.prog ops Q (o :: rest) a w := by
  refine wpList_plain hgd fun K hK' => ?_
  obtain ⟨v', w', hrun, h2, h3, h4⟩ := run_append_bytes (P := Try.prog) w base 22 o.type 5 Try.underlying22 info5 v n xs hown A m c bs h hn hb
  obtain ⟨A', c', rfl, _⟩ := Byts.of_row h2
  unfold Oper.wp
  simp [execOp, ho, resolve, invoke, builtin, hs, hx, hrun, Result.andThen]
  exact hK' _ _ (hK A' c' w' h2 h3 h4)

/-- Block g alone. -/
def only (g : Nat) : Nat → Prop := fun k => k = g
/-- An In at block g, whose bytes lie in block q, with the bytes bs left. -/
def InAt (w : World) (g q : Nat) (bad : Bool) (bs : List Int) : Prop :=
  ∃ A, Blk w g 83 [.slice A bs.length bs.length, .bool bad] ∧ Byts w A bs.length bs ∧ (∀ ad, A = some ad → ad.block = q) ∧ q < w.heap.size ∧ q ≠ g

theorem InAt.far {S : Nat → Prop} {w w' : World} {g q : Nat} {bad : Bool} {bs : List Int} (h : InAt w g q bad bs) (hf : Far S w w') (hg : ¬ S g) (hq : ¬ S q) : InAt w' g q bad bs := by
  obtain ⟨A, h1, h2, h3, h4, h5⟩ := h
  exact ⟨A, h1.far hf hg, h2.far hf (fun ad e => by rw [h3 ad e]; exact hq), h3, Nat.lt_of_lt_of_le h4 hf.size, h5⟩
theorem InAt.lt {w : World} {g q : Nat} {bad : Bool} {bs : List Int} (h : InAt w g q bad bs) : g < w.heap.size ∧ q < w.heap.size := by
  obtain ⟨A, h1, _, _, h4, _⟩ := h
  exact ⟨h1.lt, h4⟩

set_option maxHeartbeats 400000 in
theorem new_any (A : Option Addr) (n c : Nat) (bs : List Int) (w : World) (hn : n ≤ 1000000) (h : Byts w A n bs) :
    Calls Try.prog 26 #[.slice A n c] w fun e w' => e = .returned (.pointer (some ⟨w.heap.size + 1, 0, none⟩)) ∧ (w.alloc (.cells (cel bs).toArray 5)).alloc (.cells #[.slice (some ⟨w.heap.size, 0, none⟩) n n, .bool false] 83) = w' := by
  have H := Lib.hid h
  clear h
  go_enter Try.func26, Try.ntmps26
  go_wp2_with (go_at_call 38; (with_reducible refine (copied_any _ _ _ bs _ (by omega) H.out).mono ?_); rintro e w' ⟨rfl, rfl⟩)
  go_ret
  exact ⟨rfl, rfl⟩

theorem InAt.new (w : World) (bs : List Int) : InAt ((w.alloc (.cells (cel bs).toArray 5)).alloc (.cells #[.slice (some ⟨w.heap.size, 0, none⟩) bs.length bs.length, .bool false] 83)) (w.heap.size + 1) w.heap.size false bs := by
  refine ⟨_, by simpa using Blk.new (w.alloc (.cells (cel bs).toArray 5)) 83 [.slice (some ⟨w.heap.size, 0, none⟩) bs.length bs.length, .bool false], ?_, fun ad e => by cases e; rfl, by simp; omega, by omega⟩
  exact Byts.of_blk ((Blk.new w 5 (cel bs)).alloc _) 0 (Nat.zero_le _)

set_option maxHeartbeats 400000 in
theorem fail_any (g : Nat) (u v : Value) (w : World) (h : Blk w g 83 [u, v]) :
    Calls Try.prog 44 #[.pointer (some ⟨g, 0, none⟩)] w fun e w' => e = .returned (.tuple #[]) ∧ (w.setCell ⟨g, 0, none⟩ (.slice none 0 0)).setCell ⟨g, 1, none⟩ (.bool true) = w' := by
  have hc0 : w.cell? ⟨g, 0, none⟩ = some u := h.cell 0
  have hf0 := h.frozen 0
  have hc1 : w.cell? ⟨g, 1, none⟩ = some v := h.cell 1
  have hf1 := h.frozen 1
  have H := Lib.hid h
  clear h
  go_enter Try.func44, Try.ntmps44
  go_wp2
  go_end0
  exact ⟨rfl, rfl⟩

theorem InAt.failed {w : World} {g q : Nat} {bad : Bool} {bs : List Int} (h : InAt w g q bad bs) : InAt ((w.setCell ⟨g, 0, none⟩ (.slice none 0 0)).setCell ⟨g, 1, none⟩ (.bool true)) g q true [] ∧
    Far (only g) w ((w.setCell ⟨g, 0, none⟩ (.slice none 0 0)).setCell ⟨g, 1, none⟩ (.bool true)) := by
  obtain ⟨A, h1, h2, h3, h4, h5⟩ := h
  exact ⟨⟨none, (h1.set_ 0 _).set_ 1 _, Byts.none_, (fun ad e => by cases e), by simpa [World.setCell] using h4, h5⟩, ((Far.refl (only g) w).set_ (p := ⟨g, 0, none⟩) (fun _ => rfl) _).set_ (p := ⟨g, 1, none⟩) (fun _ => rfl) _⟩

/-- A call that fails leaves a bad one. -/
def BadPost (w : World) (g q : Nat) (w' : World) : Prop := InAt w' g q true [] ∧ Far (only g) w w'

theorem run_upto {A : Option Addr} {n c k : Nat} (W : World) (hk : k ≤ c) :
    (Instr.slice 22 (.slice A n c) none (some (.int .i64 k)) none).run Try.prog W = .ok (.slice A k c) W := by
  have h := run_slice_h (P := Try.prog) (w := W) 22 A n c (by kernel_rfl) .i64 (k : Int) (by omega) (by omega)
  rw [h]
  simp [sliced, go_sem]
theorem run_from {A : Option Addr} {n c k : Nat} (W : World) (hk : k ≤ n) :
    (Instr.slice 22 (.slice A n c) (some (.int .i64 k)) none none).run Try.prog W = .ok (.slice (if c = k then A else A.map (·.add k)) (n - k) (c - k)) W := by
  have h := run_slice_l (P := Try.prog) (w := W) 22 A n c (by kernel_rfl) .i64 (k : Int) (by omega) (by omega)
  rw [h]
  simp [sliced, go_sem]

/-- What a taking leaves. -/
def TakePost (w : World) (g q : Nat) (bad : Bool) (bs : List Int) (k : Nat) (e : Ending) (w' : World) : Prop :=
  ∃ A c, e = .returned (.slice A k c) ∧ Byts w' A k (bs.take k) ∧ InAt w' g q bad (bs.drop k) ∧ Far (only g) w w'

set_option maxHeartbeats 400000 in
theorem take_ok (g q : Nat) (bad : Bool) (bs : List Int) (x : Int) (k : Nat) (w : World) (h : InAt w g q bad bs) (hxk : x = k) (hk : k ≤ bs.length) :
    Calls Try.prog 39 #[.pointer (some ⟨g, 0, none⟩), .int .i64 x] w (TakePost w g q bad bs k) := by
  subst hxk
  obtain ⟨A, h1, h2, h3, h4, h5⟩ := h
  have hc0 : w.cell? ⟨g, 0, none⟩ = some (.slice A bs.length bs.length) := h1.cell 0
  have hf0 := h1.frozen 0
  have hnlt : decide (bs.length < k) = false := by simpa using hk
  have hu := fun W => run_upto (A := A) (n := bs.length) (c := bs.length) (k := k) W hk
  have hd := fun W => run_from (A := A) (n := bs.length) (c := bs.length) (k := k) W hk
  have H1 := Lib.hid h1
  have H2 := Lib.hid h2
  have H3 := Lib.hid h3
  have H6 := Lib.hid (h2.from_ hk (Nat.le_refl _))
  have H7 : Hid (∀ ad, (if bs.length = k then A else A.map (·.add k)) = some ad → ad.block = q) := by
    intro ad e
    split at e
    · exact h3 ad e
    · rcases A with _ | a
      · cases e
      · simp at e; subst e; rw [Addr.block_add]; exact h3 a rfl
  clear h1 h2 h3
  generalize (if bs.length = k then A else A.map (·.add k)) = Z at *
  go_enter Try.func39, Try.ntmps39
  go_wp2
  go_ret
  have hl : (bs.drop k).length = bs.length - k := by simp
  have hf : Far (only g) w (w.setCell ⟨g, 0, none⟩ (.slice Z (bs.length - k) (bs.length - k))) := (Far.refl (only g) w).set_ (p := ⟨g, 0, none⟩) (fun _ => rfl) _
  refine ⟨A, bs.length, rfl, (H2.out.upto hk).far hf (fun ad e => by rw [H3.out ad e]; exact h5), ⟨Z, ?_, ?_, H7.out, by simpa [World.setCell] using h4, h5⟩, hf⟩
  · rw [hl]; exact H1.out.set_ 0 _
  · rw [hl]; exact H6.out.far hf (fun ad e => by rw [H7.out ad e]; exact h5)

set_option maxHeartbeats 400000 in
theorem take_bad (g q : Nat) (bad : Bool) (bs : List Int) (x : Int) (w : World) (h : InAt w g q bad bs) (hx : x < 0 ∨ (bs.length : Int) < x) :
    Calls Try.prog 39 #[.pointer (some ⟨g, 0, none⟩), .int .i64 x] w fun e w' => e = .returned (.slice none 0 0) ∧ BadPost w g q w' := by
  have HI := Lib.hid h
  obtain ⟨A, h1, h2, h3, h4, h5⟩ := h
  have hc0 : w.cell? ⟨g, 0, none⟩ = some (.slice A bs.length bs.length) := h1.cell 0
  have H1 := Lib.hid h1
  clear h1 h2 h3
  rcases hx with hx | hx
  · have hd : decide (x < 0) = true := by simpa using hx
    go_enter Try.func39, Try.ntmps39
    go_wp2_with (go_at_call 44; (with_reducible refine (fail_any g _ _ _ H1.out).mono ?_); rintro e w' ⟨rfl, rfl⟩)
    go_ret
    exact ⟨rfl, HI.out.failed⟩
  · have hd : decide (x < 0) = false := by simp; omega
    have hd2 : decide ((bs.length : Int) < x) = true := by simpa using hx
    go_enter Try.func39, Try.ntmps39
    go_wp2_with (go_at_call 44; (with_reducible refine (fail_any g _ _ _ H1.out).mono ?_); rintro e w' ⟨rfl, rfl⟩)
    go_ret
    exact ⟨rfl, HI.out.failed⟩

theorem or_step (s b : Int) (h0 : 0 ≤ s) (h1 : s < 72057594037927936) (hb0 : 0 ≤ b) (hb1 : b ≤ 255) :
    bits .or .u64 (IntKind.u64.wrap (s * 256)) (IntKind.u64.wrap b) = s * 256 + b := by
  have e1 : IntKind.u64.wrap (s * 256) = s * 256 := by rw [IntKind.wrap_u64]; omega
  have e2 : IntKind.u64.wrap b = b := by rw [IntKind.wrap_u64]; omega
  rw [e1, e2, u64_or _ _ (by omega) (by omega) hb0 (by omega), nat_join 8 _ _ (by omega) (by omega)]
  omega

/-- A number of up to seven bytes leaves room for one more. -/
theorem numF_room (l : List Int) (k : Nat) (ho : Octs l) (hk : k < 8) : 0 ≤ numF 0 (l.take k) ∧ numF 0 (l.take k) < 72057594037927936 := by
  have h := numF_bd (l.take k) 0 (ho.take k) (by decide)
  have hl : (l.take k).length ≤ 7 := by have := List.length_take_le k l; omega
  have hp : (256 : Int) ^ (l.take k).length ≤ 256 ^ 7 := by
    generalize (l.take k).length = j at *
    have : (256 : Nat) ^ j ≤ 256 ^ 7 := Nat.pow_le_pow_right (by decide) hl
    have h2 : ((256 ^ j : Nat) : Int) ≤ ((256 ^ 7 : Nat) : Int) := Int.ofNat_le.2 this
    simpa using h2
  refine ⟨h.1, ?_⟩
  have e : (256 : Int) ^ 7 = 72057594037927936 := by decide
  rw [e] at hp
  omega

set_option maxHeartbeats 400000 in
theorem number_ok (g q : Nat) (bad : Bool) (bs l : List Int) (x : Int) (n : Nat) (w : World) (h : InAt w g q bad bs) (hxk : x = n) (hk : n ≤ bs.length) (h8 : n ≤ 8) (hl : bs.take n = l) (ho : Octs l) :
    Calls Try.prog 40 #[.pointer (some ⟨g, 0, none⟩), .int .i64 x] w fun e w' => e = .returned (.int .u64 (numF 0 l)) ∧ InAt w' g q bad (bs.drop n) ∧ Far (only g) w w' := by
  subst hxk
  have H := Lib.hid h
  have HL := Lib.hid hl
  have HO := Lib.hid ho
  clear h hl ho
  go_enter Try.func40, Try.ntmps40
  go_wp2_with (go_at_call 39; (with_reducible refine (take_ok g q bad bs n n _ H.out rfl hk).mono ?_); rintro e w1 ⟨A, c, rfl, hby, hin, hfar⟩; rw [HL.out] at hby; have HB := Lib.hid hby; have HI := Lib.hid hin; have HF := Lib.hid hfar; clear hby hin hfar)
  go_loop [5, 12] (fun s i => ∃ k : Nat, k ≤ n ∧ i = .int .i64 k ∧ s = .int .u64 (numF 0 (l.take k))) (fun _ i => n - (intOf i).toNat)
  case atStart => exact ⟨0, Nat.zero_le _, rfl, rfl⟩
  case round =>
    obtain ⟨k, hk, rfl, rfl⟩ := hrel
    by_cases hlt : k < n
    · obtain ⟨ad, rfl, hc⟩ := HB.out.at_ hlt
      have hbt := HO.out.at_ k
      have hrm := numF_room l k HO.out (by omega)
      have HE : Hid (bits .or .u64 (IntKind.u64.wrap (numF 0 (l.take k) * 256)) (IntKind.u64.wrap (l[k]?.getD 0)) = numF 0 (l.take (k + 1))) := by
        have e := or_step (numF 0 (l.take k)) (l.getD k 0) hrm.1 hrm.2 hbt.1 hbt.2
        rw [← numF_take l k (by have := HB.out.1; omega)] at e
        exact e
      clear hrm
      go_wp2
      go_round
      case rel => exact ⟨k + 1, by omega, by go_num, by rw [HE.out]⟩
      case measure => simp [intOf]; omega
    · go_wp2
      go_ret
      refine ⟨ret_int ?_, HI.out, HF.out⟩
      rw [List.take_of_length_le (by have := HB.out.1; omega)]

set_option maxHeartbeats 400000 in
theorem number_bad (g q : Nat) (bad : Bool) (bs : List Int) (x : Int) (w : World) (h : InAt w g q bad bs) (hx : x < 0 ∨ (bs.length : Int) < x) :
    Calls Try.prog 40 #[.pointer (some ⟨g, 0, none⟩), .int .i64 x] w fun e w' => e = .returned (.int .u64 0) ∧ BadPost w g q w' := by
  have H := Lib.hid h
  have HX := Lib.hid hx
  clear h hx
  go_enter Try.func40, Try.ntmps40
  go_wp2_with (go_at_call 39; (with_reducible refine (take_bad g q bad bs x _ H.out HX.out).mono ?_); rintro e w1 ⟨rfl, hp⟩; have HP := Lib.hid hp; clear hp)
  go_loop [5, 12] (fun s i => i = .int .i64 0 ∧ s = .int .u64 0) (fun _ _ => 0)
  case atStart => exact ⟨rfl, rfl⟩
  case round =>
    obtain ⟨rfl, rfl⟩ := hrel
    go_wp2
    go_ret
    exact ⟨rfl, HP.out⟩

/-- No block. -/
def nobody : Nat → Prop := fun _ => False
theorem InAt.alloc {w : World} {g q : Nat} {bad : Bool} {bs : List Int} (h : InAt w g q bad bs) (o : Obj) : InAt (w.alloc o) g q bad bs :=
  h.far ((Far.refl nobody w).alloc o) (fun e => e) (fun e => e)

theorem numF_lt (l : List Int) (n : Nat) (ho : Octs l) (hl : l.length = n) : 0 ≤ numF 0 l ∧ numF 0 l < 256 ^ n := by
  have h := numF_bd l 0 ho (by decide)
  rw [hl] at h
  exact ⟨h.1, by simpa using h.2⟩

set_option maxHeartbeats 400000 in
theorem inU16_ok (g q : Nat) (bad : Bool) (bs l : List Int) (w : World) (h : InAt w g q bad bs) (hk : 2 ≤ bs.length) (hl : bs.take 2 = l) (ho : Octs l) :
    Calls Try.prog 28 #[.pointer (some ⟨g, 0, none⟩)] w fun e w' => e = .returned (.int .u16 (numF 0 l)) ∧ InAt w' g q bad (bs.drop 2) ∧ Far (only g) w w' := by
  have hbd : 0 ≤ numF 0 l ∧ numF 0 l < 65536 := by
    have := numF_lt l 2 ho (by rw [← hl]; simp; omega)
    simpa using this

  have H := Lib.hid h
  have HL := Lib.hid hl
  have HO := Lib.hid ho
  clear h hl ho
  go_enter Try.func28, Try.ntmps28
  go_wp2_with (go_at_call 40; (with_reducible refine (number_ok g q bad bs l 2 2 _ H.out rfl hk (by decide) HL.out HO.out).mono ?_); rintro e w1 ⟨rfl, hp⟩; have HP := Lib.hid hp; clear hp)
  go_ret
  exact ⟨rfl, HP.out⟩

set_option maxHeartbeats 400000 in
theorem inU16_bad (g q : Nat) (bad : Bool) (bs : List Int) (w : World) (h : InAt w g q bad bs) (hk : bs.length < 2) :
    Calls Try.prog 28 #[.pointer (some ⟨g, 0, none⟩)] w fun e w' => e = .returned (.int .u16 0) ∧ BadPost w g q w' := by
  have H := Lib.hid h
  clear h
  go_enter Try.func28, Try.ntmps28
  go_wp2_with (go_at_call 40; (with_reducible refine (number_bad g q bad bs 2 _ H.out (.inr (by omega))).mono ?_); rintro e w1 ⟨rfl, hp⟩; have HP := Lib.hid hp; clear hp)
  go_ret
  exact ⟨rfl, HP.out⟩

/-- What Raw leaves. -/
def RawPost (w : World) (g q : Nat) (bad : Bool) (bs : List Int) (k : Nat) (e : Ending) (w' : World) : Prop :=
  ∃ b, e = .returned (.slice (some ⟨b, 0, none⟩) k k) ∧ w.heap.size ≤ b ∧ Blk w' b 5 (cel (bs.take k)) ∧ InAt w' g q bad (bs.drop k) ∧ Far (only g) w w'

set_option maxHeartbeats 400000 in
theorem raw_ok (g q : Nat) (bad : Bool) (bs : List Int) (x : Int) (k : Nat) (w : World) (h : InAt w g q bad bs) (hxk : x = k) (hk : k ≤ bs.length) (hn : bs.length ≤ 1000000) :
    Calls Try.prog 27 #[.pointer (some ⟨g, 0, none⟩), .int .i64 x] w (RawPost w g q bad bs k) := by
  subst hxk
  have H := Lib.hid h
  clear h
  go_enter Try.func27, Try.ntmps27
  go_wp2_with (first | (go_at_call 39; (with_reducible refine (take_ok g q bad bs k k _ H.out rfl hk).mono ?_); rintro e w1 ⟨A, c, rfl, hby, hin, hfar⟩; have HB := Lib.hid hby; have HI := Lib.hid hin; have HF := Lib.hid hfar; clear hby hin hfar) | (go_at_call 38; (with_reducible refine (copied_any _ _ _ (bs.take k) _ (by omega) HB.out).mono ?_); rintro e w' ⟨rfl, rfl⟩))
  go_ret
  exact ⟨_, rfl, HF.out.size, Blk.new w1 5 _, HI.out.alloc _, HF.out.alloc _⟩

set_option maxHeartbeats 400000 in
theorem raw_bad (g q : Nat) (bad : Bool) (bs : List Int) (x : Int) (w : World) (h : InAt w g q bad bs) (hx : x < 0 ∨ (bs.length : Int) < x) :
    Calls Try.prog 27 #[.pointer (some ⟨g, 0, none⟩), .int .i64 x] w (RawPost w g q true [] 0) := by
  have H := Lib.hid h
  have HX := Lib.hid hx
  clear h hx
  go_enter Try.func27, Try.ntmps27
  go_wp2_with (first | (go_at_call 39; (with_reducible refine (take_bad g q bad bs x _ H.out HX.out).mono ?_); rintro e w1 ⟨rfl, hp⟩; have HP := Lib.hid hp; clear hp) | (go_at_call 38; (with_reducible refine (copied_any _ _ _ [] _ (by omega) Byts.none_).mono ?_); rintro e w' ⟨rfl, rfl⟩))
  go_ret
  exact ⟨_, rfl, HP.out.2.size, Blk.new w1 5 _, HP.out.1.alloc _, HP.out.2.alloc _⟩

set_option maxHeartbeats 400000 in
theorem left_any (g q : Nat) (bad : Bool) (bs : List Int) (w : World) (h : InAt w g q bad bs) :
    Calls Try.prog 32 #[.pointer (some ⟨g, 0, none⟩)] w fun e w' => e = .returned (.int .i64 bs.length) ∧ w = w' := by
  obtain ⟨A, h1, h2, h3, h4, h5⟩ := h
  have hc0 : w.cell? ⟨g, 0, none⟩ = some (.slice A bs.length bs.length) := h1.cell 0
  clear h1 h2 h3
  go_enter Try.func32, Try.ntmps32
  go_wp2
  go_ret
  exact ⟨rfl, rfl⟩
set_option maxHeartbeats 400000 in
theorem bad_any (g q : Nat) (bad : Bool) (bs : List Int) (w : World) (h : InAt w g q bad bs) :
    Calls Try.prog 29 #[.pointer (some ⟨g, 0, none⟩)] w fun e w' => e = .returned (.bool bad) ∧ w = w' := by
  obtain ⟨A, h1, h2, h3, h4, h5⟩ := h
  have hc1 : w.cell? ⟨g, 1, none⟩ = some (.bool bad) := h1.cell 1
  clear h1 h2 h3
  go_enter Try.func29, Try.ntmps29
  go_wp2
  go_ret
  exact ⟨rfl, rfl⟩
/-- What New answers. -/
def NewPost (w : World) (bs : List Int) (e : Ending) (w' : World) : Prop :=
  ∃ g q, e = .returned (.pointer (some ⟨g, 0, none⟩)) ∧ InAt w' g q false bs ∧ w.heap.size ≤ g ∧ w.heap.size ≤ q ∧ Below w.heap.size w w'
theorem new_in (A : Option Addr) (n c : Nat) (bs : List Int) (w : World) (hn : n ≤ 1000000) (h : Byts w A n bs) : Calls Try.prog 26 #[.slice A n c] w (NewPost w bs) := by
  refine (new_any A n c bs w hn h).mono ?_
  rintro e w' ⟨rfl, rfl⟩
  obtain rfl := h.1
  exact ⟨_, _, rfl, InAt.new w bs, by omega, Nat.le_refl _, ((Below.refl _ _).alloc (Nat.le_refl _) _).alloc (by simp) _⟩

theorem below_only {B g : Nat} {w0 w w' : World} (h : Below B w0 w) (hf : Far (only g) w w') (hg : B ≤ g) (hB : B ≤ w.heap.size) : Below B w0 w' :=
  h.trans (hf.below hB (fun k hk e => by unfold only at e; omega))
/-- append of bytes onto an own row, its length and its bytes told. -/
theorem wpList_app_to {w : World} {ops : Array Oper} {rest : List Oper} {o : Oper} {a : Act} {Q : Exit → Act → World → Prop} (hgd : o.guard = none) (s x : Operand)
    (ho : o.op = .call { callee := .builtin .append, args := #[s, x], argTypes := #[22, 22] })
    (base : Nat) (v : Value) (n : Nat) (xs : List Int) (hs : a.eval s = v) (hown : w.ownsRow base 5 1 v n (cel xs))
    (A : Option Addr) (m c : Nat) (bs : List Int) (hx : a.eval x = .slice A m c) (h : Byts w A m bs) (k : Nat) (hk : n + m = k) (zs : List Int) (hz : xs ++ bs = zs) (hn : k ≤ 1000000) (hb : base ≤ w.heap.size)
    (hK : ∀ A' c' w', Hid (w'.ownsRow base 5 1 (.slice A' k c') k (cel zs)) → Hid (w.grownBy w' v.ownBlock) → Hid ((Value.slice A' k c').ownBlock = v.ownBlock ∨ (Value.slice A' k c').ownBlock = some w.heap.size) →
      wpList Try.prog ops Q rest (a.put o.dst (.slice A' k c')) w') : wpList Try.prog ops Q (o :: rest) a w := by
  subst hk hz
  exact wpList_app hgd s x ho base v n xs hs hown A m c bs hx h hn hb hK

theorem Byts.of_own {w : World} {base : Nat} {e : TypeId} {A : Option Addr} {n c : Nat} {bs : List Int} (h : w.ownsRow base e 1 (.slice A n c) n (cel bs)) : Byts w A n bs := by
  obtain ⟨A', c', e, _, _, h', _⟩ := Byts.of_row h
  cases e
  exact h'
theorem Byts.of_all {w : World} {g : Nat} {t : TypeId} {bs : List Int} {n : Nat} (h : Blk w g t (cel bs)) (hl : bs.length = n) : Byts w (some ⟨g, 0, none⟩) n bs := by
  subst hl
  simpa using Byts.of_blk h 0 (Nat.zero_le _)
/-- The number of two bytes at a place. -/
def wd (bs : List Int) (p : Nat) : Nat := (bs.getD p 0).toNat * 256 + (bs.getD (p + 1) 0).toNat
theorem wd_int {bs : List Int} (ho : Octs bs) (p : Nat) : bs.getD p 0 * 256 + bs.getD (p + 1) 0 = ((wd bs p : Nat) : Int) := by
  have h1 := ho.at_ p
  have h2 := ho.at_ (p + 1)
  unfold wd
  omega
theorem wd_bd {bs : List Int} (ho : Octs bs) (p : Nat) : wd bs p ≤ 65535 := by
  have h1 := ho.at_ p
  have h2 := ho.at_ (p + 1)
  unfold wd
  omega
theorem wd_drop (bs : List Int) (p q : Nat) : wd (bs.drop p) q = wd bs (p + q) := by
  unfold wd
  simp [List.getD_eq_getElem?_getD, List.getElem?_drop, Nat.add_assoc]
theorem getD_take {bs : List Int} {x j : Nat} (h : j < x) : (bs.take x).getD j 0 = bs.getD j 0 := by
  rw [List.getD_eq_getElem?_getD, List.getD_eq_getElem?_getD, List.getElem?_take_of_lt h]
theorem getD_left {bs cs : List Int} {j : Nat} (h : j < bs.length) : (bs ++ cs).getD j 0 = bs.getD j 0 := by
  rw [List.getD_eq_getElem?_getD, List.getD_eq_getElem?_getD, List.getElem?_append_left h]

end Go.Proofs.Ytebpemknmcgamaa
