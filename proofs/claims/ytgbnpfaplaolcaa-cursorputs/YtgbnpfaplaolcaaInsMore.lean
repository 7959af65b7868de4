/- The contracts of cursor's In, more: the numbers of one to eight bytes, Raw, Left, Bad, Done; and of the law's own 'one'. Conditions: those of each theorem. -/
import Derived.Test.YtgbnpfaplaolcaaIns
namespace Go.Proofs.Ytgbnpfaplaolcaa
open Go.RowKit

/-- No block. -/
def nobody : Nat → Prop := fun _ => False
theorem InAt.alloc {w : World} {g q : Nat} {bad : Bool} {bs : List Int} (h : InAt w g q bad bs) (o : Obj) : InAt (w.alloc o) g q bad bs :=
  h.far ((Far.refl nobody w).alloc o) (fun e => e) (fun e => e)

theorem numF_lt (l : List Int) (n : Nat) (ho : Octs l) (hl : l.length = n) : 0 ≤ numF 0 l ∧ numF 0 l < 256 ^ n := by
  have h := numF_bd l 0 ho (by decide)
  rw [hl] at h
  exact ⟨h.1, by simpa using h.2⟩

set_option maxHeartbeats 400000 in
theorem inU8_ok (g q : Nat) (bad : Bool) (bs l : List Int) (w : World) (h : InAt w g q bad bs) (hk : 1 ≤ bs.length) (hl : bs.take 1 = l) (ho : Octs l) :
    Calls Try.prog 26 #[.pointer (some ⟨g, 0, none⟩)] w fun e w' => e = .returned (.int .u8 (numF 0 l)) ∧ InAt w' g q bad (bs.drop 1) ∧ Far (only g) w w' := by
  have hbd : 0 ≤ numF 0 l ∧ numF 0 l < 256 := by
    have := numF_lt l 1 ho (by rw [← hl]; simp; omega)
    simpa using this

  have H := Lib.hid h
  have HL := Lib.hid hl
  have HO := Lib.hid ho
  clear h hl ho
  go_enter Try.func26, Try.ntmps26
  go_wp2_with (go_at_call 32; (with_reducible refine (number_ok g q bad bs l 1 1 _ H.out rfl hk (by decide) HL.out HO.out).mono ?_); rintro e w1 ⟨rfl, hp⟩; have HP := Lib.hid hp; clear hp)
  go_ret
  exact ⟨rfl, HP.out⟩

set_option maxHeartbeats 400000 in
theorem inU8_bad (g q : Nat) (bad : Bool) (bs : List Int) (w : World) (h : InAt w g q bad bs) (hk : bs.length < 1) :
    Calls Try.prog 26 #[.pointer (some ⟨g, 0, none⟩)] w fun e w' => e = .returned (.int .u8 0) ∧ BadPost w g q w' := by
  have H := Lib.hid h
  clear h
  go_enter Try.func26, Try.ntmps26
  go_wp2_with (go_at_call 32; (with_reducible refine (number_bad g q bad bs 1 _ H.out (.inr (by omega))).mono ?_); rintro e w1 ⟨rfl, hp⟩; have HP := Lib.hid hp; clear hp)
  go_ret
  exact ⟨rfl, HP.out⟩

set_option maxHeartbeats 400000 in
theorem inU8_nil (w : World) : Calls Try.prog 26 #[.pointer none] w fun e w' => e = .returned (.int .u8 0) ∧ w = w' := by
  go_enter Try.func26, Try.ntmps26
  go_wp2_with (go_at_call 32; (with_reducible refine (number_nil _ _).mono ?_); rintro e w1 ⟨rfl, rfl⟩)
  go_ret
  exact ⟨rfl, rfl⟩

set_option maxHeartbeats 400000 in
theorem inU16_ok (g q : Nat) (bad : Bool) (bs l : List Int) (w : World) (h : InAt w g q bad bs) (hk : 2 ≤ bs.length) (hl : bs.take 2 = l) (ho : Octs l) :
    Calls Try.prog 29 #[.pointer (some ⟨g, 0, none⟩)] w fun e w' => e = .returned (.int .u16 (numF 0 l)) ∧ InAt w' g q bad (bs.drop 2) ∧ Far (only g) w w' := by
  have hbd : 0 ≤ numF 0 l ∧ numF 0 l < 65536 := by
    have := numF_lt l 2 ho (by rw [← hl]; simp; omega)
    simpa using this

  have H := Lib.hid h
  have HL := Lib.hid hl
  have HO := Lib.hid ho
  clear h hl ho
  go_enter Try.func29, Try.ntmps29
  go_wp2_with (go_at_call 32; (with_reducible refine (number_ok g q bad bs l 2 2 _ H.out rfl hk (by decide) HL.out HO.out).mono ?_); rintro e w1 ⟨rfl, hp⟩; have HP := Lib.hid hp; clear hp)
  go_ret
  exact ⟨rfl, HP.out⟩

set_option maxHeartbeats 400000 in
theorem inU16_bad (g q : Nat) (bad : Bool) (bs : List Int) (w : World) (h : InAt w g q bad bs) (hk : bs.length < 2) :
    Calls Try.prog 29 #[.pointer (some ⟨g, 0, none⟩)] w fun e w' => e = .returned (.int .u16 0) ∧ BadPost w g q w' := by
  have H := Lib.hid h
  clear h
  go_enter Try.func29, Try.ntmps29
  go_wp2_with (go_at_call 32; (with_reducible refine (number_bad g q bad bs 2 _ H.out (.inr (by omega))).mono ?_); rintro e w1 ⟨rfl, hp⟩; have HP := Lib.hid hp; clear hp)
  go_ret
  exact ⟨rfl, HP.out⟩

set_option maxHeartbeats 400000 in
theorem inU16_nil (w : World) : Calls Try.prog 29 #[.pointer none] w fun e w' => e = .returned (.int .u16 0) ∧ w = w' := by
  go_enter Try.func29, Try.ntmps29
  go_wp2_with (go_at_call 32; (with_reducible refine (number_nil _ _).mono ?_); rintro e w1 ⟨rfl, rfl⟩)
  go_ret
  exact ⟨rfl, rfl⟩

set_option maxHeartbeats 400000 in
theorem inU32_ok (g q : Nat) (bad : Bool) (bs l : List Int) (w : World) (h : InAt w g q bad bs) (hk : 4 ≤ bs.length) (hl : bs.take 4 = l) (ho : Octs l) :
    Calls Try.prog 30 #[.pointer (some ⟨g, 0, none⟩)] w fun e w' => e = .returned (.int .u32 (numF 0 l)) ∧ InAt w' g q bad (bs.drop 4) ∧ Far (only g) w w' := by
  have hbd : 0 ≤ numF 0 l ∧ numF 0 l < 4294967296 := by
    have := numF_lt l 4 ho (by rw [← hl]; simp; omega)
    simpa using this

  have H := Lib.hid h
  have HL := Lib.hid hl
  have HO := Lib.hid ho
  clear h hl ho
  go_enter Try.func30, Try.ntmps30
  go_wp2_with (go_at_call 32; (with_reducible refine (number_ok g q bad bs l 4 4 _ H.out rfl hk (by decide) HL.out HO.out).mono ?_); rintro e w1 ⟨rfl, hp⟩; have HP := Lib.hid hp; clear hp)
  go_ret
  exact ⟨rfl, HP.out⟩

set_option maxHeartbeats 400000 in
theorem inU32_bad (g q : Nat) (bad : Bool) (bs : List Int) (w : World) (h : InAt w g q bad bs) (hk : bs.length < 4) :
    Calls Try.prog 30 #[.pointer (some ⟨g, 0, none⟩)] w fun e w' => e = .returned (.int .u32 0) ∧ BadPost w g q w' := by
  have H := Lib.hid h
  clear h
  go_enter Try.func30, Try.ntmps30
  go_wp2_with (go_at_call 32; (with_reducible refine (number_bad g q bad bs 4 _ H.out (.inr (by omega))).mono ?_); rintro e w1 ⟨rfl, hp⟩; have HP := Lib.hid hp; clear hp)
  go_ret
  exact ⟨rfl, HP.out⟩

set_option maxHeartbeats 400000 in
theorem inU32_nil (w : World) : Calls Try.prog 30 #[.pointer none] w fun e w' => e = .returned (.int .u32 0) ∧ w = w' := by
  go_enter Try.func30, Try.ntmps30
  go_wp2_with (go_at_call 32; (with_reducible refine (number_nil _ _).mono ?_); rintro e w1 ⟨rfl, rfl⟩)
  go_ret
  exact ⟨rfl, rfl⟩

set_option maxHeartbeats 400000 in
theorem inU64_ok (g q : Nat) (bad : Bool) (bs l : List Int) (w : World) (h : InAt w g q bad bs) (hk : 8 ≤ bs.length) (hl : bs.take 8 = l) (ho : Octs l) :
    Calls Try.prog 27 #[.pointer (some ⟨g, 0, none⟩)] w fun e w' => e = .returned (.int .u64 (numF 0 l)) ∧ InAt w' g q bad (bs.drop 8) ∧ Far (only g) w w' := by
  have H := Lib.hid h
  have HL := Lib.hid hl
  have HO := Lib.hid ho
  clear h hl ho
  go_enter Try.func27, Try.ntmps27
  go_wp2_with (go_at_call 32; (with_reducible refine (number_ok g q bad bs l 8 8 _ H.out rfl hk (by decide) HL.out HO.out).mono ?_); rintro e w1 ⟨rfl, hp⟩; have HP := Lib.hid hp; clear hp)
  go_ret
  exact ⟨rfl, HP.out⟩

set_option maxHeartbeats 400000 in
theorem inU64_bad (g q : Nat) (bad : Bool) (bs : List Int) (w : World) (h : InAt w g q bad bs) (hk : bs.length < 8) :
    Calls Try.prog 27 #[.pointer (some ⟨g, 0, none⟩)] w fun e w' => e = .returned (.int .u64 0) ∧ BadPost w g q w' := by
  have H := Lib.hid h
  clear h
  go_enter Try.func27, Try.ntmps27
  go_wp2_with (go_at_call 32; (with_reducible refine (number_bad g q bad bs 8 _ H.out (.inr (by omega))).mono ?_); rintro e w1 ⟨rfl, hp⟩; have HP := Lib.hid hp; clear hp)
  go_ret
  exact ⟨rfl, HP.out⟩

set_option maxHeartbeats 400000 in
theorem inU64_nil (w : World) : Calls Try.prog 27 #[.pointer none] w fun e w' => e = .returned (.int .u64 0) ∧ w = w' := by
  go_enter Try.func27, Try.ntmps27
  go_wp2_with (go_at_call 32; (with_reducible refine (number_nil _ _).mono ?_); rintro e w1 ⟨rfl, rfl⟩)
  go_ret
  exact ⟨rfl, rfl⟩

/-- What Raw leaves. -/
def RawPost (w : World) (g q : Nat) (bad : Bool) (bs : List Int) (k : Nat) (e : Ending) (w' : World) : Prop :=
  ∃ b, e = .returned (.slice (some ⟨b, 0, none⟩) k k) ∧ w.heap.size ≤ b ∧ Blk w' b 5 (cel (bs.take k)) ∧ InAt w' g q bad (bs.drop k) ∧ Far (only g) w w'

set_option maxHeartbeats 400000 in
theorem raw_ok (g q : Nat) (bad : Bool) (bs : List Int) (x : Int) (k : Nat) (w : World) (h : InAt w g q bad bs) (hxk : x = k) (hk : k ≤ bs.length) (hn : bs.length ≤ 1000000) :
    Calls Try.prog 20 #[.pointer (some ⟨g, 0, none⟩), .int .i64 x] w (RawPost w g q bad bs k) := by
  subst hxk
  have H := Lib.hid h
  clear h
  go_enter Try.func20, Try.ntmps20
  go_wp2_with (first | (go_at_call 31; (with_reducible refine (take_ok g q bad bs k k _ H.out rfl hk).mono ?_); rintro e w1 ⟨A, c, rfl, hby, hin, hfar⟩; have HB := Lib.hid hby; have HI := Lib.hid hin; have HF := Lib.hid hfar; clear hby hin hfar) | (go_at_call 28; (with_reducible refine (copied_any _ _ _ (bs.take k) _ (by omega) HB.out).mono ?_); rintro e w' ⟨rfl, rfl⟩))
  go_ret
  exact ⟨_, rfl, HF.out.size, Blk.new w1 5 _, HI.out.alloc _, HF.out.alloc _⟩

set_option maxHeartbeats 400000 in
theorem raw_bad (g q : Nat) (bad : Bool) (bs : List Int) (x : Int) (w : World) (h : InAt w g q bad bs) (hx : x < 0 ∨ (bs.length : Int) < x) :
    Calls Try.prog 20 #[.pointer (some ⟨g, 0, none⟩), .int .i64 x] w (RawPost w g q true [] 0) := by
  have H := Lib.hid h
  have HX := Lib.hid hx
  clear h hx
  go_enter Try.func20, Try.ntmps20
  go_wp2_with (first | (go_at_call 31; (with_reducible refine (take_bad g q bad bs x _ H.out HX.out).mono ?_); rintro e w1 ⟨rfl, hp⟩; have HP := Lib.hid hp; clear hp) | (go_at_call 28; (with_reducible refine (copied_any _ _ _ [] _ (by omega) Byts.none_).mono ?_); rintro e w' ⟨rfl, rfl⟩))
  go_ret
  exact ⟨_, rfl, HP.out.2.size, Blk.new w1 5 _, HP.out.1.alloc _, HP.out.2.alloc _⟩

set_option maxHeartbeats 400000 in
theorem raw_nil (x : Int) (w : World) : Calls Try.prog 20 #[.pointer none, .int .i64 x] w fun e w' => e = .returned (.slice (some ⟨w.heap.size, 0, none⟩) 0 0) ∧ w.alloc (.cells (cel []).toArray 5) = w' := by
  go_enter Try.func20, Try.ntmps20
  go_wp2_with (first | (go_at_call 31; (with_reducible refine (take_nil _ _).mono ?_); rintro e w1 ⟨rfl, rfl⟩) | (go_at_call 28; (with_reducible refine (copied_any _ _ _ [] _ (by omega) Byts.none_).mono ?_); rintro e w' ⟨rfl, rfl⟩))
  go_ret
  exact ⟨rfl, rfl⟩

set_option maxHeartbeats 400000 in
theorem left_any (g q : Nat) (bad : Bool) (bs : List Int) (w : World) (h : InAt w g q bad bs) :
    Calls Try.prog 21 #[.pointer (some ⟨g, 0, none⟩)] w fun e w' => e = .returned (.int .i64 bs.length) ∧ w = w' := by
  obtain ⟨A, h1, h2, h3, h4, h5⟩ := h
  have hc0 : w.cell? ⟨g, 0, none⟩ = some (.slice A bs.length bs.length) := h1.cell 0
  clear h1 h2 h3
  go_enter Try.func21, Try.ntmps21
  go_wp2
  go_ret
  exact ⟨rfl, rfl⟩
set_option maxHeartbeats 400000 in
theorem left_nil (w : World) : Calls Try.prog 21 #[.pointer none] w fun e w' => e = .returned (.int .i64 0) ∧ w = w' := by
  go_enter Try.func21, Try.ntmps21
  go_wp2
  go_ret
  exact ⟨rfl, rfl⟩

set_option maxHeartbeats 400000 in
theorem bad_any (g q : Nat) (bad : Bool) (bs : List Int) (w : World) (h : InAt w g q bad bs) :
    Calls Try.prog 25 #[.pointer (some ⟨g, 0, none⟩)] w fun e w' => e = .returned (.bool bad) ∧ w = w' := by
  obtain ⟨A, h1, h2, h3, h4, h5⟩ := h
  have hc1 : w.cell? ⟨g, 1, none⟩ = some (.bool bad) := h1.cell 1
  clear h1 h2 h3
  go_enter Try.func25, Try.ntmps25
  go_wp2
  go_ret
  exact ⟨rfl, rfl⟩
set_option maxHeartbeats 400000 in
theorem bad_nil (w : World) : Calls Try.prog 25 #[.pointer none] w fun e w' => e = .returned (.bool false) ∧ w = w' := by
  go_enter Try.func25, Try.ntmps25
  go_wp2
  go_ret
  exact ⟨rfl, rfl⟩

set_option maxHeartbeats 400000 in
theorem done_any (g q : Nat) (bad : Bool) (bs : List Int) (d : Bool) (w : World) (h : InAt w g q bad bs) (hd : (!bad && decide (bs.length = 0)) = d) :
    Calls Try.prog 22 #[.pointer (some ⟨g, 0, none⟩)] w fun e w' => e = .returned (.bool d) ∧ w = w' := by
  obtain ⟨A, h1, h2, h3, h4, h5⟩ := h
  have hc0 : w.cell? ⟨g, 0, none⟩ = some (.slice A bs.length bs.length) := h1.cell 0
  have hc1 : w.cell? ⟨g, 1, none⟩ = some (.bool bad) := h1.cell 1
  clear h1 h2 h3
  generalize bs.length = n at *
  cases bad
  · by_cases h0 : n = 0
    · subst h0
      have hd' : true = d := by simpa using hd
      subst hd'
      clear hd
      go_enter Try.func22, Try.ntmps22
      go_wp2
      go_ret
      exact ⟨rfl, rfl⟩
    · have hd' : false = d := by simpa [h0] using hd
      subst hd'
      clear hd
      have e : ((n : Int) == 0) = false := by simpa using h0
      go_enter Try.func22, Try.ntmps22
      go_wp2
      go_ret
      exact ⟨rfl, rfl⟩
  · have hd' : false = d := by simpa using hd
    subst hd'
    clear hd
    go_enter Try.func22, Try.ntmps22
    go_wp2
    go_ret
    exact ⟨rfl, rfl⟩
set_option maxHeartbeats 400000 in
theorem done_nil (w : World) : Calls Try.prog 22 #[.pointer none] w fun e w' => e = .returned (.bool false) ∧ w = w' := by
  go_enter Try.func22, Try.ntmps22
  go_wp2
  go_ret
  exact ⟨rfl, rfl⟩
set_option maxHeartbeats 400000 in
theorem fail_nil (w : World) : Calls Try.prog 23 #[.pointer none] w fun e w' => e = .returned (.tuple #[]) ∧ w = w' := by
  go_enter Try.func23, Try.ntmps23
  go_wp2
  refine bodyPost_ret (results_none rfl _ _ _) rfl ?_
  exact ⟨rfl, rfl⟩

theorem manyF_cases (k : Nat) : manyF k = 1 ∨ manyF k = 2 ∨ manyF k = 4 ∨ manyF k = 8 := by
  unfold manyF
  split
  · exact .inl rfl
  · split
    · exact .inr (.inl rfl)
    · split
      · exact .inr (.inr (.inl rfl))
      · exact .inr (.inr (.inr rfl))

theorem many_is (k m : Nat) (w : World) (hk : k ≤ 255) (h : manyF k = m) : Calls Try.prog 9 #[.int .u8 k] w fun e w' => e = .returned (.int .i64 m) ∧ w = w' := by
  subst h
  exact many_any k w hk

set_option maxHeartbeats 1000000 in
theorem one_ok (g q : Nat) (bad : Bool) (bs l : List Int) (k m : Nat) (w : World) (h : InAt w g q bad bs) (hk : k ≤ 255) (hm : manyF k = m) (hn : m ≤ bs.length) (hl : bs.take m = l) (ho : Octs l) :
    Calls Try.prog 19 #[.pointer (some ⟨g, 0, none⟩), .int .u8 k] w fun e w' => e = .returned (.int .u64 (numF 0 l)) ∧ InAt w' g q bad (bs.drop m) ∧ Far (only g) w w' := by
  have hbd := numF_lt l m ho (by rw [← hl]; simp; omega)
  have hc := manyF_cases k
  rw [hm] at hc
  have H := Lib.hid h
  have HL := Lib.hid hl
  have HO := Lib.hid ho
  have HM := Lib.hid hm
  clear h hl ho hm
  rcases hc with rfl | rfl | rfl | rfl
  all_goals
    go_enter Try.func19, Try.ntmps19
    go_wp2_with (first | (go_at_call 9; (with_reducible refine (many_is k _ _ hk HM.out).mono ?_); rintro e w1 ⟨rfl, rfl⟩) | (go_at_call 26; (with_reducible refine (inU8_ok g q bad bs l _ H.out hn HL.out HO.out).mono ?_); rintro e w1 ⟨rfl, hp⟩; have HP := Lib.hid hp; clear hp) | (go_at_call 29; (with_reducible refine (inU16_ok g q bad bs l _ H.out hn HL.out HO.out).mono ?_); rintro e w1 ⟨rfl, hp⟩; have HP := Lib.hid hp; clear hp) | (go_at_call 30; (with_reducible refine (inU32_ok g q bad bs l _ H.out hn HL.out HO.out).mono ?_); rintro e w1 ⟨rfl, hp⟩; have HP := Lib.hid hp; clear hp) | (go_at_call 27; (with_reducible refine (inU64_ok g q bad bs l _ H.out hn HL.out HO.out).mono ?_); rintro e w1 ⟨rfl, hp⟩; have HP := Lib.hid hp; clear hp))
    go_ret
    exact ⟨rfl, HP.out⟩

set_option maxHeartbeats 1000000 in
theorem one_bad (g q : Nat) (bad : Bool) (bs : List Int) (k m : Nat) (w : World) (h : InAt w g q bad bs) (hk : k ≤ 255) (hm : manyF k = m) (hn : bs.length < m) :
    Calls Try.prog 19 #[.pointer (some ⟨g, 0, none⟩), .int .u8 k] w fun e w' => e = .returned (.int .u64 0) ∧ BadPost w g q w' := by
  have hc := manyF_cases k
  rw [hm] at hc
  have H := Lib.hid h
  have HM := Lib.hid hm
  clear h hm
  rcases hc with rfl | rfl | rfl | rfl
  all_goals
    go_enter Try.func19, Try.ntmps19
    go_wp2_with (first | (go_at_call 9; (with_reducible refine (many_is k _ _ hk HM.out).mono ?_); rintro e w1 ⟨rfl, rfl⟩) | (go_at_call 26; (with_reducible refine (inU8_bad g q bad bs _ H.out hn).mono ?_); rintro e w1 ⟨rfl, hp⟩; have HP := Lib.hid hp; clear hp) | (go_at_call 29; (with_reducible refine (inU16_bad g q bad bs _ H.out hn).mono ?_); rintro e w1 ⟨rfl, hp⟩; have HP := Lib.hid hp; clear hp) | (go_at_call 30; (with_reducible refine (inU32_bad g q bad bs _ H.out hn).mono ?_); rintro e w1 ⟨rfl, hp⟩; have HP := Lib.hid hp; clear hp) | (go_at_call 27; (with_reducible refine (inU64_bad g q bad bs _ H.out hn).mono ?_); rintro e w1 ⟨rfl, hp⟩; have HP := Lib.hid hp; clear hp))
    go_ret
    exact ⟨rfl, HP.out⟩
end Go.Proofs.Ytgbnpfaplaolcaa
