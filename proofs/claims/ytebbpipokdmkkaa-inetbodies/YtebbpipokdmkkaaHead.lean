/- append of bytes onto an own row; the contract of the laws' head. Conditions: those of each theorem. -/
import Derived.Test.YtebbpipokdmkkaaHeadNums
namespace Go.Proofs.Ytebbpipokdmkkaa
open Go.RowKit

/-- append of bytes onto an own row, as a step of the walk. -/
theorem wpList_app {w : World} {ops : Array Oper} {rest : List Oper} {o : Oper} {a : Act} {Q : Exit → Act → World → Prop} (hgd : o.guard = none) (s x : Operand)
    (ho : o.op = .call { callee := .builtin .append, args := #[s, x], argTypes := #[22, 22] })
    (base : Nat) (v : Value) (n : Nat) (xs : List Int) (hs : a.eval s = v) (hown : w.ownsRow base 5 1 v n (cel xs))
    (A : Option Addr) (m c : Nat) (bs : List Int) (hx : a.eval x = .slice A m c) (h : Byts w A m bs) (hn : n + m ≤ 1000000) (hb : base ≤ w.heap.size)
    (hK : ∀ A' c' w', Hid (w'.ownsRow base 5 1 (.slice A' (n + m) c') (n + m) (cel (xs ++ bs))) → Hid (w.grownBy w' v.ownBlock) → Hid ((Value.slice A' (n + m) c').ownBlock = v.ownBlock ∨ (Value.slice A' (n + m) c').ownBlock = some w.heap.size) →
      wpList Try.prog ops Q rest (a.put o.dst (.slice A' (n + m) c')) w') : wpList Try.prog ops Q (o :: rest) a w := by
  refine wpList_plain hgd fun K hK' => ?_
  obtain ⟨v', w', hrun, h2, h3, h4⟩ := run_append_bytes (P := Try.prog) w base 22 o.type 5 Try.underlying22 info5 v n xs hown A m c bs h hn hb
  obtain ⟨A', c', rfl, _⟩ := Byts.of_row h2
  unfold Oper.wp
  simp [execOp, ho, resolve, invoke, builtin, hs, hx, hrun, Result.andThen]
  exact hK' _ _ (hK A' c' w' h2 h3 h4)

/-- append of bytes onto an own row, its length and its bytes told. -/
theorem wpList_app_to {w : World} {ops : Array Oper} {rest : List Oper} {o : Oper} {a : Act} {Q : Exit → Act → World → Prop} (hgd : o.guard = none) (s x : Operand)
    (ho : o.op = .call { callee := .builtin .append, args := #[s, x], argTypes := #[22, 22] })
    (base : Nat) (v : Value) (n : Nat) (xs : List Int) (hs : a.eval s = v) (hown : w.ownsRow base 5 1 v n (cel xs))
    (A : Option Addr) (m c : Nat) (bs : List Int) (hx : a.eval x = .slice A m c) (h : Byts w A m bs) (k : Nat) (hk : n + m = k) (zs : List Int) (hz : xs ++ bs = zs) (hn : k ≤ 1000000) (hb : base ≤ w.heap.size)
    (hK : ∀ A' c' w', Hid (w'.ownsRow base 5 1 (.slice A' k c') k (cel zs)) → Hid (w.grownBy w' v.ownBlock) → Hid ((Value.slice A' k c').ownBlock = v.ownBlock ∨ (Value.slice A' k c').ownBlock = some w.heap.size) →
      wpList Try.prog ops Q rest (a.put o.dst (.slice A' k c')) w') : wpList Try.prog ops Q (o :: rest) a w := by
  subst hk hz
  exact wpList_app hgd s x ho base v n xs hs hown A m c bs hx h hn hb hK

theorem Byts.of_own {w : World} {base : Nat} {e : TypeId} {A : Option Addr} {n c : Nat} {bs : List Int} (h : w.ownsRow base e 1 (.slice A n c) n (cel bs)) : Byts w A n bs := by
  obtain ⟨A', c', e, _, _, h', _⟩ := Byts.of_row h
  cases e
  exact h'
theorem Byts.of_all {w : World} {g : Nat} {t : TypeId} {bs : List Int} {n : Nat} (h : Blk w g t (cel bs)) (hl : bs.length = n) : Byts w (some ⟨g, 0, none⟩) n bs := by
  subst hl
  simpa using Byts.of_blk h 0 (Nat.zero_le _)

theorem own_cap {w : World} {base : Nat} {A : Option Addr} {n c : Nat} {bs : List Int} (h : w.ownsRow base 5 1 (.slice A n c) n (cel bs)) : n ≤ c := by
  obtain ⟨A', c', e, hc, _⟩ := Byts.of_row h
  cases e
  exact hc
/-- A block of bytes as an own row. -/
theorem own_blk {w : World} {g base : Nat} {bs : List Int} {n : Nat} (h : Blk w g 5 (cel bs)) (hn : bs.length = n) (hm : n ≤ 1000000) (hb : base ≤ g) : w.ownsRow base 5 1 (.slice (some ⟨g, 0, none⟩) n n) n (cel bs) := by
  subst hn
  exact ⟨by simp [cel], .inr ⟨g, bs.length, (cel bs).toArray, rfl, hb, h, Nat.le_refl _, by unfold maxLen; omega, by simp [cel], by simp [cel, List.take_of_length_le]⟩⟩
/-- What head leaves. -/
def Headed (w : World) (p : Int) (m : Nat) (ds : List Int) (e : Ending) (w' : World) : Prop :=
  ∃ A c, e = .returned (.slice A (20 + m) c) ∧ w'.ownsRow w.heap.size 5 1 (.slice A (20 + m) c) (20 + m) (cel (rhead p m ++ ds)) ∧ Below w.heap.size w w'

set_option maxRecDepth 100000 in
set_option maxHeartbeats 2000000 in
theorem head_any (p : Int) (B : Option Addr) (m d : Nat) (ds : List Int) (w : World) (h : Byts w B m ds) (h0 : 0 ≤ p) (h1 : p ≤ 255) (hm : m ≤ 1000) :
    Calls Try.prog 11 #[.int .u8 p, .slice B m d] w (Headed w p m ds) := by
  have H := Lib.hid h
  clear h
  have W1 : Hid (Below w.heap.size w (w.alloc (.cells (cel (hdr p m 0)).toArray 5))) := (Below.refl _ w).alloc (Nat.le_refl _) _
  have B1 : Hid (Blk (w.alloc (.cells (cel (hdr p m 0)).toArray 5)) w.heap.size 5 (cel (hdr p m 0))) := Blk.new w 5 _
  have HS := Lib.hid (refSum_b (some ⟨w.heap.size, 0, none⟩) 20 20 10 (hdr p m 0) _ (Byts.of_all B1.out rfl) (hdr_octs m 0 h0 h1) rfl (by omega))
  have hsb := sm_bd (hdr_octs m 0 h0 h1) 10
  have HR : Hid (right p m = 65535 - sm (hdr p m 0) 10) := (rfl : _ = _)
  generalize sm (hdr p m 0) 10 = s at *
  have hlit : w.alloc (.cells #[.int .u8 69, .int .u8 0, .int .u8 ((20 + (m : Int)) / 256), .int .u8 ((20 + (m : Int)) % 256), .int .u8 0, .int .u8 0, .int .u8 0, .int .u8 0, .int .u8 64, .int .u8 p, .int .u8 0, .int .u8 0, .int .u8 10, .int .u8 0, .int .u8 0, .int .u8 1, .int .u8 10, .int .u8 0, .int .u8 0, .int .u8 2] 5) = w.alloc (.cells (cel (hdr p m 0)).toArray 5) := by
    have e1 : (((20 + m) / 256 % 256 : Nat) : Int) = (20 + (m : Int)) / 256 := by omega
    have e2 : (((20 + m) % 256 : Nat) : Int) = (20 + (m : Int)) % 256 := by omega
    simp only [cel, hdr, List.map_cons, List.map_nil, e1, e2]
    rfl
  go_enter Try.func11, Try.ntmps11
  go_upto_region 3 with (fail)
  clear hlit
  generalize w.alloc (.cells (cel (hdr p m 0)).toArray 5) = w1 at *
  go_upto_region 4 with (first | (go_at_call 17; (with_reducible refine HS.out.mono ?_); rintro e x1 ⟨rfl, hb⟩; have W2 : Hid (Below w.heap.size w x1) := W1.out.trans (hb.mono W1.out.size); have B2 := Lib.hid (B1.out.far (Far.of_below hb (fun _ => False)) (fun e => e)); clear hb))
  have k1 : x1.cell? ⟨w.heap.size, 10, none⟩ = some (.int .u8 0) := B2.out.cell 10
  have k2 : x1.cell? ⟨w.heap.size, 11, none⟩ = some (.int .u8 0) := B2.out.cell 11
  have g1 := B2.out.frozen 10
  have g2 := B2.out.frozen 11
  have HL : Hid (((cel (hdr p m 0)).set 10 (.int .u8 ((65535 - (s : Int)) / 256))).set 11 (.int .u8 ((65535 - (s : Int)) % 256)) = cel (rhead p m)) := by
    have e1 : ((right p m / 256 % 256 : Nat) : Int) = (65535 - (s : Int)) / 256 := by rw [HR.out]; omega
    have e2 : ((right p m % 256 : Nat) : Int) = (65535 - (s : Int)) % 256 := by rw [HR.out]; omega
    show _ = _
    simp only [rhead, cel, hdr, List.map_cons, List.map_nil, e1, e2]
    rfl
  go_upto_region 5 with (fail)
  have B3 : Hid (Blk ((x1.setCell ⟨w.heap.size, 10, none⟩ (.int .u8 ((65535 - (s : Int)) / 256))).setCell ⟨w.heap.size, 11, none⟩ (.int .u8 ((65535 - (s : Int)) % 256))) w.heap.size 5 (cel (rhead p m))) := by
    have := (B2.out.set_ 10 (.int .u8 ((65535 - (s : Int)) / 256))).set_ 11 (.int .u8 ((65535 - (s : Int)) % 256))
    rw [HL.out] at this
    exact this
  have W3 : Hid (Below w.heap.size w ((x1.setCell ⟨w.heap.size, 10, none⟩ (.int .u8 ((65535 - (s : Int)) / 256))).setCell ⟨w.heap.size, 11, none⟩ (.int .u8 ((65535 - (s : Int)) % 256)))) := (W2.out.setCell (p := ⟨w.heap.size, 10, none⟩) (Nat.le_refl _) _).setCell (p := ⟨w.heap.size, 11, none⟩) (Nat.le_refl _) _
  generalize (x1.setCell ⟨w.heap.size, 10, none⟩ (.int .u8 ((65535 - (s : Int)) / 256))).setCell ⟨w.heap.size, 11, none⟩ (.int .u8 ((65535 - (s : Int)) % 256)) = w3 at *
  have O3 := Lib.hid (own_blk (base := w.heap.size) B3.out (rhead_length p m) (by omega) (Nat.le_refl _))
  have H3 := Lib.hid (H.out.below W3.out)
  clear k1 k2 g1 g2 HL B1 B2 W1 W2 HS
  go_wp2_with (first | (at_builtin; refine wpList_app_to rfl (.tmp 30) (.tmp 31) rfl w.heap.size (.slice (some ⟨w.heap.size, 0, none⟩) 20 20) 20 (rhead p m) rfl (by exact O3.out) B m d ds rfl (by exact H3.out) (20 + m) rfl (rhead p m ++ ds) rfl (by omega) (by exact W3.out.size) ?_; intro A7 c7 w7 R7 G7 B7; have W7 : Hid (Below w.heap.size w w7) := W3.out.grown G7.out W3.out.size (fun k e => (O3.out.lt k e).1)))
  go_ret
  exact ⟨_, _, rfl, R7.out, W7.out⟩
end Go.Proofs.Ytebbpipokdmkkaa
