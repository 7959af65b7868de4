/- What a round of BoxPlays keeps: the program's box, the document's, the act's copy; what the calls leave is right again. Conditions: those of each theorem. -/
import Derived.Test.YtpjeeccgpnpokaaRoomMem
import Derived.Test.YtpjeeccgpnpokaaTake
import Derived.Test.YtpjeeccgpnpokaaPut
namespace Go.Proofs.Ytpjeeccgpnpokaa
open Go.RowKit

section
variable {C : Cfg} {S : List Ent} {p : Pre} {x n : Int}
theorem Oks.del (h : Oks C S) (p : Pre) : Oks C (del S p) := fun e he => h e (by
  unfold Ytpjeeccgpnpokaa.del at he
  split at he
  · rcases List.mem_append.1 he with he | he
    · exact List.mem_of_mem_take he
    · exact List.mem_of_mem_drop he
  · exact he)
theorem Oks.put (h : Oks C S) (hC : C.Ok) (hp : p.Ok) (hx : i64 x) : Oks C (putS C S p x) := fun e he => by
  unfold putS at he
  split at he
  · exact h e he
  · split at he
    · exact h e he
    · unfold ins at he
      rcases List.mem_append.1 he with he | he
      · rcases List.mem_append.1 he with he | he
        · exact h e (List.mem_of_mem_take he)
        · have e1 : e = newE C p x := by simpa using he
          subst e1
          have h1 := addC_bd (cnt_bd (clm x)).1 (cnt_bd C.term).1
          have h2 := clm_bd hx.2
          have h3 := hC.b
          refine ⟨hp, ⟨by show _ ≤ addC _ _; omega, by show addC _ _ ≤ _; omega⟩, ?_⟩
          show Ok C.r (C.b * 1048576) (C.b * 1048576) (clm x)
          exact ⟨hC.r.1, hC.r.2, by omega, by omega, by omega, h2.1, h2.2⟩
      · exact h e (List.mem_of_mem_drop he)
theorem Oks.take (h : Oks C S) (hx : i64 x) (p : Pre) (n : Int) : Oks C (takeS C S p x n) := fun e he => by
  unfold takeS at he
  split at he
  · rename_i hh
    rcases List.mem_or_eq_of_mem_set he with he | rfl
    · exact h e he
    · have hr := h _ (at_mem (has_iff.1 hh))
      exact ⟨hr.p, hr.u, ok_left hr.t (clm_bd hx.2).2⟩
  · exact h e he
theorem putS_len (h : (S.length : Int) ≤ C.room) : ((putS C S p x).length : Int) ≤ C.room := by
  unfold putS
  split
  · exact h
  · split
    · exact h
    · rw [ins_length plc_le]
      omega
theorem takeS_len : (takeS C S p x n).length = S.length := by
  unfold takeS
  split
  · simp
  · rfl
end
/-- The program's box, which holds L; the document's at z, which holds D. -/
structure PB (T : Tbl) (w : World) (g z : Nat) (C : Cfg) (L D : List Ent) (A : Option Addr) (c : Nat) (F : Nat → Prop) (W : World) : Prop where
  tab : At T w g C L (fun j => j = z ∨ A.map (·.block) = some j ∨ F j) W
  box : Blk W z 37 (bcs A D.length c C)
  els : Els (kEnt C.r C.b) W A D
  zg : w.heap.size ≤ z
  zA : ∀ ad, A = some ad → ad.block ≠ z
  ok : Oks C D
  len : (D.length : Int) ≤ C.room
section
variable {T : Tbl} {w W W' W2 : World} {g z bx : Nat} {C : Cfg} {L L' D D' : List Ent} {A A' : Option Addr} {c c' : Nat} {F F' : Nat → Prop} {v : Value} {e : Ending}
theorem PB.be (h : PB T w g z C L D A c F W) : Below w.heap.size w W := h.tab.be
theorem PB.zl (h : PB T w g z C L D A c F W) : z < W.heap.size := h.box.lt
theorem PB.small (h : PB T w g z C L D A c F W) (hC : C.Ok) : D.length ≤ 1000 := by
  have h1 := h.len
  have h2 := hC.room
  omega
theorem PB.below (P : ProgB T) (h : PB T w g z C L D A c F W) (hb : Below W.heap.size W W') : PB T w g z C L D A c F W' := ⟨h.tab.below P hb, h.box.below hb, h.els.below hb, h.zg, h.zA, h.ok, h.len⟩
/-- The act's copy is left alone too. -/
theorem PB.more (P : ProgB T) (h : PB T w g z C L D A c nobody W) (hb : Below W.heap.size W W') (hx : W.heap.size < W'.heap.size) : PB T w g z C L D A c (only W.heap.size) W' :=
  ⟨(h.tab.grow P hb).less (fun j e => by
    rcases e with e | e | e
    · exact .inl (.inl e)
    · exact .inl (.inr (.inl e))
    · unfold only at e
      exact .inr (by omega)), h.box.below hb, h.els.below hb, h.zg, h.zA, h.ok, h.len⟩
theorem PB.fewer (h : PB T w g z C L D A c F W) : PB T w g z C L D A c nobody W := ⟨h.tab.less (fun j e => by
  rcases e with e | e | e
  · exact .inl e
  · exact .inr (.inl e)
  · exact False.elim e), h.box, h.els, h.zg, h.zA, h.ok, h.len⟩
/-- Behind an act of the program's. -/
theorem PB.act (h : PB T w g z C L D A c F W) (ha : Act1 T w g C L' (fun j => j = z ∨ A.map (·.block) = some j ∨ F j) v W e W') : PB T w g z C L' D A c F W' :=
  ⟨ha.2.1, h.box.far ha.2.2 (fun n => n.2 (.inl rfl)), h.els.far ha.2.2 (fun q o e n => n.2 (.inr (.inl (by rw [e]; rfl)))), h.zg, h.zA, h.ok, h.len⟩
theorem PB.blk {cs : List Value} {ty : TypeId} (h : Blk W bx ty cs) (hf : Far (free w (fun j => j = z ∨ A.map (·.block) = some j ∨ only bx j)) W W') : Blk W' bx ty cs := h.far hf (fun n => n.2 (.inr (.inr rfl)))
/-- Behind a call of the document's, its answer stored. -/
theorem PB.doc (P : ProgB T) (h : PB T w g z C L D A c F W) (hE : Els (kEnt C.r C.b) W' A' D') (hb : Below W.heap.size W W') (hf : Fresh W W' A') (hB : Blk W2 z 37 (bcs A' D'.length c' C)) (hF : Far (only z) W' W2) (ho : Oks C D') (hl : (D'.length : Int) ≤ C.room) : PB T w g z C L D' A' c' F W2 := by
  have hz := h.zl
  have hzw := h.be.size
  have hne : ∀ ad, A' = some ad → ad.block ≠ z := fun ad e => by have := (hf ad e).1; omega
  refine ⟨((h.tab.grow P hb).far P (S := only z) hF (fun j e => ⟨.inl (.inl e), by unfold only at e; have := h.zg; omega⟩)).less (fun j e => ?_), hB, hE.far hF (fun q o e n => hne _ e n), h.zg, hne, ho, hl⟩
  rcases e with e | e | e
  · exact .inl (.inl e)
  · obtain ⟨ad, e1, e2⟩ := Option.map_eq_some_iff.1 e
    have := hf ad e1
    exact .inr (by omega)
  · exact .inl (.inr (.inr e))
end
end Go.Proofs.Ytpjeeccgpnpokaa
