/- Flows as cells; '==' of them. Conditions: those of each theorem. -/
import Derived.Test.YtfhlgmmfknfamaaKins
namespace Go.Proofs.Ytfhlgmmfknfamaa
open Go.RowKit

theorem short_wf {k : Nat} (h : k ≤ 65535) : (Lit.int .u16 (k : Nat)).wf = true := by
  have h1 : IntKind.u16.min = 0 := rfl
  have h2 : IntKind.u16.max = 65535 := rfl
  simp [Lit.wf]
  omega
/-- Bytes in an array. -/
theorem lits_bytes {t : TypeId} {N : Nat} (hu : Try.prog.underlying t = some (.array N 5)) (hc : Try.prog.cellsOf t = N) {s : List Int} (hl : s.length = N) (ho : ∀ z ∈ s, byt z) (D : Nat) : Try.prog.keyLits (D + 2) t (cel s) = some (s.map (Lit.int .u8)) := by
  unfold Program.keyLits
  simp only [hu]
  rw [if_pos (by rw [cel_length, hc, hl]), cells5]
  have : (List.range N).mapM (fun i => Try.prog.keyLits (D + 1) 5 (((cel s).drop (i * 1)).take 1)) = some ((List.range N).map fun i => [Lit.int .u8 (s.getD i 0)]) :=
    mapM_some _ (fun i hi => by
      have hi2 : i < s.length := by have := List.mem_range.1 hi; omega
      rw [Nat.mul_one, List.drop_eq_getElem_cons (by rw [cel_length]; exact hi2)]
      have e : (cel s)[i]'(by rw [cel_length]; exact hi2) = .int .u8 (s.getD i 0) := by
        simp [cel, List.getD_eq_getElem?_getD, hi2]
      rw [List.take_succ_cons, List.take_zero, e]
      exact lits_byte (ho _ (by rw [List.getD_eq_getElem?_getD, List.getElem?_eq_getElem hi2]; exact List.getElem_mem _)) D)
  rw [this]
  simp only [Option.map_some, Option.some.injEq]
  subst hl
  clear this hc hu ho
  apply List.ext_getElem?
  intro i
  have key : ((List.range s.length).map fun i => [Lit.int .u8 (s.getD i 0)]).flatten = (List.range s.length).map fun i => Lit.int .u8 (s.getD i 0) := by
    generalize List.range s.length = l
    induction l with
    | nil => rfl
    | cons x r ih => rw [List.map_cons, List.flatten_cons, ih]; rfl
  rw [key, List.getElem?_map, List.getElem?_map]
  by_cases hi : i < s.length
  · simp [List.getElem?_range hi, List.getD_eq_getElem?_getD, List.getElem?_eq_getElem hi]
  · rw [List.getElem?_eq_none (by simpa using hi), List.getElem?_eq_none (l := s) (by omega)]
    rfl

/-- A flow: of IPv6 or not, its protocol, both addresses, both ports. -/
structure Flo where
  v : Bool
  p : Int
  s : List Int
  d : List Int
  a : Nat
  b : Nat
  hs : s.length = 16
  hd : d.length = 16
structure Flo.Ok (f : Flo) : Prop where
  p : byt f.p
  s : ∀ z ∈ f.s, byt z
  d : ∀ z ∈ f.d, byt z
  a : f.a ≤ 65535
  b : f.b ≤ 65535
theorem Flo.ext' {f g : Flo} (h : f.v = g.v ∧ f.p = g.p ∧ f.s = g.s ∧ f.d = g.d ∧ f.a = g.a ∧ f.b = g.b) : f = g := by
  obtain ⟨v, p, s, d, a, b, _, _⟩ := f
  obtain ⟨v', p', s', d', a', b', _, _⟩ := g
  obtain ⟨h1, h2, h3, h4, h5, h6⟩ := h
  simp only at h1 h2 h3 h4 h5 h6
  subst h1 h2 h3 h4 h5 h6
  rfl
instance decFlo : DecidableEq Flo := fun f g => if h : f.v = g.v ∧ f.p = g.p ∧ f.s = g.s ∧ f.d = g.d ∧ f.a = g.a ∧ f.b = g.b then .isTrue (Flo.ext' h) else .isFalse (by rintro rfl; simp at h)
def Flo.cs (f : Flo) : List Value := .bool f.v :: .int .u8 f.p :: (cel f.s ++ (cel f.d ++ [.int .u16 ((f.a : Nat) : Int), .int .u16 ((f.b : Nat) : Int)]))
theorem flo36 (f : Flo) : f.cs.length = 36 := by simp [Flo.cs, cel, f.hs, f.hd]
theorem flo_each (f : Flo) : ∀ u ∈ f.cs, u.oneCell' = true := by
  intro u hu
  simp only [Flo.cs, cel, List.mem_cons, List.mem_append, List.mem_map, List.not_mem_nil, or_false] at hu
  rcases hu with rfl | rfl | ⟨z, _, rfl⟩ | ⟨z, _, rfl⟩ | rfl | rfl <;> rfl
def kFlo : Kin Flo := ⟨Flo.cs, 36, by decide, flo36, flo_each⟩
theorem kFlo_n : kFlo.n = 36 := rfl
def z16 : List Int := List.replicate 16 0
def flo0 : Flo := ⟨false, 0, z16, z16, 0, 0, by simp [z16], by simp [z16]⟩
instance : Inhabited Flo := ⟨flo0⟩
theorem sizeF : (Try.prog.info? 45).map (·.size) = some 36 := by kernel_rfl
theorem infoF : (Try.prog.info? 45).map (fun i => (i.zero, i.size)) = some (some (.agg flo0.cs.toArray), 36) := by kernel_rfl
def Flo.ls (f : Flo) : List Lit := [.bool f.v] ++ ([.int .u8 f.p] ++ (f.s.map (Lit.int .u8) ++ (f.d.map (Lit.int .u8) ++ ([.int .u16 ((f.a : Nat) : Int)] ++ ([.int .u16 ((f.b : Nat) : Int)] ++ [])))))
theorem lits_flo {f : Flo} (h : f.Ok) (D : Nat) : Try.prog.keyLits (D + 3) 45 f.cs = some f.ls := by
  obtain ⟨v, p, s, d, a, b, hs, hd⟩ := f
  obtain ⟨hp, os, od, ha, hb⟩ := h
  simp only at hp os od ha hb
  show Try.prog.keyLits (D + 3) 45 (.bool v :: .int .u8 p :: (cel s ++ (cel d ++ [.int .u16 ((a : Nat) : Int), .int .u16 ((b : Nat) : Int)]))) = some ([.bool v] ++ ([.int .u8 p] ++ (s.map (Lit.int .u8) ++ (d.map (Lit.int .u8) ++ ([.int .u16 ((a : Nat) : Int)] ++ ([.int .u16 ((b : Nat) : Int)] ++ []))))))
  have hlen : (Value.bool v :: .int .u8 p :: (cel s ++ (cel d ++ [.int .u16 ((a : Nat) : Int), .int .u16 ((b : Nat) : Int)]))).length = 36 := flo36 ⟨v, p, s, d, a, b, hs, hd⟩
  generalize hF : (Value.bool v :: .int .u8 p :: (cel s ++ (cel d ++ [.int .u16 ((a : Nat) : Int), .int .u16 ((b : Nat) : Int)]))) = F at *
  unfold Program.keyLits
  simp only [Try.underlying45]
  rw [if_pos ⟨by rw [hlen]; kernel_rfl, by kernel_rfl⟩]
  subst hF
  have e : ∀ (l l1 l2 : List Value) (o n : Nat), l1.length = o → l2.length = n → (∃ l3, l = l1 ++ (l2 ++ l3)) → (l.drop o).take n = l2 := fun l l1 l2 o n h1 h2 ⟨l3, h⟩ => by
    subst h1 h2 h
    simp
  have c1 : (cel s).length = 16 := by rw [cel_length, hs]
  have c2 : (cel d).length = 16 := by rw [cel_length, hd]
  have f0 : ((Value.bool v :: .int .u8 p :: (cel s ++ (cel d ++ [.int .u16 ((a : Nat) : Int), .int .u16 ((b : Nat) : Int)]))).drop 0).take (Try.prog.cellsOf 4) = [.bool v] := e _ [] _ _ _ rfl (by kernel_rfl) ⟨_, rfl⟩
  have f1 : ((Value.bool v :: .int .u8 p :: (cel s ++ (cel d ++ [.int .u16 ((a : Nat) : Int), .int .u16 ((b : Nat) : Int)]))).drop 1).take (Try.prog.cellsOf 5) = [.int .u8 p] := e _ [.bool v] _ _ _ rfl (by kernel_rfl) ⟨_, rfl⟩
  have f2 : ((Value.bool v :: .int .u8 p :: (cel s ++ (cel d ++ [.int .u16 ((a : Nat) : Int), .int .u16 ((b : Nat) : Int)]))).drop 2).take (Try.prog.cellsOf 22) = cel s := e _ [.bool v, .int .u8 p] _ _ _ rfl (by rw [c1]; kernel_rfl) ⟨_, rfl⟩
  have f3 : ((Value.bool v :: .int .u8 p :: (cel s ++ (cel d ++ [.int .u16 ((a : Nat) : Int), .int .u16 ((b : Nat) : Int)]))).drop 18).take (Try.prog.cellsOf 22) = cel d := e _ (.bool v :: .int .u8 p :: cel s) _ _ _ (by simp [c1]) (by rw [c2]; kernel_rfl) ⟨_, rfl⟩
  have f4 : ((Value.bool v :: .int .u8 p :: (cel s ++ (cel d ++ [.int .u16 ((a : Nat) : Int), .int .u16 ((b : Nat) : Int)]))).drop 34).take (Try.prog.cellsOf 43) = [.int .u16 ((a : Nat) : Int)] := e _ (.bool v :: .int .u8 p :: (cel s ++ cel d)) _ _ _ (by simp [c1, c2]) (by kernel_rfl) ⟨[.int .u16 ((b : Nat) : Int)], by simp⟩
  have f5 : ((Value.bool v :: .int .u8 p :: (cel s ++ (cel d ++ [.int .u16 ((a : Nat) : Int), .int .u16 ((b : Nat) : Int)]))).drop 35).take (Try.prog.cellsOf 43) = [.int .u16 ((b : Nat) : Int)] := e _ (.bool v :: .int .u8 p :: (cel s ++ (cel d ++ [.int .u16 ((a : Nat) : Int)]))) _ _ _ (by simp [c1, c2]) (by kernel_rfl) ⟨[], by simp⟩
  have g0 : Try.prog.keyLits (D + 2) 4 [.bool v] = some [.bool v] := by unfold Program.keyLits; simp only [Try.underlying4]
  have g1 := lits_byte hp (D + 1)
  have g2 := lits_bytes (t := 22) Try.underlying22 (by kernel_rfl) hs os D
  have g3 := lits_bytes (t := 22) Try.underlying22 (by kernel_rfl) hd od D
  have g4 : Try.prog.keyLits (D + 2) 43 [.int .u16 ((a : Nat) : Int)] = some [.int .u16 ((a : Nat) : Int)] := by
    unfold Program.keyLits
    simp only [Try.underlying43]
    rw [if_pos ⟨trivial, short_wf ha⟩]
  have g5 : Try.prog.keyLits (D + 2) 43 [.int .u16 ((b : Nat) : Int)] = some [.int .u16 ((b : Nat) : Int)] := by
    unfold Program.keyLits
    simp only [Try.underlying43]
    rw [if_pos ⟨trivial, short_wf hb⟩]
  simp only [List.mapM_cons, List.mapM_nil, f0, f1, f2, f3, f4, f5, g0, g1, g2, g3, g4, g5]
  rfl
theorem map_byte_inj {s s' : List Int} (h : s.map (Lit.int .u8) = s'.map (Lit.int .u8)) : s = s' := by
  have := congrArg (List.map fun l => match l with | Lit.int _ z => z | _ => 0) h
  simpa [List.map_map, Function.comp_def] using this
theorem ls_flo {f g : Flo} : f.ls = g.ls ↔ f = g := by
  refine ⟨fun h => Flo.ext' ?_, fun h => by rw [h]⟩
  have hl : (f.s.map (Lit.int .u8)).length = (g.s.map (Lit.int .u8)).length := by simp [f.hs, g.hs]
  have hl2 : (f.d.map (Lit.int .u8)).length = (g.d.map (Lit.int .u8)).length := by simp [f.hd, g.hd]
  unfold Flo.ls at h
  simp only [List.append_nil, List.singleton_append, List.cons.injEq, Lit.bool.injEq, Lit.int.injEq, true_and] at h
  obtain ⟨h1, h2, h3⟩ := h
  obtain ⟨h4, h5⟩ := List.append_inj h3 hl
  obtain ⟨h6, h7⟩ := List.append_inj h5 hl2
  simp only [List.cons.injEq, Lit.int.injEq, true_and, and_true] at h7
  exact ⟨h1, h2, map_byte_inj h4, map_byte_inj h6, by omega, by omega⟩
/-- Are two flows the same? -/
theorem eq_flo {f g : Flo} (h : f.Ok) (k : g.Ok) (w : World) : (Op.equalIn 10000 45 (.agg f.cs.toArray) (.agg g.cs.toArray)).run Try.prog w = .ok (decide (f = g)) w := by
  obtain ⟨r, hr, hi⟩ := run_equalIn_deep (P := Try.prog) 9990 10 45 (by kernel_rfl) w 3 3 (.agg f.cs.toArray) (.agg g.cs.toArray) _ _
    (by simp [Value.formed, Try.underlying45, flo36]; kernel_rfl) (by simp [Value.formed, Try.underlying45, flo36]; kernel_rfl) (lits_flo h 0) (lits_flo k 0)
  have e : r = decide (f = g) := by
    rw [Bool.eq_iff_iff, hi, decide_eq_true_eq]
    exact ls_flo
  rw [show (10000 : Nat) = 9990 + 10 by rfl, hr, e]
section
variable {ops : Array Oper} {rest : List Oper} {op : Oper} {a : Act} {w : World} {Q : Exit → Act → World → Prop} {S : World → Prop}
/-- A load of a flow. -/
theorem wpList_flo (hw : Region.wanted op (yielded ops a.tmps) = true) (x : Operand) (ho : op.op = .load 45 x) (b o : Nat) (hx : a.eval x = .pointer (some ⟨b, o, none⟩)) (f : Flo) (hc : w.rangeAt b o f.cs)
    (h : wpList Try.prog ops Q rest (a.put op.dst (.agg f.cs.toArray)) w) : wpList Try.prog ops Q (op :: rest) a w := by
  unfold wpList
  rw [if_pos hw]
  exact .inl (wp_load_mid 45 x ho b o hx f.cs _ hc Try.underlying45 rfl (by rw [flo36]; exact sizeF) h)
theorem yields_flo (hw : Region.wanted op (yielded ops a.tmps) = true) (x : Operand) (ho : op.op = .load 45 x) (b o : Nat) (hx : a.eval x = .pointer (some ⟨b, o, none⟩)) (f : Flo) (hS : ∀ W, S W → W.rangeAt b o f.cs) :
    YieldsIf Try.prog ops S op (.agg f.cs.toArray) a := yieldsIf_load_mid hw 45 x ho b o hx f.cs _ hS Try.underlying45 rfl (by rw [flo36]; exact sizeF)
end
end Go.Proofs.Ytfhlgmmfknfamaa
