/- Whether two flows, two prefixes, two packets are the same: what '==' answers. Conditions: those of each theorem. -/
import Derived.Test.YtebpemknmcgamaaRefParse
import Derived.DeepKeys
namespace Go.Proofs.Ytebpemknmcgamaa
open Go.RowKit

theorem mapM_some {α β : Type} {f : α → Option β} {g : α → β} : ∀ (l : List α), (∀ x ∈ l, f x = some (g x)) → l.mapM f = some (l.map g)
  | [], _ => rfl
  | x :: r, h => by
    rw [List.mapM_cons, h x (by simp), mapM_some r (fun y hy => h y (by simp [hy]))]
    rfl
theorem byte_wf {z : Int} (h : 0 ≤ z ∧ z ≤ 255) : (Lit.int .u8 z).wf = true := by
  obtain ⟨k, rfl⟩ := Int.eq_ofNat_of_zero_le h.1
  have : k < 256 := by omega
  have h1 : IntKind.u8.min = 0 := rfl
  have h2 : IntKind.u8.max = 255 := rfl
  simp [Lit.wf]
  omega
theorem short_wf {k : Nat} (h : k ≤ 65535) : (Lit.int .u16 (k : Nat)).wf = true := by
  have h1 : IntKind.u16.min = 0 := rfl
  have h2 : IntKind.u16.max = 65535 := rfl
  simp [Lit.wf]
  omega
theorem long_wf {k : Nat} (h : k ≤ 9223372036854775807) : (Lit.int .i64 (k : Nat)).wf = true := by
  have h1 : IntKind.i64.min = -9223372036854775808 := rfl
  have h2 : IntKind.i64.max = 9223372036854775807 := rfl
  simp [Lit.wf]
  omega
theorem cells5 : Try.prog.cellsOf 5 = 1 := by kernel_rfl
theorem lits_byte {z : Int} (h : 0 ≤ z ∧ z ≤ 255) (D : Nat) : Try.prog.keyLits (D + 1) 5 [.int .u8 z] = some [.int .u8 z] := by
  unfold Program.keyLits
  simp only [Try.underlying5]
  rw [if_pos ⟨trivial, byte_wf h⟩]
/-- Bytes in an array. -/
theorem lits_bytes {t : TypeId} {N : Nat} (hu : Try.prog.underlying t = some (.array N 5)) (hc : Try.prog.cellsOf t = N) {s : List Int} (hl : s.length = N) (ho : Octs s) (D : Nat) : Try.prog.keyLits (D + 2) t (cel s) = some (s.map (Lit.int .u8)) := by
  unfold Program.keyLits
  simp only [hu]
  rw [if_pos (by rw [cel_length, hc, hl]), cells5]
  have : (List.range N).mapM (fun i => Try.prog.keyLits (D + 1) 5 (((cel s).drop (i * 1)).take 1)) = some ((List.range N).map fun i => [Lit.int .u8 (s.getD i 0)]) :=
    mapM_some _ (fun i hi => by
      have hi2 : i < s.length := by have := List.mem_range.1 hi; omega
      rw [Nat.mul_one, List.drop_eq_getElem_cons (by rw [cel_length]; exact hi2)]
      have e : (cel s)[i]'(by rw [cel_length]; exact hi2) = .int .u8 (s.getD i 0) := by
        have := cel_at s i hi2
        rw [List.getElem?_eq_getElem (by rw [cel_length]; exact hi2)] at this
        exact Option.some.inj this
      rw [List.take_succ_cons, List.take_zero, e]
      exact lits_byte (ho.at_ i) D)
  rw [this]
  simp only [Option.map_some, Option.some.injEq]
  subst hl
  clear this hc hu ho
  apply List.ext_getElem?
  intro i
  have key : ((List.range s.length).map fun i => [Lit.int .u8 (s.getD i 0)]).flatten = (List.range s.length).map fun i => Lit.int .u8 (s.getD i 0) := by
    generalize List.range s.length = l
    induction l with
    | nil => rfl
    | cons x r ih => rw [List.map_cons, List.flatten_cons, ih]; rfl
  rw [key, List.getElem?_map, List.getElem?_map]
  by_cases hi : i < s.length
  · simp [List.getElem?_range hi, List.getD_eq_getElem?_getD, List.getElem?_eq_getElem hi]
  · rw [List.getElem?_eq_none (by simpa using hi), List.getElem?_eq_none (l := s) (by omega)]
    rfl

theorem lits_flo {v : Bool} {p : Int} {s d : List Int} {a b : Nat} (hs : Sixteen s) (hd : Sixteen d) (os : Octs s) (od : Octs d) (hp : 0 ≤ p ∧ p ≤ 255) (ha : a ≤ 65535) (hb : b ≤ 65535) (D : Nat) :
    Try.prog.keyLits (D + 3) 27 (flo v p s d a b) = some ([.bool v] ++ ([.int .u8 p] ++ (s.map (Lit.int .u8) ++ (d.map (Lit.int .u8) ++ ([.int .u16 ((a : Nat) : Int)] ++ ([.int .u16 ((b : Nat) : Int)] ++ [])))))) := by
  unfold Program.keyLits
  simp only [Try.underlying27]
  rw [if_pos ⟨by rw [flo_length hs hd]; kernel_rfl, by kernel_rfl⟩]
  have e : ∀ (l l1 l2 : List Value) (o n : Nat), l1.length = o → l2.length = n → (∃ l3, l = l1 ++ (l2 ++ l3)) → (l.drop o).take n = l2 := fun l l1 l2 o n h1 h2 ⟨l3, h⟩ => by
    subst h1 h2 h
    simp
  unfold Sixteen at hs hd
  have c1 : (cel s).length = 16 := by rw [cel_length, hs]
  have c2 : (cel d).length = 16 := by rw [cel_length, hd]
  have f0 : ((flo v p s d a b).drop 0).take (Try.prog.cellsOf 4) = [.bool v] := e _ [] _ _ _ rfl (by kernel_rfl) ⟨_, rfl⟩
  have f1 : ((flo v p s d a b).drop 1).take (Try.prog.cellsOf 5) = [.int .u8 p] := e _ [.bool v] _ _ _ rfl (by kernel_rfl) ⟨_, rfl⟩
  have f2 : ((flo v p s d a b).drop 2).take (Try.prog.cellsOf 24) = cel s := e _ [.bool v, .int .u8 p] _ _ _ rfl (by rw [c1]; kernel_rfl) ⟨_, rfl⟩
  have f3 : ((flo v p s d a b).drop 18).take (Try.prog.cellsOf 24) = cel d := e _ (.bool v :: .int .u8 p :: cel s) _ _ _ (by simp [c1]) (by rw [c2]; kernel_rfl) ⟨_, rfl⟩
  have f4 : ((flo v p s d a b).drop 34).take (Try.prog.cellsOf 25) = [.int .u16 ((a : Nat) : Int)] := e _ (.bool v :: .int .u8 p :: (cel s ++ cel d)) _ _ _ (by simp [c1, c2]) (by kernel_rfl) ⟨[.int .u16 ((b : Nat) : Int)], by simp [flo]⟩
  have f5 : ((flo v p s d a b).drop 35).take (Try.prog.cellsOf 25) = [.int .u16 ((b : Nat) : Int)] := e _ (.bool v :: .int .u8 p :: (cel s ++ (cel d ++ [.int .u16 ((a : Nat) : Int)]))) _ _ _ (by simp [c1, c2]) (by kernel_rfl) ⟨[], by simp [flo]⟩
  have g0 : Try.prog.keyLits (D + 2) 4 [.bool v] = some [.bool v] := by unfold Program.keyLits; simp only [Try.underlying4]
  have g1 := lits_byte hp (D + 1)
  have g2 := lits_bytes (t := 24) Try.underlying24 (by kernel_rfl) hs os D
  have g3 := lits_bytes (t := 24) Try.underlying24 (by kernel_rfl) hd od D
  have g4 : Try.prog.keyLits (D + 2) 25 [.int .u16 ((a : Nat) : Int)] = some [.int .u16 ((a : Nat) : Int)] := by
    unfold Program.keyLits
    simp only [Try.underlying25]
    rw [if_pos ⟨trivial, short_wf ha⟩]
  have g5 : Try.prog.keyLits (D + 2) 25 [.int .u16 ((b : Nat) : Int)] = some [.int .u16 ((b : Nat) : Int)] := by
    unfold Program.keyLits
    simp only [Try.underlying25]
    rw [if_pos ⟨trivial, short_wf hb⟩]
  simp only [List.mapM_cons, List.mapM_nil, f0, f1, f2, f3, f4, f5, g0, g1, g2, g3, g4, g5]
  rfl
theorem lits_prx {v : Bool} {s : List Int} (hs : Sixteen s) (os : Octs s) (D : Nat) : Try.prog.keyLits (D + 3) 30 (prx v s) = some ([.bool v] ++ ((pre v s).map (Lit.int .u8) ++ [])) := by
  unfold Program.keyLits
  simp only [Try.underlying30]
  rw [if_pos ⟨by rw [prx_length hs]; kernel_rfl, by kernel_rfl⟩]
  have op : Octs (pre v s) := by
    unfold pre
    split
    · exact os.take 7
    · exact (os.take 3).app (by unfold Octs; decide)
  have f0 : ((prx v s).drop 0).take (Try.prog.cellsOf 4) = [.bool v] := by rw [show Try.prog.cellsOf 4 = 1 by kernel_rfl]; rfl
  have f1 : ((prx v s).drop 1).take (Try.prog.cellsOf 28) = cel (pre v s) := by
    rw [show Try.prog.cellsOf 28 = 7 by kernel_rfl]
    show (cel (pre v s)).take 7 = cel (pre v s)
    exact List.take_of_length_le (by rw [cel_length, pre_length hs]; omega)
  have g0 : Try.prog.keyLits (D + 2) 4 [.bool v] = some [.bool v] := by unfold Program.keyLits; simp only [Try.underlying4]
  have g1 := lits_bytes (t := 28) Try.underlying28 (by kernel_rfl) (pre_length (v := v) hs) op D
  simp only [List.mapM_cons, List.mapM_nil, f0, f1, g0, g1]
  rfl
theorem map_byte_inj {s s' : List Int} (h : s.map (Lit.int .u8) = s'.map (Lit.int .u8)) : s = s' := by
  have := congrArg (List.map fun l => match l with | Lit.int _ z => z | _ => 0) h
  simpa [List.map_map, Function.comp_def] using this
/-- Are two prefixes the same? -/
theorem eq_prx {v v' : Bool} {s s' : List Int} (hs : Sixteen s) (os : Octs s) (hs' : Sixteen s') (os' : Octs s') (w : World) :
    (Op.equalIn 10000 30 (.agg (prx v s).toArray) (.agg (prx v' s').toArray)).run Try.prog w = .ok (decide (v = v' ∧ pre v s = pre v' s')) w := by
  obtain ⟨r, hr, hi⟩ := run_equalIn_deep (P := Try.prog) 9990 10 30 (by kernel_rfl) w 3 3 (.agg (prx v s).toArray) (.agg (prx v' s').toArray) _ _
    (by simp [Value.formed, Try.underlying30, prx_length hs]; kernel_rfl) (by simp [Value.formed, Try.underlying30, prx_length hs']; kernel_rfl) (lits_prx hs os 0) (lits_prx hs' os' 0)
  rw [show (10000 : Nat) = 9990 + 10 by rfl, hr]
  congr 1
  rw [Bool.eq_iff_iff, hi]
  simp only [List.append_nil, List.singleton_append, List.cons.injEq, Lit.bool.injEq, decide_eq_true_eq]
  exact ⟨fun ⟨h1, h2⟩ => ⟨h1, map_byte_inj h2⟩, fun ⟨h1, h2⟩ => ⟨h1, by rw [h2]⟩⟩
/-- Are two flows the same? -/
theorem eq_flo {v v' : Bool} {p p' : Int} {s s' d d' : List Int} {a a' b b' : Nat} (hs : Sixteen s) (hd : Sixteen d) (os : Octs s) (od : Octs d) (hp : 0 ≤ p ∧ p ≤ 255) (ha : a ≤ 65535) (hb : b ≤ 65535)
    (hs' : Sixteen s') (hd' : Sixteen d') (os' : Octs s') (od' : Octs d') (hp' : 0 ≤ p' ∧ p' ≤ 255) (ha' : a' ≤ 65535) (hb' : b' ≤ 65535) (w : World) :
    (Op.equalIn 10000 27 (.agg (flo v p s d a b).toArray) (.agg (flo v' p' s' d' a' b').toArray)).run Try.prog w = .ok (decide (v = v' ∧ p = p' ∧ s = s' ∧ d = d' ∧ a = a' ∧ b = b')) w := by
  obtain ⟨r, hr, hi⟩ := run_equalIn_deep (P := Try.prog) 9990 10 27 (by kernel_rfl) w 3 3 (.agg (flo v p s d a b).toArray) (.agg (flo v' p' s' d' a' b').toArray) _ _
    (by simp [Value.formed, Try.underlying27, flo_length hs hd]; kernel_rfl) (by simp [Value.formed, Try.underlying27, flo_length hs' hd']; kernel_rfl) (lits_flo hs hd os od hp ha hb 0) (lits_flo hs' hd' os' od' hp' ha' hb' 0)
  rw [show (10000 : Nat) = 9990 + 10 by rfl, hr]
  congr 1
  rw [Bool.eq_iff_iff, hi]
  have hl : (s.map (Lit.int .u8)).length = (s'.map (Lit.int .u8)).length := by unfold Sixteen at hs hs'; simp [hs, hs']
  have hl2 : (d.map (Lit.int .u8)).length = (d'.map (Lit.int .u8)).length := by unfold Sixteen at hd hd'; simp [hd, hd']
  simp only [List.append_nil, List.singleton_append, List.cons.injEq, Lit.bool.injEq, Lit.int.injEq, true_and, decide_eq_true_eq]
  constructor
  · rintro ⟨h1, h2, h3⟩
    obtain ⟨h4, h5⟩ := List.append_inj h3 hl
    obtain ⟨h6, h7⟩ := List.append_inj h5 hl2
    simp only [List.cons.injEq, Lit.int.injEq, true_and, and_true] at h7
    exact ⟨h1, h2, map_byte_inj h4, map_byte_inj h6, by omega, by omega⟩
  · rintro ⟨rfl, rfl, rfl, rfl, rfl, rfl⟩
    exact ⟨rfl, rfl, rfl⟩
theorem lits_pak {n : Nat} {v : Bool} {p : Int} {s d : List Int} {a b : Nat} (hs : Sixteen s) (hd : Sixteen d) (os : Octs s) (od : Octs d) (hp : 0 ≤ p ∧ p ≤ 255) (ha : a ≤ 65535) (hb : b ≤ 65535) (hn : n ≤ 9223372036854775807) :
    ∃ l, Try.prog.keyLits 4 32 (pak n v p s d a b) = some l := by
  have e : ∀ (l l1 l2 : List Value) (o n : Nat), l1.length = o → l2.length = n → (∃ l3, l = l1 ++ (l2 ++ l3)) → (l.drop o).take n = l2 := fun l l1 l2 o n h1 h2 ⟨l3, h⟩ => by
    subst h1 h2 h
    simp
  have c1 := flo_length (v := v) (p := p) (a := a) (b := b) hs hd
  have c2 := prx_length (v := v) hs
  have f0 : ((pak n v p s d a b).drop 0).take (Try.prog.cellsOf 2) = [.int .i64 0] := e _ [] _ _ _ rfl (by kernel_rfl) ⟨_, rfl⟩
  have f1 : ((pak n v p s d a b).drop 1).take (Try.prog.cellsOf 27) = flo v p s d a b := e _ [.int .i64 0] _ _ _ rfl (by rw [c1]; kernel_rfl) ⟨_, rfl⟩
  have f2 : ((pak n v p s d a b).drop 37).take (Try.prog.cellsOf 30) = prx v s := e _ (.int .i64 0 :: flo v p s d a b) _ _ _ (by simp [c1]) (by rw [c2]; kernel_rfl) ⟨_, rfl⟩
  have f3 : ((pak n v p s d a b).drop 45).take (Try.prog.cellsOf 3) = [.int .i64 ((n : Nat) : Int)] := e _ (.int .i64 0 :: (flo v p s d a b ++ prx v s)) _ _ _ (by simp [c1, c2]) (by kernel_rfl) ⟨[], by simp [pak]⟩
  have g0 : Try.prog.keyLits 3 2 [.int .i64 0] = some [.int .i64 0] := by
    unfold Program.keyLits
    simp only [Try.underlying2]
    rw [if_pos ⟨trivial, by decide⟩]
  have g3 : Try.prog.keyLits 3 3 [.int .i64 ((n : Nat) : Int)] = some [.int .i64 ((n : Nat) : Int)] := by
    unfold Program.keyLits
    simp only [Try.underlying3]
    rw [if_pos ⟨trivial, long_wf hn⟩]
  have g1 := lits_flo (v := v) hs hd os od hp ha hb 0
  have g2 := lits_prx (v := v) hs os 0
  unfold Program.keyLits
  simp only [Try.underlying32]
  rw [if_pos ⟨by rw [pak_length hs hd]; kernel_rfl, by kernel_rfl⟩]
  simp only [List.mapM_cons, List.mapM_nil, f0, f1, f2, f3, g0, g1, g2, g3]
  exact ⟨_, rfl⟩
/-- A packet is itself. -/
theorem eq_pak {n : Nat} {v : Bool} {p : Int} {s d : List Int} {a b : Nat} (hs : Sixteen s) (hd : Sixteen d) (os : Octs s) (od : Octs d) (hp : 0 ≤ p ∧ p ≤ 255) (ha : a ≤ 65535) (hb : b ≤ 65535) (hn : n ≤ 9223372036854775807) (w : World) :
    (Op.equalIn 10000 32 (.agg (pak n v p s d a b).toArray) (.agg (pak n v p s d a b).toArray)).run Try.prog w = .ok true w := by
  obtain ⟨l, hl⟩ := lits_pak (v := v) hs hd os od hp ha hb hn
  obtain ⟨r, hr, hi⟩ := run_equalIn_deep (P := Try.prog) 9990 10 32 (by kernel_rfl) w 4 4 (.agg (pak n v p s d a b).toArray) (.agg (pak n v p s d a b).toArray) _ _
    (by simp [Value.formed, Try.underlying32, pak_length hs hd]; kernel_rfl) (by simp [Value.formed, Try.underlying32, pak_length hs hd]; kernel_rfl) hl hl
  rw [show (10000 : Nat) = 9990 + 10 by rfl, hr, hi.2 rfl]
theorem zz_octs : Octs zz := by unfold Octs; decide
theorem eq_pak0 (w : World) : (Op.equalIn 10000 32 (.agg pak0.toArray) (.agg pak0.toArray)).run Try.prog w = .ok true w :=
  eq_pak zz_sixteen zz_sixteen zz_octs zz_octs (by decide) (by decide) (by decide) (by decide) w
/-- What a packet is, whatever the frame. -/
structure Pak (n : Nat) (P : List Value) : Prop where
  ex : ∃ (m : Nat) (v : Bool) (p : Int) (s d : List Int) (a b : Nat), P = pak m v p s d a b ∧ Sixteen s ∧ Sixteen d ∧ Octs s ∧ Octs d ∧ (0 ≤ p ∧ p ≤ 255) ∧ a ≤ 65535 ∧ b ≤ 65535 ∧ m ≤ n
theorem adr_octs {bs : List Int} (ho : Octs bs) (p k : Nat) : Octs (inet.adr bs p k) := ((ho.drop p).take k).app (fun z h => by have := List.eq_of_mem_replicate h; omega)
theorem adr6_octs {bs : List Int} (ho : Octs bs) (p k : Nat) : Octs (six.adr bs p k) := ((ho.drop p).take k).app (fun z h => by have := List.eq_of_mem_replicate h; omega)
theorem goes_byte : ∀ {k : Nat} {f : Bool} {p : Int} {ls : List Int}, Octs ls → (0 ≤ p ∧ p ≤ 255) → 0 ≤ (six.goes k f p ls).2.1 ∧ (six.goes k f p ls).2.1 ≤ 255
  | k, false, p, ls, _, hp => by rw [six.goes_false]; exact hp
  | 0, true, p, ls, _, hp => by
    rw [six.goes]
    split
    · exact ⟨by decide, by decide⟩
    · exact hp
  | k + 1, true, p, ls, h, hp => by
    rw [six.goes]
    split
    · split
      · exact ⟨by decide, by decide⟩
      · exact goes_byte (h.drop _) (h.at_ 0)
    · exact hp
theorem nt_more (v : Bool) {bs : List Int} (ho : Octs bs) : Octs (nt v bs).s ∧ Octs (nt v bs).d ∧ (0 ≤ (nt v bs).q ∧ (nt v bs).q ≤ 255) := by
  cases v
  · by_cases h : inet.why bs = 0
    · rw [nt_ok h]
      exact ⟨adr_octs ho _ _, adr_octs ho _ _, ho.at_ 9⟩
    · rw [nt_no h]
      exact ⟨zz_octs, zz_octs, Int.le_refl 0, (by decide : (0 : Int) ≤ 255)⟩
  · refine ⟨?_, ?_, ?_⟩
    · show Octs (six.sr bs _)
      unfold six.sr
      split
      · exact adr6_octs ho _ _
      · exact zz_octs
    · show Octs (six.ds bs _)
      unfold six.ds
      split
      · exact adr6_octs ho _ _
      · exact zz_octs
    · show 0 ≤ (six.tel bs).2.1 ∧ (six.tel bs).2.1 ≤ 255
      unfold six.tel
      split
      · exact goes_byte ((ho.take _).drop _) (ho.at_ 6)
      · exact ⟨Int.le_refl 0, (by decide : (0 : Int) ≤ 255)⟩
theorem pak0_is (n : Nat) : Pak n pak0 := ⟨0, false, 0, zz, zz, 0, 0, rfl, zz_sixteen, zz_sixteen, zz_octs, zz_octs, by decide, by decide, by decide, Nat.zero_le _⟩
theorem pk_is {bs : List Int} {P : List Value} {r : Nat} (ho : Octs bs) (h : pk bs = (P, r)) : Pak bs.length P ∧ (r ≠ 0 → P = pak0) := by
  by_cases h1 : 9216 < bs.length
  · rw [pk_long h1] at h
    simp only [Prod.mk.injEq] at h
    exact ⟨h.1 ▸ pak0_is _, fun _ => h.1.symm⟩
  · obtain ⟨⟨v, a, r8⟩, hL⟩ : ∃ R, ether.look bs 3 12 = R := ⟨_, rfl⟩
    by_cases h8 : r8 = 0
    · subst h8
      obtain ⟨R, hR⟩ : ∃ R, nt v (bs.drop a) = R := ⟨_, rfl⟩
      by_cases h9 : R.r = 0
      · obtain ⟨⟨x, y, z⟩, hQ⟩ : ∃ Q, ports.look v R.q R.f R.ks = Q := ⟨_, rfl⟩
        by_cases h11 : z = 0
        · subst h11
          rw [pk_fine (by omega) hL hR h9 hQ] at h
          simp only [Prod.mk.injEq] at h
          obtain ⟨rfl, rfl⟩ := h
          have hm := nt_more v (ho.drop a)
          have hk := nt_octs v (ho.drop a)
          have s1 := nt_src v (bs.drop a)
          have s2 := nt_dst v (bs.drop a)
          rw [hR] at hm hk s1 s2
          obtain ⟨bx, by_, _⟩ := ports.look_cases hk hQ
          exact ⟨⟨_, v, _, _, _, x, y, rfl, s1, s2, hm.1, hm.2.1, hm.2.2, bx, by_, Nat.le_refl _⟩, fun h => absurd rfl h⟩
        · rw [pk_port (by omega) hL hR h9 hQ h11] at h
          simp only [Prod.mk.injEq] at h
          exact ⟨h.1 ▸ pak0_is _, fun _ => h.1.symm⟩
      · rw [pk_net (by omega) hL hR h9] at h
        simp only [Prod.mk.injEq] at h
        exact ⟨h.1 ▸ pak0_is _, fun _ => h.1.symm⟩
    · rw [pk_link (by omega) hL h8] at h
      simp only [Prod.mk.injEq] at h
      exact ⟨h.1 ▸ pak0_is _, fun _ => h.1.symm⟩
theorem Pak.self {n : Nat} {P : List Value} (h : Pak n P) (hn : n ≤ 9223372036854775807) (w : World) : (Op.equalIn 10000 32 (.agg P.toArray) (.agg P.toArray)).run Try.prog w = .ok true w := by
  obtain ⟨m, v, p, s, d, a, b, rfl, h1, h2, h3, h4, h5, h6, h7, h8⟩ := h.ex
  exact eq_pak h1 h2 h3 h4 h5 h6 h7 (by omega) w
theorem Pak.length {n : Nat} {P : List Value} (h : Pak n P) : P.length = 46 := by
  obtain ⟨m, v, p, s, d, a, b, rfl, h1, h2, _⟩ := h.ex
  exact pak_length h1 h2
theorem Pak.each {n : Nat} {P : List Value} (h : Pak n P) : ∀ u ∈ P, u.oneCell' = true := by
  obtain ⟨m, v, p, s, d, a, b, rfl, _⟩ := h.ex
  exact pak_each
end Go.Proofs.Ytebpemknmcgamaa
