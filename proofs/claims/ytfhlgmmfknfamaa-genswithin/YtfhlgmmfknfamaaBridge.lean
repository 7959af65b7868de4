/- Layer 13's answers as this layer speaks of them. No conditions. -/
import Derived.Test.YtfhlgmmfknfamaaDocMem
import Derived.Test.YtfhlgmmfknfamaaKdRefBins
import Derived.Test.YtfhlgmmfknfamaaKdBins
namespace Go.Proofs.Ytfhlgmmfknfamaa
open Go.RowKit

def fk (f : Flo) : kd.Flo := ⟨f.v, f.p, f.s, f.d, f.a, f.b⟩
theorem fk_cs (f : Flo) : (fk f).cells = f.cs := rfl
theorem octs_of {s : List Int} (h : ∀ z ∈ s, byt z) : kd.Octs s := fun z hz => by
  have := h z hz
  unfold byt at this
  omega
theorem fk_ok {f : Flo} (h : f.Ok) : (fk f).Ok := ⟨f.hs, f.hd, octs_of h.s, octs_of h.d, (by have := h.p; unfold byt at this; show 0 ≤ f.p ∧ f.p ≤ 255; omega), h.a, h.b⟩
theorem k_cs {k : Key} (h : k.Ok) : kd.summ.cel (kd.nats k.s) = k.cs := kd.nats_cel (octs_of h)
theorem k_len (k : Key) : (kd.nats k.s).length = 16 := by unfold kd.nats; rw [List.length_map, k.h]
theorem k_octs {k : Key} (h : k.Ok) : kd.summ.Octs (kd.nats k.s) := fun b hb => by
  obtain ⟨z, hz, rfl⟩ := List.mem_map.1 hb
  have := h z hz
  unfold byt at this
  omega
/-- Whither a flow falls. -/
def kdKs : Ks where
  bk k f n := (kd.fl (kd.nats k.s) (fk f).key 0 n).toNat
  bi k f l n := kd.bns (kd.nats k.s) (fk f).key n (kd.lvl l)
  lt k f n h := by
    have := kd.fl_bd (k := kd.nats k.s) (bs := (fk f).key) (l := 0) (n := (n : Int)) (by omega)
    omega
  len k f l n := kd.bns_length _ _ _ _
  bd k f l n h z hz := by
    obtain ⟨i, _, rfl⟩ := List.mem_map.1 hz
    exact kd.fl_bd h
theorem bk_int (k : Key) (f : Flo) (n : Nat) (h : 1 ≤ n) : ((kdKs.bk k f n : Nat) : Int) = kd.fl (kd.nats k.s) (fk f).key 0 n :=
  Int.toNat_of_nonneg (kd.fl_bd (by omega)).1
theorem refK : RefK kdKs where
  bucket k f n w hk hf h1 h2 := by
    have := kd.refBucket_any (kd.nats k.s) (fk f) n w (k_octs hk) (k_len k) (fk_ok hf) (by omega)
    rw [k_cs hk, fk_cs, ← bk_int k f n h1] at this
    exact this
  bins k f l n w hk hf hl hn := by
    have := kd.refBins_any (kd.nats k.s) (fk f) l n w (k_octs hk) (k_len k) (fk_ok hf) hn.2
    rw [k_cs hk, fk_cs] at this
    exact this.mono fun _ _ ⟨A, c, he, hb, hv⟩ => ⟨A, c, he, hv, hb⟩
/-- The same of the program's keyed. -/
theorem prog_bucket (k : Key) (f : Flo) (n : Nat) (w : World) (hk : k.Ok) (hf : f.Ok) (h1 : 1 ≤ n) (h2 : n ≤ 64) : Calls Try.prog 32 #[.agg k.cs.toArray, .agg f.cs.toArray, .int .i64 (n : Nat)] w (Ans (.int .i64 (kdKs.bk k f n : Nat)) w) := by
  have := kd.progBucket_any (kd.nats k.s) (fk f) n w (k_octs hk) (k_len k) (fk_ok hf) (by omega)
  rw [k_cs hk, fk_cs, ← bk_int k f n h1] at this
  exact this
theorem prog_bins (k : Key) (f : Flo) (l n : Int) (w : World) (hk : k.Ok) (hf : f.Ok) (hn : i64 n) : Calls Try.prog 29 #[.agg k.cs.toArray, .agg f.cs.toArray, .int .i64 l, .int .i64 n] w (IRes (kdKs.bi k f l n) w) := by
  have := kd.progBins_any (kd.nats k.s) (fk f) l n w (k_octs hk) (k_len k) (fk_ok hf) hn.2
  rw [k_cs hk, fk_cs] at this
  exact this.mono fun _ _ ⟨A, c, he, hb, hv⟩ => ⟨A, c, he, hv, hb⟩
end Go.Proofs.Ytfhlgmmfknfamaa
