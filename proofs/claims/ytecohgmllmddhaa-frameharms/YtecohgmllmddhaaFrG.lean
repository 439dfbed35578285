/-
  The walk of package frame: Parse, the sum and the packet.
-/
import Derived.Test.YtecohgmllmddhaaFrF
namespace Go.Proofs.Ytecohgmllmddhaa
open Go.RowKit
set_option linter.unusedVariables false

/-- The packet that a frame's bytes are, its payload in block q. -/
def packV (l : List UInt8) (q : Nat) : Array Value := #[.int .u64 (num l 3 8), .int .i64 (num l 11 4), .int .i64 (num l 15 2), .int .i64 (num l 17 1), .int .i64 (num l 18 2), .int .i64 (num l 20 2), .int .i64 (asInt (num l 22 8)), .int .u64 (num l 30 8), .slice (some ⟨q, 0, none⟩) (num l 15 2) (num l 15 2)]

/-- The payload of a frame. -/
def payB (l : List UInt8) : List UInt8 := (l.drop 38).take (num l 15 2)

set_option maxRecDepth 100000 in
set_option maxHeartbeats 2000000 in
/-- PARSE of bytes whose sum isn't theirs. -/
theorem parse_sum (c g : Nat) (v : Value) (l : List UInt8) (w : World) (hco : IsCo w c g) (hl : Bs w v l) (h42 : 42 ≤ l.length) (hh : headE l = 0) (hlen : l.length = 42 + num l 15 2) (hrt : rightB l = false) :
    Calls Try.prog 17 #[.pointer (some ⟨c, 0, none⟩), v] w fun e w' => e = .returned (.tuple #[.agg #[.int .u64 0, .int .i64 0, .int .i64 0, .int .i64 0, .int .i64 0, .int .i64 0, .int .i64 0, .int .u64 0, .slice none 0 0], .int .i64 8]) ∧ Below w.heap.size w w' := by
  have HC : Hid (IsCo w c g) := hco
  clear hco
  have HLEN : Hid (l.length = 42 + num l 15 2) := hlen
  clear hlen
  have HRT : Hid (rightB l = false) := hrt
  clear hrt
  have HB : Hid (Bs w v l) := hl
  obtain ⟨-, a0, k0, rfl, hk0, -, -, hcell⟩ := hl
  obtain ⟨pb, po, rfl⟩ : ∃ pb po, a0 = some ⟨pb, po, none⟩ := by
    rcases hcell with h0 | ⟨pb, po, e, -⟩
    · omega
    · exact ⟨pb, po, e⟩
  clear hcell
  have s0 : ∀ W, (Instr.slice 27 (.slice (some ⟨pb, po, none⟩) l.length k0) none (some (.int .i64 38)) none).run Try.prog W = .ok (.slice (some ⟨pb, po, none⟩) 38 k0) W := fun W => slice_to W _ l.length k0 38 (by omega)
  have T0 : Hid (Bs w (.slice (some ⟨pb, po, none⟩) 38 k0) (l.take 38)) := HB.out.take (by omega)
  have TL : Hid ((l.take 38).length = 38) := by unfold Hid; simp; omega
  have HN0 : Hid (Nine (w.alloc (.cells #[.int .u64 0, .int .i64 0, .int .i64 0, .int .i64 0, .int .i64 0, .int .i64 0, .int .i64 0, .int .u64 0, .slice none 0 0] 29)) w.heap.size 0 0 0 0 0 0 0 0 (.slice none 0 0)) := nine_new w 29 0 0 0 0 0 0 0 0 (.slice none 0 0)
  have HF0 : Hid (∀ i, (w.alloc (.cells #[.int .u64 0, .int .i64 0, .int .i64 0, .int .i64 0, .int .i64 0, .int .i64 0, .int .i64 0, .int .u64 0, .slice none 0 0] 29)).frozen? ⟨w.heap.size, i, none⟩ = false) := fun i => by simp
  go_enter Try.func17, Try.ntmps17
  go_wp2_with fail
  refine (rhead_any (l.take 38) _ _ (T0.out.below (below_alloc _ _)) TL.out).mono ?_
  rintro e w1 ⟨rfl, hb1⟩
  rw [headE_take, headV_take]
  have X1 : Hid (Below w.heap.size w w1) := below_mid (below_alloc _ _) hb1
  have N1 : Hid (Nine w1 w.heap.size 0 0 0 0 0 0 0 0 (.slice none 0 0)) := HN0.out.below hb1
  have FZ1 : Hid (∀ i, w1.frozen? ⟨w.heap.size, i, none⟩ = false) := fun i => (World.frozen?_of_block (a := ⟨w.heap.size, i, none⟩) (hb1.block w.heap.size (by simp))).trans (HF0.out i)
  clear hb1 HN0 HF0 s0 T0 TL
  have HV : Hid (headV l = #[.int .u64 (num l 3 8), .int .i64 (num l 11 4), .int .i64 (num l 15 2), .int .i64 (num l 17 1), .int .i64 (num l 18 2), .int .i64 (num l 20 2), .int .i64 (asInt (num l 22 8)), .int .u64 (num l 30 8)]) := by unfold Hid headV; rw [if_pos hh]
  rw [HV.out, hh]
  clear hh HV
  have bB := num_small l 15 2 (by omega)
  have hlt := N1.out.lt
  generalize num l 3 8 = n0 at *
  generalize num l 11 4 = n1 at *
  generalize num l 15 2 = n2 at *
  generalize num l 17 1 = n3 at *
  generalize num l 18 2 = n4 at *
  generalize num l 20 2 = n5 at *
  generalize asInt (num l 22 8) = n6 at *
  generalize num l 30 8 = n7 at *
  have hne : ((l.length : Int) == 42 + (n2 : Int)) = true := by have := HLEN.out; simp; omega
  have HD : Hid (Bs w1 (.slice (some ⟨pb, po, none⟩) l.length k0) l) := HB.out.below X1.out
  have C1 : Hid (IsCo w1 c g) := HC.out.below X1.out
  have d0 := C1.out.1
  have hcl := cell_block_lt d0
  go_wp2_with fail
  obtain ⟨hb, hhb⟩ : ∃ hb, w1.heap.size = hb := ⟨_, rfl⟩
  have E2 : Hid (Eight (w1.alloc (.cells #[.int .u64 n0, .int .i64 n1, .int .i64 n2, .int .i64 n3, .int .i64 n4, .int .i64 n5, .int .i64 n6, .int .u64 n7] 26)) w1.heap.size n0 n1 n2 n3 n4 n5 n6 n7) := eight_new _ _ _ _ _ _ _ _ _ _
  have X2 : Hid (Below w1.heap.size w1 (w1.alloc (.cells #[.int .u64 n0, .int .i64 n1, .int .i64 n2, .int .i64 n3, .int .i64 n4, .int .i64 n5, .int .i64 n6, .int .u64 n7] 26))) := below_alloc _ _
  rw [hhb] at E2 ⊢
  clear hhb d0 hcl hlt
  generalize w1.alloc (.cells #[.int .u64 n0, .int .i64 n1, .int .i64 n2, .int .i64 n3, .int .i64 n4, .int .i64 n5, .int .i64 n6, .int .u64 n7] 26) = w2 at *
  refine (right_any g _ l _ (C1.out.below X2.out).2 (HD.out.below X2.out)).mono ?_
  rintro e w3 ⟨rfl, hb3⟩
  rw [HRT.out]
  have X3' := below_mid X2.out hb3
  have X3 : Hid (Below w.heap.size w w3) := below_mid X1.out X3'
  have N3 : Hid (Nine w3 w.heap.size 0 0 0 0 0 0 0 0 (.slice none 0 0)) := N1.out.below X3'
  have FZ3 : Hid (∀ i, w3.frozen? ⟨w.heap.size, i, none⟩ = false) := fun i => (World.frozen?_of_block (a := ⟨w.heap.size, i, none⟩) (X3'.block w.heap.size N1.out.lt)).trans (FZ1.out i)
  have E3 : Hid (Eight w3 hb n0 n1 n2 n3 n4 n5 n6 n7) := E2.out.below hb3
  clear hb3 X3' X2 E2 N1 FZ1 X1 C1 HD
  obtain ⟨⟨c0, c1, c2, c3, c4, c5, c6, c7⟩, c8⟩ := N3.out
  have f := FZ3.out
  have f0 := f 0
  have f1 := f 1
  have f2 := f 2
  have f3 := f 3
  have f4 := f 4
  have f5 := f 5
  have f6 := f 6
  have f7 := f 7
  have f8 := f 8
  clear f
  go_wp2
  (try simp only [Exit.inBlock, Exit.then])
  refine bodyPost_ret (ret_cell rfl rfl rfl (load9 (nine_store N3.out 0 0 0 0 0 0 0 0 (.slice none 0 0)))) rfl ?_
  exact ⟨rfl, below9 X3.out (Nat.le_refl _) _ _ _ _ _ _ _ _ _⟩

set_option maxRecDepth 100000 in
set_option maxHeartbeats 2000000 in
/-- PARSE of a frame. -/
theorem parse_yes (c g : Nat) (v : Value) (l : List UInt8) (w : World) (hco : IsCo w c g) (hl : Bs w v l) (h42 : 42 ≤ l.length) (hh : headE l = 0) (hlen : l.length = 42 + num l 15 2) (hrt : rightB l = true) :
    Calls Try.prog 17 #[.pointer (some ⟨c, 0, none⟩), v] w fun e w' => ∃ q, e = .returned (.tuple #[.agg (packV l q), .int .i64 0]) ∧ w.heap.size ≤ q ∧ Own w' q (payB l) ∧ Below w.heap.size w w' := by
  have HC : Hid (IsCo w c g) := hco
  clear hco
  have HQ : Hid (∀ q, packV l q = #[.int .u64 (num l 3 8), .int .i64 (num l 11 4), .int .i64 (num l 15 2), .int .i64 (num l 17 1), .int .i64 (num l 18 2), .int .i64 (num l 20 2), .int .i64 (asInt (num l 22 8)), .int .u64 (num l 30 8), .slice (some ⟨q, 0, none⟩) (num l 15 2) (num l 15 2)]) := fun q => rfl
  have HPY : Hid (payB l = (l.drop 38).take (num l 15 2)) := rfl
  have HLEN : Hid (l.length = 42 + num l 15 2) := hlen
  clear hlen
  have HRT : Hid (rightB l = true) := hrt
  clear hrt
  obtain ⟨i0, hi, hz0, hz1, hz2⟩ := info_parts Try.infoByte
  have HB : Hid (Bs w v l) := hl
  obtain ⟨-, a0, k0, rfl, hk0, -, -, hcell⟩ := hl
  obtain ⟨pb, po, rfl⟩ : ∃ pb po, a0 = some ⟨pb, po, none⟩ := by
    rcases hcell with h0 | ⟨pb, po, e, -⟩
    · omega
    · exact ⟨pb, po, e⟩
  clear hcell
  have s0 : ∀ W, (Instr.slice 27 (.slice (some ⟨pb, po, none⟩) l.length k0) none (some (.int .i64 38)) none).run Try.prog W = .ok (.slice (some ⟨pb, po, none⟩) 38 k0) W := fun W => slice_to W _ l.length k0 38 (by omega)
  have T0 : Hid (Bs w (.slice (some ⟨pb, po, none⟩) 38 k0) (l.take 38)) := HB.out.take (by omega)
  have TL : Hid ((l.take 38).length = 38) := by unfold Hid; simp; omega
  have HN0 : Hid (Nine (w.alloc (.cells #[.int .u64 0, .int .i64 0, .int .i64 0, .int .i64 0, .int .i64 0, .int .i64 0, .int .i64 0, .int .u64 0, .slice none 0 0] 29)) w.heap.size 0 0 0 0 0 0 0 0 (.slice none 0 0)) := nine_new w 29 0 0 0 0 0 0 0 0 (.slice none 0 0)
  have HF0 : Hid (∀ i, (w.alloc (.cells #[.int .u64 0, .int .i64 0, .int .i64 0, .int .i64 0, .int .i64 0, .int .i64 0, .int .i64 0, .int .u64 0, .slice none 0 0] 29)).frozen? ⟨w.heap.size, i, none⟩ = false) := fun i => by simp
  go_enter Try.func17, Try.ntmps17
  go_wp2_with fail
  refine (rhead_any (l.take 38) _ _ (T0.out.below (below_alloc _ _)) TL.out).mono ?_
  rintro e w1 ⟨rfl, hb1⟩
  rw [headE_take, headV_take]
  have X1 : Hid (Below w.heap.size w w1) := below_mid (below_alloc _ _) hb1
  have N1 : Hid (Nine w1 w.heap.size 0 0 0 0 0 0 0 0 (.slice none 0 0)) := HN0.out.below hb1
  have FZ1 : Hid (∀ i, w1.frozen? ⟨w.heap.size, i, none⟩ = false) := fun i => (World.frozen?_of_block (a := ⟨w.heap.size, i, none⟩) (hb1.block w.heap.size (by simp))).trans (HF0.out i)
  clear hb1 HN0 HF0 s0 T0 TL
  have HV : Hid (headV l = #[.int .u64 (num l 3 8), .int .i64 (num l 11 4), .int .i64 (num l 15 2), .int .i64 (num l 17 1), .int .i64 (num l 18 2), .int .i64 (num l 20 2), .int .i64 (asInt (num l 22 8)), .int .u64 (num l 30 8)]) := by unfold Hid headV; rw [if_pos hh]
  rw [HV.out, hh]
  clear hh HV
  have bB := num_small l 15 2 (by omega)
  have hlt := N1.out.lt
  generalize num l 3 8 = n0 at *
  generalize num l 11 4 = n1 at *
  generalize num l 15 2 = n2 at *
  generalize num l 17 1 = n3 at *
  generalize num l 18 2 = n4 at *
  generalize num l 20 2 = n5 at *
  generalize asInt (num l 22 8) = n6 at *
  generalize num l 30 8 = n7 at *
  have hne : ((l.length : Int) == 42 + (n2 : Int)) = true := by have := HLEN.out; simp; omega
  have HD : Hid (Bs w1 (.slice (some ⟨pb, po, none⟩) l.length k0) l) := HB.out.below X1.out
  have C1 : Hid (IsCo w1 c g) := HC.out.below X1.out
  have d0 := C1.out.1
  have hcl := cell_block_lt d0
  go_wp2_with fail
  obtain ⟨hb, hhb⟩ : ∃ hb, w1.heap.size = hb := ⟨_, rfl⟩
  have E2 : Hid (Eight (w1.alloc (.cells #[.int .u64 n0, .int .i64 n1, .int .i64 n2, .int .i64 n3, .int .i64 n4, .int .i64 n5, .int .i64 n6, .int .u64 n7] 26)) w1.heap.size n0 n1 n2 n3 n4 n5 n6 n7) := eight_new _ _ _ _ _ _ _ _ _ _
  have X2 : Hid (Below w1.heap.size w1 (w1.alloc (.cells #[.int .u64 n0, .int .i64 n1, .int .i64 n2, .int .i64 n3, .int .i64 n4, .int .i64 n5, .int .i64 n6, .int .u64 n7] 26))) := below_alloc _ _
  rw [hhb] at E2 ⊢
  clear hhb d0 hcl hlt
  generalize w1.alloc (.cells #[.int .u64 n0, .int .i64 n1, .int .i64 n2, .int .i64 n3, .int .i64 n4, .int .i64 n5, .int .i64 n6, .int .u64 n7] 26) = w2 at *
  refine (right_any g _ l _ (C1.out.below X2.out).2 (HD.out.below X2.out)).mono ?_
  rintro e w3 ⟨rfl, hb3⟩
  rw [HRT.out]
  have X3' := below_mid X2.out hb3
  have X3 : Hid (Below w.heap.size w w3) := below_mid X1.out X3'
  have N3 : Hid (Nine w3 w.heap.size 0 0 0 0 0 0 0 0 (.slice none 0 0)) := N1.out.below X3'
  have FZ3 : Hid (∀ i, w3.frozen? ⟨w.heap.size, i, none⟩ = false) := fun i => (World.frozen?_of_block (a := ⟨w.heap.size, i, none⟩) (X3'.block w.heap.size N1.out.lt)).trans (FZ1.out i)
  have E3 : Hid (Eight w3 hb n0 n1 n2 n3 n4 n5 n6 n7) := E2.out.below hb3
  have P3 : Hid (Bs w3 (.slice (some ⟨pb, po + 38, none⟩) (l.length - 38) (k0 - 38)) (l.drop 38)) := (bs_head HB.out h42).below X3.out
  clear hb3 X3' X2 E2 N1 FZ1 X1 C1 HD
  obtain ⟨e0, e1, e2, e3, e4, e5, e6, e7⟩ := E3.out
  go_upto_region 11 with (at_make; refine wpList_make_full _ rfl _ _ 27 rfl w3.heap.size 5 i0 (.int .u8 0) 1 Try.underlying27 hi hz0 hz1 _ _ _ _ n2 rfl rfl rfl rfl (by rw [hz2]; omega) (by unfold maxLen; omega) (Nat.le_refl _) ?_; intro w4 ho hgrow)
  have B4 : Hid (Blk w4 w3.heap.size [] (zeros n2) []) := made_blk ho
  have X4 : Hid (Below w3.heap.size w3 w4) := below_new hgrow
  clear ho hgrow e0 e1 e2 e3 e4 e5 e6 e7
  have s1 : ∀ W, (Instr.slice 27 (.slice (some ⟨pb, po, none⟩) l.length k0) (some (.int .i64 38)) none none).run Try.prog W = .ok (.slice (some ⟨pb, po + 38, none⟩) (l.length - 38) (k0 - 38)) W := by
    intro W
    have h := slice_from W (some ⟨pb, po, none⟩) l.length k0 38 (by omega)
    rw [if_neg (by omega)] at h
    simpa [Addr.add] using h
  have S4 : Hid (Bs w4 (.slice (some ⟨pb, po + 38, none⟩) (l.length - 38) (k0 - 38)) (l.drop 38)) := P3.out.below X4.out
  have hdl : n2 ≤ (l.drop 38).length := by have := HLEN.out; simp; omega
  have HDL : Hid (n2 ≤ (l.drop 38).length) := hdl
  clear hdl
  go_upto_region 12 with (refine wpList_copyL _ rfl (.tmp 43) (.tmp 45) rfl w3.heap.size n2 n2 (zeros n2) (l.drop 38) _ rfl rfl B4.out S4.out (zeros_length n2).symm HDL.out w3.heap.size w3 X4.out (Nat.le_refl _) ?_; intro w5 hb5 hx5)
  have R5 : Hid (Blk w5 w3.heap.size [] ((l.drop 38).take n2) [] ∧ Below w3.heap.size w3 w5) := ⟨hb5, hx5⟩
  have N5 : Hid (Nine w5 w.heap.size 0 0 0 0 0 0 0 0 (.slice none 0 0)) := N3.out.below hx5
  have FZ5 : Hid (∀ i, w5.frozen? ⟨w.heap.size, i, none⟩ = false) := fun i => (World.frozen?_of_block (a := ⟨w.heap.size, i, none⟩) (hx5.block w.heap.size N3.out.lt)).trans (FZ3.out i)
  have E5 : Hid (Eight w5 hb n0 n1 n2 n3 n4 n5 n6 n7) := E3.out.below hx5
  clear hb5 hx5 s1 S4 X4 B4
  obtain ⟨e0, e1, e2, e3, e4, e5, e6, e7⟩ := E5.out
  have hqlt := N3.out.lt
  obtain ⟨⟨c0, c1, c2, c3, c4, c5, c6, c7⟩, c8⟩ := N5.out
  have f := FZ5.out
  have f0 := f 0
  have f1 := f 1
  have f2 := f 2
  have f3 := f 3
  have f4 := f 4
  have f5 := f 5
  have f6 := f 6
  have f7 := f 7
  have f8 := f 8
  clear f
  go_wp2
  (try simp only [Exit.inBlock, Exit.then])
  refine bodyPost_ret (ret_cell rfl rfl rfl (load9 (nine_store N5.out n0 n1 n2 n3 n4 n5 n6 n7 (.slice (some ⟨w3.heap.size, 0, none⟩) n2 n2)))) rfl ?_
  refine ⟨w3.heap.size, by rw [HQ.out]; rfl, X3.out.size, ?_, below9 (below_mid X3.out R5.out.2) (Nat.le_refl _) _ _ _ _ _ _ _ _ _⟩
  have hne2 : w3.heap.size ≠ w.heap.size := by omega
  have hk : ∀ (W : World) (i : Nat) (u : Value), (W.setCell ⟨w.heap.size, i, none⟩ u).heap[w3.heap.size]? = W.heap[w3.heap.size]? := fun W i u => Below.heap_setCell W ⟨w.heap.size, i, none⟩ u _ hne2
  rw [HPY.out]
  refine (blk_own R5.out.1).kept ?_
  rw [hk, hk, hk, hk, hk, hk, hk, hk, hk]

/-- PARSE of what is no frame. -/
theorem parse_no (c g : Nat) (v : Value) (l : List UInt8) (w : World) (hco : IsCo w c g) (hl : Bs w v l) (h : parseE l ≠ 0) :
    Calls Try.prog 17 #[.pointer (some ⟨c, 0, none⟩), v] w fun e w' => e = .returned (.tuple #[.agg #[.int .u64 0, .int .i64 0, .int .i64 0, .int .i64 0, .int .i64 0, .int .i64 0, .int .i64 0, .int .u64 0, .slice none 0 0], .int .i64 (parseE l)]) ∧ Below w.heap.size w w' := by
  by_cases h42 : l.length < 42
  · have e : parseE l = 4 := by unfold parseE; rw [if_pos h42]
    rw [e]
    exact parse_short c v l w hl h42
  · by_cases hh : headE l ≠ 0
    · have e : parseE l = headE l := by unfold parseE; rw [if_neg h42, if_pos hh]
      rw [e]
      exact parse_head c g v l w hco hl (by omega) hh
    · have hh0 : headE l = 0 := Classical.not_not.1 hh
      by_cases hlen : l.length ≠ 42 + num l 15 2
      · have e : parseE l = 7 := by unfold parseE; rw [if_neg h42, if_neg hh, if_pos hlen]
        rw [e]
        exact parse_len c g v l w hco hl (by omega) hh0 hlen
      · have hlen0 : l.length = 42 + num l 15 2 := Classical.not_not.1 hlen
        by_cases hrt : rightB l = false
        · have e : parseE l = 8 := by unfold parseE; rw [if_neg h42, if_neg hh, if_neg hlen, if_pos hrt]
          rw [e]
          exact parse_sum c g v l w hco hl (by omega) hh0 hlen0 hrt
        · exact absurd (by unfold parseE; rw [if_neg h42, if_neg hh, if_neg hlen, if_neg hrt]) h

/-- PARSE of a frame. -/
theorem parse_ok (c g : Nat) (v : Value) (l : List UInt8) (w : World) (hco : IsCo w c g) (hl : Bs w v l) (h : parseE l = 0) :
    Calls Try.prog 17 #[.pointer (some ⟨c, 0, none⟩), v] w fun e w' => ∃ q, e = .returned (.tuple #[.agg (packV l q), .int .i64 0]) ∧ w.heap.size ≤ q ∧ Own w' q (payB l) ∧ Below w.heap.size w w' := by
  have h0 := h
  unfold parseE at h
  split at h
  · simp at h
  next h42 =>
    split at h
    next hh => exact absurd h hh
    next hh =>
      split at h
      · simp at h
      next hlen =>
        split at h
        · simp at h
        next hrt => exact parse_yes c g v l w hco hl (by omega) (Classical.not_not.1 hh) (Classical.not_not.1 hlen) (by simpa using hrt)

end Go.Proofs.Ytecohgmllmddhaa
