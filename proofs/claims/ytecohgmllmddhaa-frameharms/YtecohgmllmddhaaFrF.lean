/-
  The walk of package frame: Parse.
-/
import Derived.Test.YtecohgmllmddhaaFrE
import Derived.Test.YtecohgmllmddhaaLSlice
import Derived.Test.YtecohgmllmddhaaLClear
import Derived.Test.YtecohgmllmddhaaBlkB
namespace Go.Proofs.Ytecohgmllmddhaa
open Go.RowKit
set_option linter.unusedVariables false

theorem num_take (l : List UInt8) (a s n : Nat) (h : a + s ≤ n) : num (l.take n) a s = num l a s := by
  unfold num
  rw [List.drop_take, List.take_take, Nat.min_eq_left (by omega)]

theorem headE_take (l : List UInt8) : headE (l.take 38) = headE l := by
  unfold headE
  rw [num_take l 0 2 38 (by omega), num_take l 2 1 38 (by omega), num_take l 11 4 38 (by omega), num_take l 15 2 38 (by omega), num_take l 17 1 38 (by omega), num_take l 18 2 38 (by omega), num_take l 20 2 38 (by omega), num_take l 22 8 38 (by omega)]

theorem headV_take (l : List UInt8) : headV (l.take 38) = headV l := by
  unfold headV
  rw [headE_take, num_take l 3 8 38 (by omega), num_take l 11 4 38 (by omega), num_take l 15 2 38 (by omega), num_take l 17 1 38 (by omega), num_take l 18 2 38 (by omega), num_take l 20 2 38 (by omega), num_take l 22 8 38 (by omega), num_take l 30 8 38 (by omega)]

/-- 'copy(dst, src)' where src is longer: its beginning. -/
theorem wpList_copyL (W : World) {ops : Array Oper} {rest : List Oper} {o : Oper} {a : Act} {Q : Exit → Act → World → Prop} (hgd : o.guard = none) (d s : Operand)
    (ho : o.op = .call { callee := .builtin .copy, args := #[d, s], argTypes := #[27, 27] }) (q n c : Nat) (l b : List UInt8) (v : Value) (hd : a.eval d = .slice (some ⟨q, 0, none⟩) n c) (hs : a.eval s = v) (hB : Blk W q [] l []) (hb : Bs W v b) (hn : n = l.length) (hlen : n ≤ b.length)
    (B : Nat) (w0 : World) (hbel : Below B w0 W) (hBq : B ≤ q)
    (h : ∀ W', Blk W' q [] (b.take n) [] → Below B w0 W' → wpList Try.prog ops Q rest (a.put o.dst (.int .i64 n)) W') : wpList Try.prog ops Q (o :: rest) a W := by
  obtain ⟨hl, ao, cap, rfl, hnc, hcm, hn0, hc⟩ := hb
  have hg : W.heap[q]? = some (.cells (l.map bv).toArray 5) := by have h := hB; unfold Blk at h; simpa using h
  have hlt : (b.take n).length = n := by simp; omega
  refine wpList_copy_splice hgd d s 27 27 ho 5 Try.underlying27 infoSize (some ⟨q, 0, none⟩) ao n c b.length cap hd hs q 0 (l.map bv) 5 hg ((b.take n).map bv) (by rw [List.length_map, hlt]; exact (Nat.min_eq_right hlen).symm) ?_ (by simp; omega) (bv_oneCell _) B w0 hbel hBq ?_
  · intro hpos
    refine ⟨rfl, ?_⟩
    rcases hc with h0 | ⟨b', off, rfl, hc⟩
    · rw [List.length_map, hlt] at hpos; omega
    · refine ⟨_, rfl, fun j u hj => ?_⟩
      rw [Addr.add_lit]
      have hjn : j < n := by have := (List.getElem?_eq_some_iff.1 hj).1; rw [List.length_map, hlt] at this; exact this
      rw [List.map_take, List.getElem?_take, if_pos hjn] at hj
      exact hc j u hj
  · intro W' hW hb'
    rw [splice_all _ _ (by rw [List.length_map, hlt, List.length_map, hn])] at hW
    have := h W' (by unfold Blk; simpa using hW.out) hb'
    rw [List.length_map, hlt]
    simpa [goInt] using this

theorem blk_own {W : World} {q : Nat} {l : List UInt8} (h : Blk W q [] l []) : Own W q l := by
  unfold Blk at h
  refine ⟨(l.map bv).toArray, by simpa using h, by simp, ?_⟩
  exact List.take_of_length_le (by simp)

/-- A frame's piece behind the head. -/
theorem bs_head {w : World} {b off n c : Nat} {l : List UInt8} (h : Bs w (.slice (some ⟨b, off, none⟩) n c) l) (h42 : 42 ≤ n) : Bs w (.slice (some ⟨b, off + 38, none⟩) (n - 38) (c - 38)) (l.drop 38) := by
  have hn := h.src.1
  have h2 := h.mid 38 (n - 38) (by omega)
  have hc : n ≤ c := by obtain ⟨_, _, _, e, hc, _⟩ := h; injection e with _ e2 e3; omega
  rw [if_neg (by omega)] at h2
  have e : (l.drop 38).take (n - 38) = l.drop 38 := List.take_of_length_le (by simp; omega)
  rw [e] at h2
  simpa [Addr.add] using h2

set_option maxRecDepth 100000 in
set_option maxHeartbeats 1000000 in
/-- PARSE of too few bytes. -/
theorem parse_short (c : Nat) (v : Value) (l : List UInt8) (w : World) (hl : Bs w v l) (h42 : l.length < 42) :
    Calls Try.prog 17 #[.pointer (some ⟨c, 0, none⟩), v] w fun e w' => e = .returned (.tuple #[.agg #[.int .u64 0, .int .i64 0, .int .i64 0, .int .i64 0, .int .i64 0, .int .i64 0, .int .i64 0, .int .u64 0, .slice none 0 0], .int .i64 4]) ∧ Below w.heap.size w w' := by
  obtain ⟨-, a0, k0, rfl, -, -, -, -⟩ := hl
  generalize l.length = n at *
  have N1 := nine_new w 29 0 0 0 0 0 0 0 0 (.slice none 0 0)
  have HN : Hid (Nine (w.alloc (.cells #[.int .u64 0, .int .i64 0, .int .i64 0, .int .i64 0, .int .i64 0, .int .i64 0, .int .i64 0, .int .u64 0, .slice none 0 0] 29)) w.heap.size 0 0 0 0 0 0 0 0 (.slice none 0 0)) := N1
  clear N1
  go_enter Try.func17, Try.ntmps17
  go_wp2
  (try simp only [Exit.inBlock, Exit.then])
  refine bodyPost_ret (ret_cell rfl rfl rfl (load9 HN.out)) rfl ?_
  exact ⟨rfl, below_alloc _ _⟩

theorem below9 {w0 W : World} {B0 b : Nat} (h : Below B0 w0 W) (hb : B0 ≤ b) (v0 v1 v2 v3 v4 v5 v6 v7 v8 : Value) : Below B0 w0 ((((((((((W.setCell ⟨b, 0, none⟩ v0).setCell ⟨b, 1, none⟩ v1).setCell ⟨b, 2, none⟩ v2).setCell ⟨b, 3, none⟩ v3).setCell ⟨b, 4, none⟩ v4).setCell ⟨b, 5, none⟩ v5).setCell ⟨b, 6, none⟩ v6).setCell ⟨b, 7, none⟩ v7).setCell ⟨b, 8, none⟩ v8)) :=
  (below8 h hb v0 v1 v2 v3 v4 v5 v6 v7).setCell hb v8

theorem ret_pair {c : Array Value} {n m : Int} (h : m = n) : Ending.returned (.tuple #[.agg c, .int .i64 n]) = .returned (.tuple #[.agg c, .int .i64 m]) := by rw [h]

set_option maxRecDepth 100000 in
set_option maxHeartbeats 2000000 in
/-- PARSE of bytes whose head is none. -/
theorem parse_head (c g : Nat) (v : Value) (l : List UInt8) (w : World) (hco : IsCo w c g) (hl : Bs w v l) (h42 : 42 ≤ l.length) (hh : headE l ≠ 0) :
    Calls Try.prog 17 #[.pointer (some ⟨c, 0, none⟩), v] w fun e w' => e = .returned (.tuple #[.agg #[.int .u64 0, .int .i64 0, .int .i64 0, .int .i64 0, .int .i64 0, .int .i64 0, .int .i64 0, .int .u64 0, .slice none 0 0], .int .i64 (headE l)]) ∧ Below w.heap.size w w' := by
  have HC : Hid (IsCo w c g) := hco
  clear hco
  have HB : Hid (Bs w v l) := hl
  obtain ⟨-, a0, k0, rfl, hk0, -, -, hcell⟩ := hl
  obtain ⟨pb, po, rfl⟩ : ∃ pb po, a0 = some ⟨pb, po, none⟩ := by
    rcases hcell with h0 | ⟨pb, po, e, -⟩
    · omega
    · exact ⟨pb, po, e⟩
  clear hcell
  have s0 : ∀ W, (Instr.slice 27 (.slice (some ⟨pb, po, none⟩) l.length k0) none (some (.int .i64 38)) none).run Try.prog W = .ok (.slice (some ⟨pb, po, none⟩) 38 k0) W := fun W => slice_to W _ l.length k0 38 (by omega)
  have T0 : Hid (Bs w (.slice (some ⟨pb, po, none⟩) 38 k0) (l.take 38)) := HB.out.take (by omega)
  have TL : Hid ((l.take 38).length = 38) := by unfold Hid; simp; omega
  have HN0 : Hid (Nine (w.alloc (.cells #[.int .u64 0, .int .i64 0, .int .i64 0, .int .i64 0, .int .i64 0, .int .i64 0, .int .i64 0, .int .u64 0, .slice none 0 0] 29)) w.heap.size 0 0 0 0 0 0 0 0 (.slice none 0 0)) := nine_new w 29 0 0 0 0 0 0 0 0 (.slice none 0 0)
  have HF0 : Hid (∀ i, (w.alloc (.cells #[.int .u64 0, .int .i64 0, .int .i64 0, .int .i64 0, .int .i64 0, .int .i64 0, .int .i64 0, .int .u64 0, .slice none 0 0] 29)).frozen? ⟨w.heap.size, i, none⟩ = false) := fun i => by simp
  go_enter Try.func17, Try.ntmps17
  go_wp2_with fail
  refine (rhead_any (l.take 38) _ _ (T0.out.below (below_alloc _ _)) TL.out).mono ?_
  rintro e w1 ⟨rfl, hb1⟩
  rw [headE_take, headV_take]
  have X1 : Hid (Below w.heap.size w w1) := below_mid (below_alloc _ _) hb1
  have N1 : Hid (Nine w1 w.heap.size 0 0 0 0 0 0 0 0 (.slice none 0 0)) := HN0.out.below hb1
  have FZ1 : Hid (∀ i, w1.frozen? ⟨w.heap.size, i, none⟩ = false) := fun i => (World.frozen?_of_block (a := ⟨w.heap.size, i, none⟩) (hb1.block w.heap.size (by simp))).trans (HF0.out i)
  clear hb1 HN0 HF0 s0 T0 TL
  have HV : Hid (headV l = #[.int .u64 0, .int .i64 0, .int .i64 0, .int .i64 0, .int .i64 0, .int .i64 0, .int .i64 0, .int .u64 0]) := by unfold Hid headV; rw [if_neg hh]
  rw [HV.out]
  obtain ⟨ee, hee⟩ : ∃ ee, headE l = ee := ⟨_, rfl⟩
  rw [hee] at hh ⊢
  have HEE : Hid (headE l = ee) := hee
  have hne : (ee == 0) = false := by simpa using hh
  clear hh HV hee
  have hlt := N1.out.lt
  obtain ⟨⟨c0, c1, c2, c3, c4, c5, c6, c7⟩, c8⟩ := N1.out
  have f := FZ1.out
  have f0 := f 0
  have f1 := f 1
  have f2 := f 2
  have f3 := f 3
  have f4 := f 4
  have f5 := f 5
  have f6 := f 6
  have f7 := f 7
  have f8 := f 8
  clear f
  go_wp2
  (try simp only [Exit.inBlock, Exit.then])
  refine bodyPost_ret (ret_cell rfl rfl rfl (load9 ((nine_store N1.out 0 0 0 0 0 0 0 0 (.slice none 0 0)).below (below_alloc _ _)))) rfl ?_
  have hB9 := below9 X1.out (Nat.le_refl _) (.int .u64 0) (.int .i64 0) (.int .i64 0) (.int .i64 0) (.int .i64 0) (.int .i64 0) (.int .i64 0) (.int .u64 0) (.slice none 0 0)
  exact ⟨ret_pair HEE.out, hB9.alloc hB9.size _⟩

set_option maxRecDepth 100000 in
set_option maxHeartbeats 2000000 in
/-- PARSE of bytes that aren't just as many. -/
theorem parse_len (c g : Nat) (v : Value) (l : List UInt8) (w : World) (hco : IsCo w c g) (hl : Bs w v l) (h42 : 42 ≤ l.length) (hh : headE l = 0) (hlen : l.length ≠ 42 + num l 15 2) :
    Calls Try.prog 17 #[.pointer (some ⟨c, 0, none⟩), v] w fun e w' => e = .returned (.tuple #[.agg #[.int .u64 0, .int .i64 0, .int .i64 0, .int .i64 0, .int .i64 0, .int .i64 0, .int .i64 0, .int .u64 0, .slice none 0 0], .int .i64 7]) ∧ Below w.heap.size w w' := by
  have HC : Hid (IsCo w c g) := hco
  clear hco
  have HB : Hid (Bs w v l) := hl
  obtain ⟨-, a0, k0, rfl, hk0, -, -, hcell⟩ := hl
  obtain ⟨pb, po, rfl⟩ : ∃ pb po, a0 = some ⟨pb, po, none⟩ := by
    rcases hcell with h0 | ⟨pb, po, e, -⟩
    · omega
    · exact ⟨pb, po, e⟩
  clear hcell
  have s0 : ∀ W, (Instr.slice 27 (.slice (some ⟨pb, po, none⟩) l.length k0) none (some (.int .i64 38)) none).run Try.prog W = .ok (.slice (some ⟨pb, po, none⟩) 38 k0) W := fun W => slice_to W _ l.length k0 38 (by omega)
  have T0 : Hid (Bs w (.slice (some ⟨pb, po, none⟩) 38 k0) (l.take 38)) := HB.out.take (by omega)
  have TL : Hid ((l.take 38).length = 38) := by unfold Hid; simp; omega
  have HN0 : Hid (Nine (w.alloc (.cells #[.int .u64 0, .int .i64 0, .int .i64 0, .int .i64 0, .int .i64 0, .int .i64 0, .int .i64 0, .int .u64 0, .slice none 0 0] 29)) w.heap.size 0 0 0 0 0 0 0 0 (.slice none 0 0)) := nine_new w 29 0 0 0 0 0 0 0 0 (.slice none 0 0)
  have HF0 : Hid (∀ i, (w.alloc (.cells #[.int .u64 0, .int .i64 0, .int .i64 0, .int .i64 0, .int .i64 0, .int .i64 0, .int .i64 0, .int .u64 0, .slice none 0 0] 29)).frozen? ⟨w.heap.size, i, none⟩ = false) := fun i => by simp
  go_enter Try.func17, Try.ntmps17
  go_wp2_with fail
  refine (rhead_any (l.take 38) _ _ (T0.out.below (below_alloc _ _)) TL.out).mono ?_
  rintro e w1 ⟨rfl, hb1⟩
  rw [headE_take, headV_take]
  have X1 : Hid (Below w.heap.size w w1) := below_mid (below_alloc _ _) hb1
  have N1 : Hid (Nine w1 w.heap.size 0 0 0 0 0 0 0 0 (.slice none 0 0)) := HN0.out.below hb1
  have FZ1 : Hid (∀ i, w1.frozen? ⟨w.heap.size, i, none⟩ = false) := fun i => (World.frozen?_of_block (a := ⟨w.heap.size, i, none⟩) (hb1.block w.heap.size (by simp))).trans (HF0.out i)
  clear hb1 HN0 HF0 s0 T0 TL
  have HV : Hid (headV l = #[.int .u64 (num l 3 8), .int .i64 (num l 11 4), .int .i64 (num l 15 2), .int .i64 (num l 17 1), .int .i64 (num l 18 2), .int .i64 (num l 20 2), .int .i64 (asInt (num l 22 8)), .int .u64 (num l 30 8)]) := by unfold Hid headV; rw [if_pos hh]
  rw [HV.out, hh]
  clear hh HV
  have bB := num_small l 15 2 (by omega)
  have hlt := N1.out.lt
  generalize num l 3 8 = n0 at *
  generalize num l 11 4 = n1 at *
  generalize num l 15 2 = n2 at *
  generalize num l 17 1 = n3 at *
  generalize num l 18 2 = n4 at *
  generalize num l 20 2 = n5 at *
  generalize asInt (num l 22 8) = n6 at *
  generalize num l 30 8 = n7 at *
  obtain ⟨⟨c0, c1, c2, c3, c4, c5, c6, c7⟩, c8⟩ := N1.out
  have f := FZ1.out
  have f0 := f 0
  have f1 := f 1
  have f2 := f 2
  have f3 := f 3
  have f4 := f 4
  have f5 := f 5
  have f6 := f 6
  have f7 := f 7
  have f8 := f 8
  clear f
  have hne : ((l.length : Int) == 42 + (n2 : Int)) = false := by simp; omega
  go_wp2
  (try simp only [Exit.inBlock, Exit.then])
  refine bodyPost_ret (ret_cell rfl rfl rfl (load9 ((nine_store N1.out 0 0 0 0 0 0 0 0 (.slice none 0 0)).below (below_alloc _ _)))) rfl ?_
  have hB9 := below9 X1.out (Nat.le_refl _) (.int .u64 0) (.int .i64 0) (.int .i64 0) (.int .i64 0) (.int .i64 0) (.int .i64 0) (.int .i64 0) (.int .u64 0) (.slice none 0 0)
  exact ⟨rfl, hB9.alloc hB9.size _⟩

end Go.Proofs.Ytecohgmllmddhaa
