/-
  Small laws: three bytes put upon each other, a row that is filled, the front of a slice, cells behind new blocks.
-/
import Derived.Test.YtjbgfgpclkabjaaOne
import Derived.Test.YtjbgfgpclkabjaaMathE
namespace Go.Proofs.Ytjbgfgpclkabjaa
open Go.RowKit
set_option linter.unusedVariables false

theorem xor_bytes (x y z : UInt8) : Value.int .u8 (bits BinOp.xor IntKind.u8 (bits BinOp.xor IntKind.u8 (x.toNat : Int) (y.toNat : Int)) (z.toNat : Int)) = bv (x ^^^ y ^^^ z) := by
  have hx := x.toNat_lt
  have hy := y.toNat_lt
  have hz := z.toNat_lt
  have h1 := Nat.xor_lt_two_pow hx hy
  rw [u8_xor_nat _ _ (by omega) (by omega), u8_xor_nat _ _ (by omega) (by omega)]
  simp [bv, UInt8.toNat_xor]

/-- The first k bytes, and noughts behind them. -/
def filled (X : List UInt8) (k : Nat) : List Value := (X.take k).map bv ++ List.replicate (X.length - k) (.int .u8 0)

theorem filled_zero (X : List UInt8) : filled X 0 = List.replicate X.length (.int .u8 0) := by simp [filled]

theorem filled_all (X : List UInt8) (k : Nat) (h : X.length ≤ k) : filled X k = X.map bv := by
  simp [filled, List.take_of_length_le h, Nat.sub_eq_zero_of_le h]

theorem filled_set (X : List UInt8) (k : Nat) (x : UInt8) (h : X[k]? = some x) : (filled X k).set k (bv x) = filled X (k + 1) := by
  obtain ⟨hk, hx⟩ := List.getElem?_eq_some_iff.1 h
  have hl : ((X.take k).map bv).length = k := by simp; omega
  have e : X.length - k = (X.length - (k + 1)) + 1 := by omega
  unfold filled
  rw [List.set_append_right _ _ (by omega), hl, Nat.sub_self, e, List.replicate_succ, List.set_cons_zero, List.take_succ_eq_append_getElem hk, hx]
  simp

theorem cell_at {w : World} {b off : Nat} {l : List UInt8} (hc : ∀ j u, (l.map bv)[j]? = some u → w.cell? ⟨b, off + j, none⟩ = some u) (k : Nat) (h : k < l.length) : w.cell? ⟨b, off + k, none⟩ = some (.int .u8 ((l.getD k 0).toNat : Int)) := by
  rw [hc k _ (map_bv_at l k h)]
  simp [List.getD, h]

theorem slice_to (W : World) (a : Option Addr) (n c N : Nat) (h : N ≤ c) : (Instr.slice 22 (.slice a n c) none (some (.int .i64 N)) none).run Try.prog W = .ok (.slice a N c) W := by
  have ht : Try.prog.underlying 22 = some (.slice (Try.prog.elem 22)) := by kernel_rfl
  obtain ⟨i0, hi, hz0, hz1, hz2⟩ := info_parts Try.info5
  have he : Try.prog.elem 22 = 5 := by kernel_rfl
  have hsz : (sizeOf 5).run Try.prog W = .ok 1 W := by simp [sizeOf, typeInfo, hi, hz1]
  rw [run_slice_h W 22 a n c ht .i64 N (by omega) (by omega), he, hsz]
  simp only [Result.andThen, sliced, Int.toNat_natCast, Nat.sub_zero]
  congr 2
  split
  · rfl
  · cases a <;> simp [Addr.add]

/-- The first N bytes of a slice. -/
theorem Bs.take {W : World} {a : Option Addr} {n c N : Nat} {l : List UInt8} (h : Bs W (.slice a n c) l) (hN : N ≤ l.length) : Bs W (.slice a N c) (l.take N) := by
  obtain ⟨h1, a', c', hv, h2, h3, h4, h5⟩ := h
  injection hv with e1 e2 e3
  subst e1; subst e2; subst e3
  have hl : (l.take N).length = N := by simp; omega
  unfold Bs
  rw [hl]
  refine ⟨by simp; omega, a, c, rfl, by omega, h3, h4, ?_⟩
  rcases h5 with h0 | ⟨b, off, hao, hc⟩
  · exact .inl (by omega)
  · refine .inr ⟨b, off, hao, ?_⟩
    intro j u hj
    have hjn : j < N := by have := (List.getElem?_eq_some_iff.1 hj).1; simp at this; omega
    rw [List.map_take, List.getElem?_take, if_pos hjn] at hj
    exact hc j u hj

theorem below3 (w : World) (o o' o2 : Obj) : Below w.heap.size w (((w.alloc o).alloc o').alloc o2).drew := ((((Below.refl _ _).alloc (Nat.le_refl _) _).alloc (by simp) _).alloc (by simp; omega) _).drew
theorem below4 (w : World) (o o' o2 o3 : Obj) : Below w.heap.size w ((((w.alloc o).alloc o').alloc o2).alloc o3).drew := (((((Below.refl _ _).alloc (Nat.le_refl _) _).alloc (by simp) _).alloc (by simp; omega) _).alloc (by simp; omega) _).drew

theorem cell11 (w : World) (v : Value) : (w.alloc (.cells #[v] 22)).drew.cell? ⟨w.heap.size, 0, none⟩ = some v := by
  show (w.alloc (.cells #[v] 22)).cell? ⟨w.heap.size, 0, none⟩ = some v
  rw [World.cell?_alloc_at _ _ _ _ (by simp)]
  rfl

theorem cell21 (w : World) (v : Value) (o2 : Obj) : ((w.alloc (.cells #[v] 22)).alloc o2).drew.cell? ⟨w.heap.size, 0, none⟩ = some v := by
  show ((w.alloc (.cells #[v] 22)).alloc o2).cell? ⟨w.heap.size, 0, none⟩ = some v
  rw [World.cell?_alloc_past _ _ _ (by simp; try omega)]
  rw [World.cell?_alloc_at _ _ _ _ (by simp)]
  rfl

theorem cell22 (w : World) (v : Value) (o1 : Obj) : ((w.alloc o1).alloc (.cells #[v] 22)).drew.cell? ⟨w.heap.size + 1, 0, none⟩ = some v := by
  show ((w.alloc o1).alloc (.cells #[v] 22)).cell? ⟨w.heap.size + 1, 0, none⟩ = some v
  rw [World.cell?_alloc_at _ _ _ _ (by simp)]
  rfl

theorem cell31 (w : World) (v : Value) (o2 o3 : Obj) : (((w.alloc (.cells #[v] 22)).alloc o2).alloc o3).drew.cell? ⟨w.heap.size, 0, none⟩ = some v := by
  show (((w.alloc (.cells #[v] 22)).alloc o2).alloc o3).cell? ⟨w.heap.size, 0, none⟩ = some v
  rw [World.cell?_alloc_past _ _ _ (by simp; try omega)]
  rw [World.cell?_alloc_past _ _ _ (by simp; try omega)]
  rw [World.cell?_alloc_at _ _ _ _ (by simp)]
  rfl

theorem cell32 (w : World) (v : Value) (o1 o3 : Obj) : (((w.alloc o1).alloc (.cells #[v] 22)).alloc o3).drew.cell? ⟨w.heap.size + 1, 0, none⟩ = some v := by
  show (((w.alloc o1).alloc (.cells #[v] 22)).alloc o3).cell? ⟨w.heap.size + 1, 0, none⟩ = some v
  rw [World.cell?_alloc_past _ _ _ (by simp; try omega)]
  rw [World.cell?_alloc_at _ _ _ _ (by simp)]
  rfl

theorem cell33 (w : World) (v : Value) (o1 o2 : Obj) : (((w.alloc o1).alloc o2).alloc (.cells #[v] 22)).drew.cell? ⟨w.heap.size + 1 + 1, 0, none⟩ = some v := by
  show (((w.alloc o1).alloc o2).alloc (.cells #[v] 22)).cell? ⟨w.heap.size + 1 + 1, 0, none⟩ = some v
  rw [World.cell?_alloc_at _ _ _ _ (by simp)]
  rfl

theorem cell41 (w : World) (v : Value) (o2 o3 o4 : Obj) : ((((w.alloc (.cells #[v] 22)).alloc o2).alloc o3).alloc o4).drew.cell? ⟨w.heap.size, 0, none⟩ = some v := by
  show ((((w.alloc (.cells #[v] 22)).alloc o2).alloc o3).alloc o4).cell? ⟨w.heap.size, 0, none⟩ = some v
  rw [World.cell?_alloc_past _ _ _ (by simp; try omega)]
  rw [World.cell?_alloc_past _ _ _ (by simp; try omega)]
  rw [World.cell?_alloc_past _ _ _ (by simp; try omega)]
  rw [World.cell?_alloc_at _ _ _ _ (by simp)]
  rfl

theorem cell42 (w : World) (v : Value) (o1 o3 o4 : Obj) : ((((w.alloc o1).alloc (.cells #[v] 22)).alloc o3).alloc o4).drew.cell? ⟨w.heap.size + 1, 0, none⟩ = some v := by
  show ((((w.alloc o1).alloc (.cells #[v] 22)).alloc o3).alloc o4).cell? ⟨w.heap.size + 1, 0, none⟩ = some v
  rw [World.cell?_alloc_past _ _ _ (by simp; try omega)]
  rw [World.cell?_alloc_past _ _ _ (by simp; try omega)]
  rw [World.cell?_alloc_at _ _ _ _ (by simp)]
  rfl

theorem cell43 (w : World) (v : Value) (o1 o2 o4 : Obj) : ((((w.alloc o1).alloc o2).alloc (.cells #[v] 22)).alloc o4).drew.cell? ⟨w.heap.size + 1 + 1, 0, none⟩ = some v := by
  show ((((w.alloc o1).alloc o2).alloc (.cells #[v] 22)).alloc o4).cell? ⟨w.heap.size + 1 + 1, 0, none⟩ = some v
  rw [World.cell?_alloc_past _ _ _ (by simp; try omega)]
  rw [World.cell?_alloc_at _ _ _ _ (by simp)]
  rfl

theorem cell44 (w : World) (v : Value) (o1 o2 o3 : Obj) : ((((w.alloc o1).alloc o2).alloc o3).alloc (.cells #[v] 22)).drew.cell? ⟨w.heap.size + 1 + 1 + 1, 0, none⟩ = some v := by
  show ((((w.alloc o1).alloc o2).alloc o3).alloc (.cells #[v] 22)).cell? ⟨w.heap.size + 1 + 1 + 1, 0, none⟩ = some v
  rw [World.cell?_alloc_at _ _ _ _ (by simp)]
  rfl

theorem xor_sums (A B C : Nat) (hA : A < 4294967296) (hB : B < 4294967296) (hC : C < 4294967296) : bits BinOp.xor IntKind.u32 (bits BinOp.xor IntKind.u32 (A : Int) (B : Int)) (C : Int) = ((A ^^^ B ^^^ C : Nat) : Int) := by
  have h1 := Nat.xor_lt_two_pow (n := 32) hA hB
  rw [u32_xor_nat _ _ hA hB, u32_xor_nat _ _ (by omega) hC]

theorem min4 (a b c : Nat) : ∃ N : Nat, N ≤ a ∧ N ≤ b ∧ N ≤ c ∧ N ≤ 300 ∧ ∀ W : World, (Builtin.min_ #[3, 3, 3, 3] 3 #[.int .i64 a, .int .i64 b, .int .i64 c, .int .i64 300]).run Try.prog W = .ok (.int .i64 N) W := by
  refine ⟨min (min (min a b) c) 300, by omega, by omega, by omega, by omega, fun W => ?_⟩
  simp only [Builtin.min_, List.foldlM, Builtin.min2, Sem.run_pure, pure_bind]
  congr 2
  split <;> split <;> split <;> omega

end Go.Proofs.Ytjbgfgpclkabjaa
