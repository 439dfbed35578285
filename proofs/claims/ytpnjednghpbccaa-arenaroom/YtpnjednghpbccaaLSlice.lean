/-
  Pieces of slices, the least and the greatest of numbers: what the operations answer.
-/
import Derived.Test.YtpnjednghpbccaaRows
import Derived.Test.YtpnjednghpbccaaLBlk
import Derived.Test.YtpnjednghpbccaaBlkA
namespace Go.Proofs.Ytpnjednghpbccaa
open Go.RowKit
set_option linter.unusedVariables false

section
variable {P : Program}
theorem slice_to_g (t : TypeId) (ht : P.underlying t = some (.slice (P.elem t))) (s : Nat) (hs : ∀ W, (sizeOf (P.elem t)).run P W = .ok s W) (W : World) (a : Option Addr) (n c N : Nat) (h : N ≤ c) : (Instr.slice t (.slice a n c) none (some (.int .i64 N)) none).run P W = .ok (.slice a N c) W := by
  rw [run_slice_h W t a n c ht .i64 N (by omega) (by omega), hs]
  simp only [Result.andThen, sliced, Int.toNat_natCast, Nat.sub_zero]
  congr 2
  split
  · rfl
  · cases a <;> simp [Addr.add]

theorem slice_to3_g (t : TypeId) (ht : P.underlying t = some (.slice (P.elem t))) (s : Nat) (hs : ∀ W, (sizeOf (P.elem t)).run P W = .ok s W) (W : World) (a : Option Addr) (n c N M : Nat) (h : N ≤ M) (h2 : M ≤ c) : (Instr.slice t (.slice a n c) none (some (.int .i64 N)) (some (.int .i64 M))).run P W = .ok (.slice a N M) W := by
  rw [run_slice_hm W t a n c ht .i64 .i64 N M (by omega) (by omega) (by omega), hs]
  simp only [Result.andThen, sliced, Int.toNat_natCast, Nat.sub_zero]
  congr 2
  split
  · rfl
  · cases a <;> simp [Addr.add]

/-- From T on, S elements. (L: T + S as the walk has it.) -/
theorem slice_mid_g (t : TypeId) (ht : P.underlying t = some (.slice (P.elem t))) (s : Nat) (hs : ∀ W, (sizeOf (P.elem t)).run P W = .ok s W) (W : World) (a : Option Addr) (n c T S : Nat) (h : T + S ≤ c) : (Instr.slice t (.slice a n c) (some (.int .i64 T)) (some (.int .i64 ((T : Int) + (S : Int)))) none).run P W = .ok (.slice (if c = T then a else a.map (·.add (T * s))) S (c - T)) W := by
  rw [run_slice_lh W t a n c ht .i64 .i64 T ((T : Int) + (S : Int)) (by omega) (by omega) (by omega), hs]
  simp only [Result.andThen, sliced, Int.toNat_natCast]
  congr 2
  omega

theorem slice_from_g (t : TypeId) (ht : P.underlying t = some (.slice (P.elem t))) (s : Nat) (hs : ∀ W, (sizeOf (P.elem t)).run P W = .ok s W) (W : World) (a : Option Addr) (n c T : Nat) (h : T ≤ n) : (Instr.slice t (.slice a n c) (some (.int .i64 T)) none none).run P W = .ok (.slice (if c = T then a else a.map (·.add (T * s))) (n - T) (c - T)) W := by
  rw [run_slice_l W t a n c ht .i64 T (by omega) (by omega), hs]
  simp only [Result.andThen, sliced, Int.toNat_natCast]
end

theorem elemBytes : Try.prog.underlying 25 = some (.slice (Try.prog.elem 25)) := by kernel_rfl
theorem sizeBytes (W : World) : (sizeOf (Try.prog.elem 25)).run Try.prog W = .ok 1 W := by
  have he : Try.prog.elem 25 = 5 := by kernel_rfl
  obtain ⟨i0, hi, hz0, hz1, hz2⟩ := info_parts Try.infoByte
  rw [he]
  simp [sizeOf, typeInfo, hi, hz1]

theorem slice_to (W : World) (a : Option Addr) (n c N : Nat) (h : N ≤ c) : (Instr.slice 25 (.slice a n c) none (some (.int .i64 N)) none).run Try.prog W = .ok (.slice a N c) W := slice_to_g 25 elemBytes 1 sizeBytes W a n c N h
theorem slice_to3 (W : World) (a : Option Addr) (n c N M : Nat) (h : N ≤ M) (h2 : M ≤ c) : (Instr.slice 25 (.slice a n c) none (some (.int .i64 N)) (some (.int .i64 M))).run Try.prog W = .ok (.slice a N M) W := slice_to3_g 25 elemBytes 1 sizeBytes W a n c N M h h2
theorem slice_mid (W : World) (a : Option Addr) (n c T S : Nat) (h : T + S ≤ c) : (Instr.slice 25 (.slice a n c) (some (.int .i64 T)) (some (.int .i64 ((T : Int) + (S : Int)))) none).run Try.prog W = .ok (.slice (if c = T then a else a.map (·.add (T * 1))) S (c - T)) W := slice_mid_g 25 elemBytes 1 sizeBytes W a n c T S h
theorem slice_from (W : World) (a : Option Addr) (n c T : Nat) (h : T ≤ n) : (Instr.slice 25 (.slice a n c) (some (.int .i64 T)) none none).run Try.prog W = .ok (.slice (if c = T then a else a.map (·.add (T * 1))) (n - T) (c - T)) W := slice_from_g 25 elemBytes 1 sizeBytes W a n c T h

/-- A piece reads as that piece. -/
theorem Bs.mid {w : World} {a : Option Addr} {n c : Nat} {l : List UInt8} (h : Bs w (.slice a n c) l) (T S : Nat) (hT : T + S ≤ n) : Bs w (.slice (if c = T then a else a.map (·.add (T * 1))) S (c - T)) ((l.drop T).take S) := by
  obtain ⟨h1, a1, c1, hv, h2, h3, h4, h5⟩ := h
  injection hv with e1 e2 e3
  subst e1; subst e2; subst e3
  have hlen : ((l.drop T).take S).length = S := by simp; omega
  unfold Bs
  rw [hlen]
  refine ⟨by simp; omega, _, _, rfl, by omega, by omega, ?_, ?_⟩
  · intro e
    split at e
    · have := h4 e; omega
    · cases a with
      | none => have := h4 rfl; omega
      | some ad => simp at e
  · rcases h5 with h0 | ⟨b, off, hao, hc⟩
    · exact .inl (by omega)
    · by_cases hS : S = 0
      · exact .inl hS
      · refine .inr ⟨b, off + T, ?_, ?_⟩
        · rw [if_neg (by omega), hao]
          simp only [Option.map_some, Nat.mul_one, Addr.add_lit]
        · intro j u hj
          have hjS : j < S := by have := (List.getElem?_eq_some_iff.1 hj).1; simp at this; omega
          rw [List.map_take, List.getElem?_take, if_pos hjS, List.map_drop, List.getElem?_drop] at hj
          rw [Nat.add_assoc]
          exact hc (T + j) u hj

/-- The first N, with no room behind them. -/
theorem Bs.take3 {W : World} {a : Option Addr} {n c N : Nat} {l : List UInt8} (h : Bs W (.slice a n c) l) (hN : N ≤ l.length) : Bs W (.slice a N N) (l.take N) := by
  obtain ⟨h1, a', c', hv, h2, h3, h4, h5⟩ := h.take hN
  injection hv with e1 e2 e3
  subst e1; subst e3
  have hl : (l.take N).length = N := by simp; omega
  unfold Bs
  rw [hl]
  rw [hl] at h5 h1 h2
  exact ⟨h1, a, N, rfl, Nat.le_refl _, by omega, fun e => by have := h4 e; omega, h5⟩

theorem min2 (a B : Nat) (b : Int) (hb : b = (B : Int)) (W : World) : (Builtin.min_ #[3, 3] 3 #[.int .i64 a, .int .i64 b]).run Try.prog W = .ok (.int .i64 ((min a B : Nat) : Int)) W := by
  subst hb
  simp only [Builtin.min_, List.foldlM, Builtin.min2, Sem.run_pure, pure_bind]
  congr 2
  split <;> omega

theorem min3 (a b C : Nat) (c : Int) (hc : c = (C : Int)) (W : World) : (Builtin.min_ #[3, 3, 3] 3 #[.int .i64 a, .int .i64 b, .int .i64 c]).run Try.prog W = .ok (.int .i64 ((min (min a b) C : Nat) : Int)) W := by
  subst hc
  simp only [Builtin.min_, List.foldlM, Builtin.min2, Sem.run_pure, pure_bind]
  congr 2
  split <;> split <;> omega

theorem min4 (a b c D : Nat) (d : Int) (hd : d = (D : Int)) (W : World) : (Builtin.min_ #[3, 3, 3, 3] 3 #[.int .i64 a, .int .i64 b, .int .i64 c, .int .i64 d]).run Try.prog W = .ok (.int .i64 ((min (min (min a b) c) D : Nat) : Int)) W := by
  subst hd
  simp only [Builtin.min_, List.foldlM, Builtin.min2, Sem.run_pure, pure_bind]
  congr 2
  split <;> split <;> split <;> omega

theorem max2 (a b : Int) (W : World) : (Builtin.max_ #[3, 3] 3 #[.int .i64 a, .int .i64 b]).run Try.prog W = .ok (.int .i64 (max a b)) W := by
  simp only [Builtin.max_, List.foldlM, Builtin.max2, Sem.run_pure, pure_bind]
  congr 2
  split <;> omega

end Go.Proofs.Ytpnjednghpbccaa
