/-
  The walks of the document's own answers for frames: Get, number, Same.
-/
import Derived.Test.YtecohgmllmddhaaFrG
namespace Go.Proofs.Ytecohgmllmddhaa
open Go.RowKit
set_option linter.unusedVariables false

theorem add64_nat (m : Nat) (y : UInt8) (hm : m < 18446744073709551616) : IntKind.u64.wrap (IntKind.u64.wrap ((m : Int) * 256) + (y.toNat : Int)) = (((m * 256 + y.toNat) % 18446744073709551616 : Nat) : Int) := by
  have hwr : ∀ x : Int, IntKind.u64.wrap x = x % 18446744073709551616 := by intro x; simp [IntKind.wrap, IntKind.bits, IntKind.signed]
  rw [hwr, hwr]
  omega

theorem conv_bytes {W : World} {v : Value} {l : List UInt8} (h : Bs W v l) : (convert 27 9 v).run Try.prog W = .ok (.string (str l)) W := by
  obtain ⟨hl, ao, cap, rfl, hnc, hcm, hn0, hc⟩ := h
  rw [run_convert_bytes_string W 27 9 5 ao l.length cap Try.underlying27 Try.underlying5 Try.underlying9]
  cases ao with
  | none =>
    have : l = [] := List.eq_nil_of_length_eq_zero (by have := hn0 rfl; omega)
    subst this
    simp [Conv.bytesToString, Sem.run_pure, str]
    rfl
  | some a =>
    have hld : (loadCells a l.length).run Try.prog W = .ok ((l.map fun b => (b.toNat : Int)).map (Value.int .u8)).toArray W := by
      have e : (l.map fun b => (b.toNat : Int)).map (Value.int .u8) = l.map bv := by rw [List.map_map]; rfl
      rw [e]
      have h1 := run_loadCells_list (P := Try.prog) W a (l.map bv) ?_
      · rw [List.length_map] at h1
        exact h1
      · intro j u hj
        rcases hc with h0 | ⟨b, off, hao, hc⟩
        · have := (List.getElem?_eq_some_iff.1 hj).1
          simp at this
          omega
        · obtain rfl := Option.some.inj hao
          rw [Addr.add_lit]
          exact hc j u hj
    rw [run_bytesToString W a l.length cap _ hld, foldl_push]
    simp [str]

set_option maxRecDepth 100000 in
set_option maxHeartbeats 1000000 in
/-- The document's Same, of packets that are one. -/
theorem same6_yes (S N B Q E F L I : Int) (a1 a2 : Option Addr) (n1 n2 k1 k2 : Nat) (p : List UInt8) (w : World) (h1 : Bs w (.slice a1 n1 k1) p) (h2 : Bs w (.slice a2 n2 k2) p) :
    Calls Try.prog 36 #[.agg #[.int .u64 S, .int .i64 N, .int .i64 B, .int .i64 Q, .int .i64 E, .int .i64 F, .int .i64 L, .int .u64 I, .slice a1 n1 k1], .agg #[.int .u64 S, .int .i64 N, .int .i64 B, .int .i64 Q, .int .i64 E, .int .i64 F, .int .i64 L, .int .u64 I, .slice a2 n2 k2]] w fun e w' => e = .returned (.bool true) ∧ Below w.heap.size w w' := by
  have q1 := fun o o' => conv_bytes ((h1.below (below_alloc w o)).below (below_alloc (w.alloc o) o'))
  have q2 := fun o o' => conv_bytes ((h2.below (below_alloc w o)).below (below_alloc (w.alloc o) o'))
  clear h1 h2
  go_enter Try.func36, Try.ntmps36
  go_wp2
  go_ret
  exact ⟨rfl, (below_alloc _ _).alloc (by simp) _⟩

end Go.Proofs.Ytecohgmllmddhaa
