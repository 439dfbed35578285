/-
  rng: the statements' own first look; RngMixes and RngApart.
-/
import Derived.Test.YtbnedpjfgadkkaaRngD
namespace Go.Proofs.Ytbnedpjfgadkkaa
open Go.RowKit
set_option linter.unusedVariables false

theorem mix_first : mix (addS 0) = 16294208416658607535 := by decide
theorem below_one (s : Nat) : (belowD s 1).2 = 0 := by
  rw [belowD_some (by decide)]
  show (((fairD (fewOf (1 : Int).toNat) 15 s).2 % 1 : Nat) : Int) = 0
  rw [Nat.mod_one]
  rfl

theorem below_on {w w1 W : World} (h : Below w.heap.size w w1) (h2 : Below w1.heap.size w1 W) : Below w.heap.size w W := h.trans (h2.mono h.size)

theorem us_none (w : World) : Us w (.slice none 0 0) [] := ⟨⟨rfl, none, 0, rfl, Nat.le_refl _, by unfold maxLen; omega, by simp, .inl rfl⟩, by simp⟩
theorem us_one (w : World) (t : TypeId) (b : Nat) (hb : b = w.heap.size) : Us (w.alloc (.cells #[.int .u64 1] t)) (.slice (some ⟨b, 0, none⟩) 1 1) [1] := ⟨Sl.lit w [uv 1] t b 1 hb rfl (by simp), by simp⟩

theorem beq_beq {a b x y : Int} (h : ¬ a = b) (k : ¬ x = y) : ((a == b) == (x == y)) = true := by
  rw [beq_false_of_ne h, beq_false_of_ne k]
  rfl

theorem u64_nat {x : Int} (h : (Lit.int .u64 x).wf = true) : ∃ n : Nat, x = n ∧ n < 18446744073709551616 := by
  simp [Lit.wf, IntKind.min, IntKind.max, IntKind.bits, IntKind.signed] at h
  exact ⟨x.toNat, by omega, by omega⟩

theorem us_of {w : World} {v : Value} {l : List Int} (h1 : Sl 1 w v l.length (l.map (Value.int .u64))) (h2 : ∀ z ∈ l, (Lit.int .u64 z).wf = true) : ∃ s : List Nat, Us w v s := by
  refine ⟨l.map Int.toNat, ?_, ?_⟩
  · have e : (l.map Int.toNat).map uv = l.map (Value.int .u64) := by
      rw [List.map_map]
      apply List.map_congr_left
      intro z hz
      obtain ⟨n, rfl, _⟩ := u64_nat (h2 z hz)
      simp [uv]
    rw [e, List.length_map]
    exact h1
  · intro x hx
    obtain ⟨z, hz, rfl⟩ := List.mem_map.1 hx
    obtain ⟨n, rfl, hn⟩ := u64_nat (h2 z hz)
    simpa using hn

end Go.Proofs.Ytbnedpjfgadkkaa
