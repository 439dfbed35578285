/-
  Seeds, a generator, lists of one's own as values of a drawn region; Params as numbers from 0 on.
-/
import Derived.Test.YtbnedpjfgadkkaaLInts
import Derived.Test.YtbnedpjfgadkkaaRngC
import Derived.Test.YtbnedpjfgadkkaaParB
import Derived.Test.YtbnedpjfgadkkaaLHeap
namespace Go.Proofs.Ytbnedpjfgadkkaa
open Go.RowKit
set_option linter.unusedVariables false

def IsUs (l : List Nat) : Value → World → Prop := fun v W => Us W v l
theorem stays_us (l : List Nat) : Stays (IsUs l) := fun _ _ _ hb h => Us.below h hb
def IsRd (B s : Nat) : Value → World → Prop := fun v W => ∃ r, v = .pointer (some ⟨r, 0, none⟩) ∧ B ≤ r ∧ IsRand W r s
theorem stays_rd (B s : Nat) : Stays (IsRd B s) := fun _ _ _ hb ⟨r, h1, h2, h3⟩ => ⟨r, h1, h2, h3.below hb⟩
def IsOz (B n : Nat) (l : List Int) : Value → World → Prop := fun v W => ∃ a c, v = .slice a n c ∧ OwnZ B W (.slice a n c) n l
theorem stays_oz (B n : Nat) (l : List Int) : Stays (IsOz B n l) := fun _ _ _ hb ⟨a, c, h1, h2⟩ => ⟨a, c, h1, h2.below hb⟩
theorem IsOz.zs {B n : Nat} {l : List Int} {v : Value} {W : World} (h : IsOz B n l v W) : Zs W v l := by
  obtain ⟨a, c, rfl, h⟩ := h
  exact h.zs
theorem us_lit3 (w : World) (t : TypeId) (x y z : Nat) (hx : x < 18446744073709551616) (hy : y < 18446744073709551616) (hz : z < 18446744073709551616) (b : Nat) (hb : b = w.heap.size) : Us (w.alloc (.cells #[.int .u64 (x : Int), .int .u64 (y : Int), .int .u64 (z : Int)] t)) (.slice (some ⟨b, 0, none⟩) 3 3) [x, y, z] :=
  ⟨Sl.lit w [uv x, uv y, uv z] t b 3 hb rfl (by simp), by intro q hq; simp at hq; rcases hq with rfl | rfl | rfl <;> assumption⟩
def IsTo (B t n : Nat) (l : List Int) : Value → World → Prop := fun v W => ∃ a c, v = .tuple #[.int .u64 (t : Int), .slice a n c] ∧ OwnZ B W (.slice a n c) n l
theorem stays_to (B t n : Nat) (l : List Int) : Stays (IsTo B t n l) := fun _ _ _ hb ⟨a, c, h1, h2⟩ => ⟨a, c, h1, h2.below hb⟩

/-- Params that may be, and what is made of them. -/
structure PrOk (N B Q E F : Int) (n q A : Nat) : Prop where
  may : May N B Q E F
  en : N = (n : Int)
  eq : Q = (q : Int)
  ea : aux N Q E = (A : Int)

theorem PrOk.of {N B Q E F : Int} (h : May N B Q E F) : ∃ n q A, PrOk N B Q E F n q A := by
  obtain ⟨h1, h2, h3, h4, h5, h6⟩ := h
  have r := aux_range h1 h3 h4
  exact ⟨N.toNat, Q.toNat, (aux N Q E).toNat, ⟨h1, h2, h3, h4, h5, h6⟩, by omega, by omega, by omega⟩

end Go.Proofs.Ytbnedpjfgadkkaa
