/-
  The walks of package block, second part: Xor, Sum, Zero.
-/
import Derived.Test.YtbnedpjfgadkkaaBlkA
namespace Go.Proofs.Ytbnedpjfgadkkaa
open Go.RowKit
set_option linter.unusedVariables false

theorem all_fit (n : Nat) (ls : List (List UInt8)) : (ls.all fun l => decide ((l.length : Int) = (n : Int))) = fitB n ls := by
  unfold fitB
  congr 1
  funext l
  rw [Bool.eq_iff_iff]
  simp
  omega

theorem made_blk {w2 : World} {base q n : Nat} (ho : w2.ownsRow base 5 1 (.slice (some ⟨q, 0, none⟩) n n) n (madeCells (Value.int .u8 0).cells (n * 1)).toList) : Blk w2 q [] (zeros n) [] := by
  simp only [Value.cells, Nat.mul_one, toList_madeCells_one] at ho
  have e : List.replicate n (Value.int .u8 0) = (zeros n).map bv := by simp [zeros, bv]
  rw [e] at ho
  obtain ⟨_, post, hb, hl⟩ := owned_blk ho
  have : post = [] := List.eq_nil_of_length_eq_zero (by omega)
  subst this
  exact hb

/-- What was there stays, where something new alone is written. -/
theorem Sl.new {size : Nat} {w w' : World} {v : Value} {n : Nat} {cs : List Value} (h : Sl size w v n cs) (hg : w.grownBy w' none) : Sl size w' v n cs :=
  h.carry fun _ _ hp => hg.cell hp (by simp)

theorem below_new {w w' : World} (hg : w.grownBy w' none) : Below w.heap.size w w' := (Below.refl _ _).grown hg (Nat.le_refl _) (by intro k hk; cases hk)

/-- A call that writes one new block alone. -/
theorem below_grown {B : Nat} {w w1 w2 : World} {q : Nat} (hb : Below B w w1) (hg : w1.grownBy w2 (some q)) (hB : B ≤ w1.heap.size) (hq : B ≤ q) : Below B w w2 :=
  hb.grown hg hB (fun k hk => by injection hk with hk; omega)

end Go.Proofs.Ytbnedpjfgadkkaa
