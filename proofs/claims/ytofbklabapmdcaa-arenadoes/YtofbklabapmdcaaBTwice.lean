/-
  The walk of the statement BlockTwice.
-/
import Derived.Test.YtofbklabapmdcaaBlkS
import Derived.Test.YtofbklabapmdcaaLSlice
import Derived.Deep.QuietTactic
import Derived.BigQuiet
namespace Go.Proofs.Ytofbklabapmdcaa
open Go.RowKit
set_option linter.unusedVariables false

theorem parts_nil (w : World) : Parts w [] [] := ⟨rfl, fun i v p h => by simp at h⟩
theorem parts_cons {w : World} {v : Value} {l : List UInt8} {vs : List Value} {ls : List (List UInt8)} (h : Bs w v l) (hs : Parts w vs ls) : Parts w (v :: vs) (l :: ls) := by
  refine ⟨by simp [hs.1], fun i u p hu hp => ?_⟩
  cases i with
  | zero =>
    simp at hu hp
    subst hu; subst hp
    exact h
  | succ i => exact hs.2 i u p (by simpa using hu) (by simpa using hp)

/-- Sum of a row that was just laid. -/
theorem sum_top (n : Nat) (us : List Value) (ls : List (List UInt8)) (w : World) (hn : n ≤ 16777216) (hps : Parts w us ls) (hf : fitB n ls = true) (C : Array Value) (hC : C = us.toArray) (k r : Nat) (hk : k = us.length) (hr : r = w.heap.size) (hk2 : us.length ≤ 1000000) :
    Calls Try.prog 28 #[.int .i64 n, .slice (some ⟨r, 0, none⟩) k k] (w.alloc (.cells C 28)) fun e w' => e = .returned (.tuple #[.slice (some ⟨w.heap.size + 1, 0, none⟩) n n, .bool true]) ∧ Blk w' (w.heap.size + 1) [] (xorAll (zeros n) ls) [] ∧ Below w.heap.size w w' := by
  subst hC; subst hk; subst hr
  refine (sum_yes n _ us ls _ hn (Sl.lit w us _ _ _ rfl rfl hk2) (hps.below (below_alloc _ _)) hf).mono ?_
  rintro e w' ⟨rfl, h1, h2⟩
  rw [World.size_alloc] at h1 h2 ⊢
  exact ⟨rfl, h1, (below_alloc _ _).trans (h2.mono (by omega))⟩

theorem twice_orders {n : Nat} {a b c : List UInt8} (ha : a.length = n) (hb : b.length = n) (hc : c.length = n) :
    xorAll (zeros n) [c, a, b] = xorAll (zeros n) [a, b, c] ∧ xorAll (zeros n) [a, b, a, c, b] = c ∧ xorAll (zeros n) [xorAll (zeros n) [a, b, c], a, b, c] = zeros n := by
  have h2 : (xorL a b).length = n := by rw [xorL_length (by omega), ha]
  have h3 : (xorL (xorL a b) c).length = n := by rw [xorL_length (by omega), h2]
  refine ⟨?_, ?_, ?_⟩
  · rw [xorAll_first hc, xorAll_first ha]
    show xorL (xorL c a) b = xorL (xorL a b) c
    rw [xorL_comm c a, xorL_right_comm]
  · rw [xorAll_first ha]
    show xorL (xorL (xorL (xorL a b) a) c) b = c
    rw [xorL_comm a b, xorL_twice (a := b) (b := a) (by omega), xorL_comm b c, xorL_twice (by omega)]
  · rw [xorAll_first ha]
    have e : xorAll a [b, c] = xorL (xorL a b) c := rfl
    rw [e, xorAll_first h3]
    show xorL (xorL (xorL (xorL (xorL a b) c) a) b) c = zeros n
    generalize hd : xorL (xorL a b) c = d at *
    rw [xorL_assoc d a b, xorL_assoc d (xorL a b) c, hd, xorL_self, h3]

end Go.Proofs.Ytofbklabapmdcaa
