/-
  Which numbers an act speaks of: some two numbers.
-/
import Derived.Test.YtofbklabapmdcaaDoB
import Derived.Test.YtofbklabapmdcaaBPieces
namespace Go.Proofs.Ytofbklabapmdcaa
open Go.RowKit
set_option linter.unusedVariables false

def natRow (es : List Nat) : List Value := es.map fun i : Nat => Value.int .i64 (i : Int)

theorem natRow_at {es : List Nat} {j : Nat} (h : j < es.length) : (natRow es)[j]? = some (.int .i64 (es[j] : Int)) := by
  simp [natRow, h]

theorem tmod_range (I : Int) (n : Nat) (hn : 0 < n) : ∃ (r : Int) (x : Nat), I.tmod (n : Int) = r ∧ -(n : Int) < r ∧ r < (n : Int) ∧ (r + (n : Int)).tmod (n : Int) = (x : Int) ∧ x < n := by
  have h1 : I.tmod (n : Int) < (n : Int) := Int.tmod_lt_of_pos I (by omega)
  have h2 : -(n : Int) < I.tmod (n : Int) := by
    rcases Int.le_total 0 I with h | h
    · have := Int.tmod_nonneg (n : Int) h
      omega
    · have h3 : (-I).tmod (n : Int) < (n : Int) := Int.tmod_lt_of_pos _ (by omega)
      rw [Int.neg_tmod] at h3
      omega
  have h4 : 0 ≤ (I.tmod (n : Int) + (n : Int)).tmod (n : Int) := Int.tmod_nonneg _ (by omega)
  have h5 : (I.tmod (n : Int) + (n : Int)).tmod (n : Int) < (n : Int) := Int.tmod_lt_of_pos _ (by omega)
  exact ⟨_, ((I.tmod (n : Int) + (n : Int)).tmod (n : Int)).toNat, rfl, h2, h1, by omega, by omega⟩

set_option maxHeartbeats 800000 in
set_option maxRecDepth 100000 in
theorem meant_any (kd I K : Int) (ev : Bool) (ab : Option Addr) (lb cb : Nat) (ve : Value) (es : List Nat) (w : World) (h : Sl 1 w ve es.length (natRow es)) (hl : es.length ≤ 1000) :
    Calls Try.prog 6 #[.agg #[.int .i64 kd, .int .i64 I, .int .i64 K, .bool ev, .slice ab lb cb], ve] w fun e w' => ∃ i k : Int, e = .returned (.tuple #[.int .i64 i, .int .i64 k]) ∧ Below w.heap.size w w' := by
  obtain ⟨-, ao, cap, rfl, h2, h3, -, h5⟩ := h
  unfold maxLen at h3
  obtain ⟨n, hn⟩ : ∃ n, es.length = n := ⟨_, rfl⟩
  rw [hn] at h2 h5 hl ⊢
  have Hn : Hid (es.length = n) := hn
  clear hn
  have X1 : Hid (Below w.heap.size w (w.alloc (.cells #[.int .i64 kd, .int .i64 I, .int .i64 K, .bool ev, .slice ab lb cb] 30))) := below_alloc _ _
  cases ev with
  | false =>
    clear h5
    go_enter Try.func6, Try.ntmps6
    go_wp2
    go_quiet (fail)
    go_wp2
    go_ret2
    exact ⟨_, _, rfl, below_drewN X1.out _⟩
  | true =>
    by_cases h0 : n = 0
    · subst h0
      clear h5
      go_enter Try.func6, Try.ntmps6
      go_wp2
      go_quiet (fail)
      go_wp2
      go_ret2
      exact ⟨_, _, rfl, below_drewN X1.out _⟩
    · rcases h5 with h | ⟨b, off, rfl, hc⟩
      · omega
      obtain ⟨r, x, hr, hr1, hr2, hx, hxn⟩ := tmod_range I n (by omega)
      obtain ⟨s, y, hs, hs1, hs2, hy, hyn⟩ := tmod_range K n (by omega)
      have hn0 : ((n : Int) == 0) = false := by simp; omega
      have hnz : (n : Int) ≠ 0 := by omega
      have p1 := wrap_i64 ((n : Int) - 1) (by omega) (by omega)
      have p2 := wrap_i64 (r + (n : Int)) (by omega) (by omega)
      have p3 := wrap_i64 (s + (n : Int)) (by omega) (by omega)
      have e4 : (n : Int) - 1 - (x : Int) = ((n - 1 - x : Nat) : Int) := by omega
      have e5 : (n : Int) - 1 - (y : Int) = ((n - 1 - y : Nat) : Int) := by omega
      obtain ⟨ux, hX⟩ : ∃ u : Nat, w.cell? ⟨b, off + (n - 1 - x), none⟩ = some (.int .i64 (u : Int)) := ⟨_, hc (n - 1 - x) _ (natRow_at (by rw [Hn.out]; omega))⟩
      obtain ⟨uy, hY⟩ : ∃ u : Nat, w.cell? ⟨b, off + (n - 1 - y), none⟩ = some (.int .i64 (u : Int)) := ⟨_, hc (n - 1 - y) _ (natRow_at (by rw [Hn.out]; omega))⟩
      have hX1 : (w.alloc (.cells #[.int .i64 kd, .int .i64 I, .int .i64 K, .bool true, .slice ab lb cb] 30)).cell? ⟨b, off + (n - 1 - x), none⟩ = _ := (X1.out.cell (cell_block_lt hX)).trans hX
      have hY1 : (w.alloc (.cells #[.int .i64 kd, .int .i64 I, .int .i64 K, .bool true, .slice ab lb cb] 30)).cell? ⟨b, off + (n - 1 - y), none⟩ = _ := (X1.out.cell (cell_block_lt hY)).trans hY
      have hXn : n - 1 - x < n := by omega
      have hYn : n - 1 - y < n := by omega
      generalize n - 1 - x = jx at *
      generalize n - 1 - y = jy at *
      have p4 := wrap_i64 ((n : Int) - 1 - (x : Int)) (by omega) (by omega)
      have p5 := wrap_i64 ((n : Int) - 1 - (y : Int)) (by omega) (by omega)
      rw [e4] at p4
      rw [e5] at p5
      clear hc hX hY
      go_enter Try.func6, Try.ntmps6
      go_wp2
      go_quiet (fail)
      go_wp2
      go_ret2
      exact ⟨_, _, rfl, below_drewN X1.out _⟩

end Go.Proofs.Ytofbklabapmdcaa
