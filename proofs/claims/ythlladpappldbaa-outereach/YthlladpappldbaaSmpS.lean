/-
  sample: of all numbers all are drawn; what the statements' speaks says.
-/
import Derived.Test.YthlladpappldbaaSmpC
import Derived.Test.YthlladpappldbaaRngS
namespace Go.Proofs.Ythlladpappldbaa
open Go.RowKit
set_option linter.unusedVariables false

theorem risen (l : List Int) : ∀ a : Int, l.Pairwise (· < ·) → (∀ x ∈ l, a ≤ x ∧ x < a + l.length) → l = (List.range l.length).map (fun i : Nat => a + i) := by
  induction l with
  | nil => intro a _ _; rfl
  | cons x l ih =>
    intro a hp hx
    rw [List.pairwise_cons] at hp
    have h0 := hx x (by simp)
    have h1 := ih (a + 1) hp.2 (fun y hy => by
      have e1 := hp.1 y hy
      have e2 := hx y (by simp [hy])
      simp at e2
      omega)
    have hxa : x = a := by
      by_cases hl : l.length = 0
      · simp [hl] at h0
        omega
      · have h2 : a + 1 ∈ l := by
          rw [h1]
          rw [List.mem_map]
          exact ⟨0, by simp; omega, by simp⟩
        have := hp.1 _ h2
        omega
    subst hxa
    rw [List.length_cons, List.range_succ_eq_map, List.map_cons, List.map_map]
    have e : l = (List.range l.length).map ((fun i : Nat => x + (i : Int)) ∘ Nat.succ) := by
      conv => lhs; rw [h1]
      apply List.map_congr_left
      intro i _
      simp
      omega
    simp only [Int.ofNat_zero, Int.add_zero]
    rw [← e]

/-- Of all numbers all are drawn. -/
theorem someD_all (s n : Nat) : (someD s n n).2 = (List.range n).map (fun i : Nat => (i : Int)) := by
  have hl := someD_length s n n
  have hk : howMany n n = n := by unfold howMany; split <;> omega
  rw [hk] at hl
  have h := risen (someD s n n).2 0 (someD_rises s n n) (fun x hx => by have := someD_mem hx; rw [hl]; omega)
  rw [hl] at h
  rw [h]
  apply List.map_congr_left
  intro i _
  simp

theorem us_lit (w : World) (t : TypeId) (x : Nat) (hx : x < 18446744073709551616) (b : Nat) (hb : b = w.heap.size) : Us (w.alloc (.cells #[.int .u64 (x : Int)] t)) (.slice (some ⟨b, 0, none⟩) 1 1) [x] := ⟨Sl.lit w [uv x] t b 1 hb rfl (by simp), by simpa using hx⟩

theorem zs_lit3 (w : World) (a b c : Int) (t : TypeId) (q : Nat) (hq : q = w.heap.size) : Zs (w.alloc (.cells #[.int .i64 a, .int .i64 b, .int .i64 c] t)) (.slice (some ⟨q, 0, none⟩) 3 3) [a, b, c] := Sl.lit w [.int .i64 a, .int .i64 b, .int .i64 c] t q 3 hq rfl (by simp)
theorem zs_lit2 (w : World) (a b : Int) (t : TypeId) (q : Nat) (hq : q = w.heap.size) : Zs (w.alloc (.cells #[.int .i64 a, .int .i64 b] t)) (.slice (some ⟨q, 0, none⟩) 2 2) [a, b] := Sl.lit w [.int .i64 a, .int .i64 b] t q 2 hq rfl (by simp)
theorem zs_lit1 (w : World) (a : Int) (t : TypeId) (q : Nat) (hq : q = w.heap.size) : Zs (w.alloc (.cells #[.int .i64 a] t)) (.slice (some ⟨q, 0, none⟩) 1 1) [a] := Sl.lit w [.int .i64 a] t q 1 hq rfl (by simp)

theorem below_keeps {w w1 W : World} {r : Nat} (h : Below w.heap.size w w1) (hr : w.heap.size ≤ r) (hk : KeepsBut (fun x => x = r) w1 W) : Below w.heap.size w W := h.trans (hk.below h.size (fun k e => by omega))

/-- Numbers of one's own stay where an older block alone is changed. -/
theorem OwnZ.keeps {B r : Nat} {w w' : World} {v : Value} {n : Nat} {l : List Int} (h : OwnZ B w v n l) (hr : r < B) (hk : KeepsBut (fun x => x = r) w w') : OwnZ B w' v n l :=
  h.kept (fun q hq => hk.block q (h.lt q hq).2 (by have := (h.lt q hq).1; omega))

set_option maxRecDepth 100000 in
set_option maxHeartbeats 1000000 in
theorem speaks9_any (w : World) : Calls Try.prog 11 #[] w fun e w' => e = .returned (.bool true) ∧ Below w.heap.size w w' := by
  go_enter Try.func11, Try.ntmps11
  go_wp2_with fail
  refine (rnew_any _ [5] _ (us_lit _ _ 5 (by decide) _ rfl)).mono ?_
  rintro e w1 ⟨rfl, hr1, hb1, -⟩
  have B1 : Hid (Below w.heap.size w w1) := below_on (below_alloc _ _) hb1
  have Z1 : Hid (w.heap.size ≤ (w.alloc (.cells #[.int .u64 (5 : Int)] 26)).heap.size) := by unfold Hid; simp
  obtain ⟨r, hr⟩ : ∃ r, (w.alloc (.cells #[.int .u64 (5 : Int)] 26)).heap.size = r := ⟨_, rfl⟩
  have hr' : (w.alloc (.cells #[.int .u64 ((5 : Nat) : Int)] 26)).heap.size = r := hr
  rw [hr] at Z1
  rw [hr'] at hr1 ⊢
  have R1 : Hid (IsRand w1 r (seedTo 0 [5])) := hr1
  clear hr1 hb1 hr hr'
  generalize seedTo 0 [5] = s5 at *
  obtain ⟨⟨t, l⟩, hT⟩ : ∃ p, someD s5 3 3 = p := ⟨_, rfl⟩
  have HL : Hid (l = [0, 1, 2]) := by
    have := someD_all s5 3
    rw [show ((3 : Nat) : Int) = 3 from rfl, hT] at this
    exact this
  go_wp2_with fail
  refine (some_any r s5 3 3 _ R1.out (by decide) 3 (by decide) t l hT).mono ?_
  rintro e w2 ⟨a2, c2, rfl, ho2, hr2, hk2⟩
  have O2 : Hid (OwnZ w1.heap.size w2 (.slice a2 3 c2) 3 l) := ho2
  have R2 : Hid (IsRand w2 r t) := hr2
  have B2 : Hid (Below w.heap.size w w2) := below_keeps B1.out Z1.out hk2
  clear ho2 hr2 hk2 B1 R1 hT
  go_wp2_with fail
  refine (same9_any _ _ l [0, 1, 2] _ (O2.out.zs.below (below_alloc _ _)) (zs_lit3 _ _ _ _ _ _ rfl)).mono ?_
  rintro e w3 ⟨rfl, hb3⟩
  rw [HL.out, sameI_self]
  have B3 : Hid (Below w.heap.size w w3) := below_on (below_on B2.out (below_alloc _ _)) hb3
  have R3 : Hid (IsRand w3 r t) := (R2.out.below (below_alloc _ _)).below hb3
  clear hb3 O2 R2 B2
  go_wp2_with fail
  refine (some_any r t 0 4 _ R3.out (by decide) 0 (by decide) t [] (by unfold Hid; exact someD_none (.inr (by decide)))).mono ?_
  rintro e w4 ⟨a4, c4, rfl, -, -, hk4⟩
  have B4 : Hid (Below w.heap.size w w4) := below_keeps B3.out Z1.out hk4
  clear hk4 R3 B3
  go_wp2_with fail
  refine (shas_any 5 _ [2, 5] _ (zs_lit2 _ _ _ _ _ rfl) (by simp) (by simp)).mono ?_
  rintro e w5 ⟨rfl, hb5⟩
  rw [show decide ((5 : Int) ∈ [2, (5 : Int)]) = true from by decide]
  have B5 : Hid (Below w.heap.size w w5) := below_on (below_on B4.out (below_alloc _ _)) hb5
  clear hb5 B4
  go_wp2_with fail
  refine (shas_any 3 _ [2, 5] _ (zs_lit2 _ _ _ _ _ rfl) (by simp) (by simp)).mono ?_
  rintro e w6 ⟨rfl, hb6⟩
  rw [show decide ((3 : Int) ∈ [2, (5 : Int)]) = false from by decide]
  have B6 : Hid (Below w.heap.size w w6) := below_on (below_on B5.out (below_alloc _ _)) hb6
  clear hb6 B5
  go_wp2
  go_ret
  exact ⟨rfl, B6.out⟩

end Go.Proofs.Ythlladpappldbaa
