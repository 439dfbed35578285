/-
  equation: the document's Odd, and how often a number is there.
-/
import Derived.Test.YtkcijbejngnalaaQE
namespace Go.Proofs.Ytkcijbejngnalaa
open Go.RowKit
set_option linter.unusedVariables false

theorem count_next {l : List Int} {i : Nat} {y : Int} (h : l[i]? = some y) (x : Int) : (l.take (i + 1)).count x = (l.take i).count x + if y = x then 1 else 0 := by
  obtain ⟨hi, rfl⟩ := List.getElem?_eq_some_iff.1 h
  rw [List.take_succ_eq_append_getElem hi, List.count_append, List.count_singleton]
  congr 1
  by_cases e : l[i] = x <;> simp [e]

set_option maxHeartbeats 400000 in
/-- The document's count. -/
theorem rcount_any (x : Int) (v : Value) (l : List Int) (w : World) (h : Zs w v l) :
    Calls Try.prog 55 #[v, .int .i64 x] w fun e w' => e = .returned (.int .i64 (l.count x : Int)) ∧ w' = w := by
  have HZ : Hid (Zs w v l) := h
  obtain ⟨ao, cap, rfl, h2, h3⟩ := zs_shape h
  obtain ⟨m, hm⟩ : ∃ m, l.length = m := ⟨_, rfl⟩
  rw [hm] at h2 HZ ⊢
  have Hm : Hid (l.length = m) := hm
  obtain ⟨C, hC⟩ : ∃ C, l.count x = C := ⟨_, rfl⟩
  have HC : Hid (l.count x = C) := hC
  rw [hC]
  clear hm h hC
  go_enter Try.func55, Try.ntmps55
  go_wp2
  go_loop [5, 6] (fun c i => ∃ k j : Nat, k ≤ m ∧ i = .int .i64 k ∧ c = .int .i64 j ∧ j ≤ k ∧ Hid ((l.take k).count x = j)) (fun _ i => m - (intOf i).toNat)
  case atStart => exact ⟨0, 0, by omega, rfl, rfl, by omega, by simp [Hid]⟩
  case round =>
    obtain ⟨k, j, hk, rfl, rfl, hjk, HE⟩ := hrel
    by_cases hlt : k < m
    · obtain ⟨y, hy⟩ : ∃ y, l[k]? = some y := ⟨_, List.getElem?_eq_getElem (by rw [Hm.out]; exact hlt)⟩
      have HZ' : Zs w (.slice ao m cap) l := HZ.out
      obtain ⟨b, off, rfl, hck⟩ := zs_at HZ' (Below.refl _ _) hy
      have HN : Hid ((l.take (k + 1)).count x = j + if y = x then 1 else 0) := by unfold Hid; rw [count_next hy, HE.out]
      clear HZ' hy HE
      by_cases hyx : y = x
      · have hy' : (y == x) = true := by simpa using hyx
        have HR : Hid ((l.take (k + 1)).count x = j + 1) := by have := HN.out; rw [if_pos hyx] at this; exact this
        clear HN
        go_wp2
        go_round
        case rel => exact ⟨k + 1, j + 1, by omega, by go_num, by go_num, by omega, HR⟩
        case measure => simp [intOf]; omega
      · have hy' : (y == x) = false := by simpa using hyx
        have HR : Hid ((l.take (k + 1)).count x = j) := by have := HN.out; rw [if_neg hyx] at this; exact this
        clear HN
        go_wp2
        go_round
        case rel => exact ⟨k + 1, j, by omega, by go_num, rfl, by omega, HR⟩
        case measure => simp [intOf]; omega
    · have e1 : j = C := by
        have h1 := HE.out
        rw [List.take_of_length_le (by rw [Hm.out]; omega), HC.out] at h1
        exact h1.symm
      clear HE
      go_wp2
      go_ret
      exact ⟨rfl, rfl⟩

/-! Which number is taken next. -/
/-- Is a number still to come, behind the first m that are there an odd number of times? -/
def NextB (L : List Int) (m : Nat) (y : Int) : Prop := y ∈ L.drop m
theorem next_iff {L : List Int} {m : Nat} {y : Int} (hL : L.Pairwise (· < ·)) (hm : m ≤ L.length) : NextB L m y ↔ (m = 0 ∨ ∃ z, L[m - 1]? = some z ∧ z < y) ∧ y ∈ L := by
  unfold NextB
  constructor
  · intro h
    refine ⟨?_, List.mem_of_mem_drop h⟩
    by_cases h0 : m = 0
    · exact .inl h0
    · have hlt : m - 1 < L.length := by omega
      refine .inr ⟨L[m - 1], List.getElem?_eq_getElem hlt, ?_⟩
      obtain ⟨k, hk, e⟩ := List.getElem_of_mem h
      rw [List.getElem_drop] at e
      rw [← e]
      exact List.pairwise_iff_getElem.1 hL (m - 1) (m + k) hlt (by simp at hk; omega) (by omega)
  · rintro ⟨h1, h2⟩
    obtain ⟨k, hk, e⟩ := List.getElem_of_mem h2
    have hmk : m ≤ k := by
      rcases h1 with h1 | ⟨z, hz, hzy⟩
      · omega
      · by_cases h0 : m ≤ k
        · exact h0
        · exfalso
          obtain ⟨hlt, ez⟩ := List.getElem?_eq_some_iff.1 hz
          by_cases h3 : k = m - 1
          · subst h3
            omega
          · have := List.pairwise_iff_getElem.1 hL k (m - 1) hk hlt (by omega)
            omega
    rw [List.mem_drop_iff_getElem]
    exact ⟨k - m, by omega, by rw [← e]; congr 1; omega⟩

/-- The least of the first i that is still to come. -/
def BestI (of L : List Int) (m i : Nat) (b : Int) : Prop := (b = -1 ∧ ∀ k y, k < i → of[k]? = some y → ¬ NextB L m y) ∨ ∃ (j : Nat) (u : Int), b = (j : Int) ∧ j < i ∧ of[j]? = some u ∧ NextB L m u ∧ ∀ k y, k < i → of[k]? = some y → NextB L m y → u ≤ y
theorem BestI.start (of L : List Int) (m : Nat) : BestI of L m 0 (-1) := .inl ⟨rfl, fun k y hk => by omega⟩
theorem BestI.keep {of L : List Int} {m i : Nat} {b y : Int} (h : BestI of L m i b) (hy : of[i]? = some y) (hn : NextB L m y → ∃ (j : Nat) (u : Int), b = (j : Int) ∧ of[j]? = some u ∧ u ≤ y) : BestI of L m (i + 1) b := by
  rcases h with ⟨rfl, h⟩ | ⟨j, u, rfl, hj, hu, hn', hl⟩
  · refine .inl ⟨rfl, fun k z hk hz hnz => ?_⟩
    by_cases e : k = i
    · subst e
      rw [hy] at hz
      obtain rfl := Option.some.inj hz
      obtain ⟨j, u, h1, -⟩ := hn hnz
      omega
    · exact h k z (by omega) hz hnz
  · refine .inr ⟨j, u, rfl, by omega, hu, hn', fun k z hk hz hnz => ?_⟩
    by_cases e : k = i
    · subst e
      rw [hy] at hz
      obtain rfl := Option.some.inj hz
      obtain ⟨j', u', h1, h2, h3⟩ := hn hnz
      have : j = j' := by omega
      subst this
      rw [hu] at h2
      obtain rfl := Option.some.inj h2
      exact h3
    · exact hl k z (by omega) hz hnz
theorem BestI.take {of L : List Int} {m i : Nat} {b y : Int} (h : BestI of L m i b) (hy : of[i]? = some y) (hn : NextB L m y) (hb : b < 0 ∨ ∃ (j : Nat) (u : Int), b = (j : Int) ∧ of[j]? = some u ∧ y < u) : BestI of L m (i + 1) (i : Int) := by
  refine .inr ⟨i, y, rfl, by omega, hy, hn, fun k z hk hz hnz => ?_⟩
  by_cases e : k = i
  · subst e
    rw [hy] at hz
    obtain rfl := Option.some.inj hz
    omega
  · rcases h with ⟨rfl, h⟩ | ⟨j, u, rfl, hj, hu, hn', hl⟩
    · exact absurd hnz (h k z (by omega) hz)
    · have := hl k z (by omega) hz hnz
      rcases hb with hb | ⟨j', u', h1, h2, h3⟩
      · omega
      · have : j = j' := by omega
        subst this
        rw [hu] at h2
        obtain rfl := Option.some.inj h2
        omega
theorem BestI.none {of : List Int} {m : Nat} (h : BestI of (oddD of) m of.length (-1)) : (oddD of).length ≤ m := by
  rcases h with ⟨-, h⟩ | ⟨j, u, e, -⟩
  · by_cases hm : (oddD of).length ≤ m
    · exact hm
    · exfalso
      have hlt : m < (oddD of).length := by omega
      have hmem : (oddD of)[m] ∈ of := mem_oddD (List.getElem_mem hlt)
      obtain ⟨k, hk, e⟩ := List.getElem_of_mem hmem
      refine h k _ hk (List.getElem?_eq_getElem hk) ?_
      rw [e]
      unfold NextB
      rw [List.mem_drop_iff_getElem]
      exact ⟨0, by omega, by simp⟩
  · omega
theorem BestI.some {of : List Int} {m j : Nat} (h : BestI of (oddD of) m of.length (j : Int)) : ∃ u, of[j]? = Option.some u ∧ (oddD of)[m]? = Option.some u := by
  rcases h with ⟨e, -⟩ | ⟨j', u, e, hj, hu, hn, hl⟩
  · omega
  · have : j = j' := by omega
    subst this
    refine ⟨u, hu, ?_⟩
    unfold NextB at hn
    obtain ⟨k, hk, e⟩ := List.getElem_of_mem hn
    rw [List.getElem_drop] at e
    have hlt : m < (oddD of).length := by simp at hk; omega
    have hmem : (oddD of)[m] ∈ of := mem_oddD (List.getElem_mem hlt)
    obtain ⟨k2, hk2, e2⟩ := List.getElem_of_mem hmem
    have hle := hl k2 _ hk2 (List.getElem?_eq_getElem hk2) (by
      rw [e2]
      unfold NextB
      rw [List.mem_drop_iff_getElem]
      exact ⟨0, by omega, by simp⟩)
    rw [e2] at hle
    rw [List.getElem?_eq_getElem hlt]
    congr 1
    by_cases h0 : k = 0
    · subst h0
      simpa using e
    · have := List.pairwise_iff_getElem.1 (oddD_of of).lt m (m + k) hlt (by simp at hk; omega) (by omega)
      omega

def lenV : Value → Nat
  | .slice _ n _ => n
  | _ => 0

end Go.Proofs.Ytkcijbejngnalaa
