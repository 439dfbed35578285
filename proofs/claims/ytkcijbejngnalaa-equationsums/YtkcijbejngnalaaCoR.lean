/-
  compose: which blocks are right: mathematics.
-/
import Derived.Test.YtkcijbejngnalaaCoN
namespace Go.Proofs.Ytkcijbejngnalaa
open Go.RowKit
set_option linter.unusedVariables false

theorem zeroB_append (a b : List UInt8) : zeroB (a ++ b) = (zeroB a && zeroB b) := by simp [zeroB]
/-- Behind n bytes there is nothing but noughts, and so many there are. -/
def EndP (n : Int) (ls : List (List UInt8)) : Prop := 0 ≤ n ∧ n ≤ (ls.flatten.length : Int) ∧ zeroB (ls.flatten.drop n.toNat) = true
theorem flat_take_next {ls : List (List UInt8)} {i : Nat} {x : List UInt8} (h : ls[i]? = some x) : (ls.take (i + 1)).flatten = (ls.take i).flatten ++ x := by
  obtain ⟨hi, rfl⟩ := List.getElem?_eq_some_iff.1 h
  exact flat_next ls i hi
theorem flat_take_split (ls : List (List UInt8)) (i : Nat) : ls.flatten = (ls.take i).flatten ++ (ls.drop i).flatten := by
  rw [← List.flatten_append, List.take_append_drop]
theorem end_take {n : Nat} {ls : List (List UInt8)} (h : zeroB (ls.flatten.drop n) = true) (i : Nat) : zeroB ((ls.take i).flatten.drop n) = true := by
  rw [flat_take_split ls i, List.drop_append, zeroB_append] at h
  exact (Bool.and_eq_true_iff.1 h).1
/-- How many are left behind the first i blocks. -/
def leftE (n : Nat) (ls : List (List UInt8)) (i : Nat) : Nat := n - (ls.take i).flatten.length
theorem leftE_zero (n : Nat) (ls : List (List UInt8)) : leftE n ls 0 = n := by simp [leftE]
theorem leftE_next {n i : Nat} {ls : List (List UInt8)} {x : List UInt8} (h : ls[i]? = some x) : leftE n ls (i + 1) = leftE n ls i - min (leftE n ls i) x.length := by
  unfold leftE
  rw [flat_take_next h, List.length_append]
  omega
theorem drop_min (x : List UInt8) (k : Nat) : x.drop (min k x.length) = x.drop k := by
  by_cases h : k ≤ x.length
  · rw [Nat.min_eq_left h]
  · rw [Nat.min_eq_right (by omega), List.drop_length, List.drop_eq_nil_of_le (by omega)]
theorem end_next {n i : Nat} {ls : List (List UInt8)} {x : List UInt8} (h : ls[i]? = some x) : zeroB ((ls.take (i + 1)).flatten.drop n) = (zeroB ((ls.take i).flatten.drop n) && zeroB (x.drop (min (leftE n ls i) x.length))) := by
  rw [flat_take_next h, List.drop_append, zeroB_append, drop_min]
  rfl
theorem end_all {n i : Nat} {ls : List (List UInt8)} (h : ls.length ≤ i) : leftE n ls i = 0 ↔ n ≤ ls.flatten.length := by
  unfold leftE
  rw [List.take_of_length_le h]
  omega

theorem flat_at {B : Nat} : ∀ {ls : List (List UInt8)}, (∀ x ∈ ls, x.length = B) → ∀ {i k : Nat} {x : List UInt8}, ls[i]? = some x → k < B → ls.flatten.getD (i * B + k) 0 = x.getD k 0
  | [], _, i, k, x, h, _ => by simp at h
  | y :: ls, hB, 0, k, x, h, hk => by
    have hy : y.length = B := hB y (by simp)
    simp at h
    subst h
    rw [List.flatten_cons, Nat.zero_mul, Nat.zero_add]
    simp only [List.getD]
    rw [List.getElem?_append_left (by omega)]
  | y :: ls, hB, i + 1, k, x, h, hk => by
    have hy : y.length = B := hB y (by simp)
    have ih := flat_at (ls := ls) (fun z hz => hB z (by simp [hz])) (i := i) (k := k) (x := x) (by simpa using h) hk
    rw [List.flatten_cons, ← ih]
    simp only [List.getD]
    have e : (i + 1) * B + k = B + (i * B + k) := by rw [Nat.add_mul]; omega
    rw [e, List.getElem?_append_right (by omega), hy, Nat.add_sub_cancel_left]
theorem split_flat {N B : Nat} {ls : List (List UInt8)} (hN : ls.length = N) (hB : ∀ x ∈ ls, x.length = B) : splitD N B ls.flatten = ls := by
  apply List.ext_getElem?
  intro i
  by_cases hi : i < N
  · have hx : ls[i]? = some ls[i] := List.getElem?_eq_getElem (by omega)
    rw [splitD_at hi, hx]
    congr 1
    have hl : (ls[i]).length = B := hB _ (List.getElem_mem _)
    apply ext_getD
    · rw [blkAt_length, hl]
    · intro k hk
      rw [blkAt_length] at hk
      rw [← flat_at hB hx hk]
      unfold blkAt
      simp [List.getD, hk]
  · rw [List.getElem?_eq_none (by rw [splitD_length]; omega), List.getElem?_eq_none (by omega)]

/-- The equation of an auxiliary block. -/
def eqOf (N : Nat) (rows : List (List Int)) (j : Nat) : List Int := rows.getD j [] ++ [(N : Int) + (j : Int)]
def EqAt (N B : Nat) (rows : List (List Int)) (ls : List (List UInt8)) (j : Nat) : Prop := OkOf B ls (eqOf N rows j) ∧ zeroB (chkD B ls (eqOf N rows j)) = true
def AgreeP (N B A : Nat) (rows : List (List Int)) (ls : List (List UInt8)) : Prop := ∀ j, j < A → EqAt N B rows ls j
def RightP (N B A : Nat) (rows : List (List Int)) (n : Int) (ls : List (List UInt8)) : Prop := ls.length = N + A ∧ EndP n (ls.take N) ∧ AgreeP N B A rows ls

theorem pkD_append2 (ls : List (List UInt8)) (a b : List Int) : pkD ls (a ++ b) = pkD ls a ++ pkD ls b := by simp [pkD]
theorem chkD_snoc (B : Nat) (ls : List (List UInt8)) (a : List Int) (k : Nat) : chkD B ls (a ++ [(k : Int)]) = xorL (chkD B ls a) (ls.getD k []) := by
  unfold chkD
  rw [pkD_append2, xorAll_append]
  simp [pkD, xorAll]
theorem zeroB_eq {l : List UInt8} (h : zeroB l = true) : l = zeros l.length := by
  unfold zeroB at h
  unfold zeros
  refine List.eq_replicate_iff.2 ⟨rfl, fun b hb => ?_⟩
  have := List.all_eq_true.1 h b hb
  simpa using this
theorem zeroB_xor {a b : List UInt8} (h : b.length = a.length) : zeroB (xorL a b) = true ↔ a = b := by
  constructor
  · intro hz
    have := zeroB_eq hz
    rw [xorL_length h] at this
    have h2 : xorL (xorL a b) b = a := xorL_twice h
    rw [this, ← h, xorL_zeros] at h2
    exact h2.symm
  · rintro rfl
    rw [xorL_self]
    exact zeroB_zeros _

/-- Of blocks that are all as long: an auxiliary block is right just if it is made of its message blocks. -/
theorem eqAt_iff {N B A j : Nat} {rows : List (List Int)} {ls : List (List UInt8)} {r : List Int} (hl : ls.length = N + A) (hB : ∀ x ∈ ls, x.length = B) (hr : rows[j]? = some r) (hj : j < A) (hm : ∀ i ∈ r, 0 ≤ i ∧ i < (N : Int)) :
    EqAt N B rows ls j ↔ ls[N + j]? = some (chkD B (ls.take N) r) := by
  have hN : (ls.take N).length = N := by simp; omega
  have ho : OkOf B (ls.take N) r := okOf_below (fun x hx => hB x (List.mem_of_mem_take hx)) (by rw [hN]; exact hm)
  have e1 : chkD B ls r = chkD B (ls.take N) r := by
    unfold chkD
    have h := pkD_append (ls := ls.take N) (ms := ls.drop N) (of := r) (by rw [hN]; exact hm)
    rw [List.take_append_drop] at h
    rw [h]
  have hk : N + j < ls.length := by omega
  have e2 : ls.getD (N + j) [] = ls[N + j] := by simp [List.getD, hk]
  have hx : (ls[N + j]).length = B := hB _ (List.getElem_mem hk)
  have hc : (chkD B (ls.take N) r).length = B := chkD_length ho
  have he : eqOf N rows j = r ++ [((N + j : Nat) : Int)] := by unfold eqOf; simp [List.getD, hr]
  unfold EqAt
  rw [he, chkD_snoc, e1, e2, zeroB_xor (by omega), List.getElem?_eq_getElem hk]
  constructor
  · rintro ⟨-, h⟩
    rw [h]
  · intro h
    refine ⟨?_, (Option.some.inj h).symm⟩
    intro i hi
    rcases List.mem_append.1 hi with hi | hi
    · have := okOf_append (ms := ls.drop N) ho i hi
      rw [List.take_append_drop] at this
      exact this
    · simp at hi
      exact ⟨N + j, _, by omega, List.getElem?_eq_getElem hk, hx⟩

theorem compD_take (N B : Nat) (rows : List (List Int)) (l : List UInt8) : (compD N B rows l).take N = splitD N B l := by
  unfold compD
  rw [List.take_append_of_le_length (by rw [splitD_length]; exact Nat.le_refl _), List.take_of_length_le (by rw [splitD_length]; exact Nat.le_refl _)]
theorem compD_at {N B j : Nat} {rows : List (List Int)} {l : List UInt8} {r : List Int} (h : rows[j]? = some r) : (compD N B rows l)[N + j]? = some (chkD B (splitD N B l) r) := by
  unfold compD
  rw [List.getElem?_append_right (by rw [splitD_length]; omega), splitD_length, Nat.add_sub_cancel_left, List.getElem?_map, h]
  rfl
theorem flat_pad {N B : Nat} {l : List UInt8} (h : l.length ≤ N * B) : (splitD N B l).flatten = l ++ zeros (N * B - l.length) := by
  rw [flat_split]
  apply ext_getD
  · simp [zeros]; omega
  · intro k hk
    simp at hk
    rw [getD_pad]
    simp [List.getD, hk]
theorem end_split {N B : Nat} {l : List UInt8} (h : l.length ≤ N * B) : EndP (l.length : Int) (splitD N B l) := by
  refine ⟨by omega, ?_, ?_⟩
  · rw [flat_pad h]; simp; omega
  · rw [flat_pad h]; simp [zeroB_zeros]
/-- COMPOSITE BLOCKS ARE RIGHT. -/
theorem right_comp {N B A : Nat} {rows : List (List Int)} {l : List UInt8} (h : RwOk N A rows) (hl : l.length ≤ N * B) : RightP N B A rows (l.length : Int) (compD N B rows l) := by
  refine ⟨by rw [compD_length, h.1], by rw [compD_take]; exact end_split hl, fun j hj => ?_⟩
  obtain ⟨r, hr⟩ : ∃ r, rows[j]? = some r := ⟨_, List.getElem?_eq_getElem (by rw [h.1]; exact hj)⟩
  refine (eqAt_iff (A := A) (by rw [compD_length, h.1]) (compD_mem h) hr hj (h.2 j r hr).2).2 ?_
  rw [compD_take, compD_at hr]

/-- Blocks that are all as long are right just if they are those of the bytes that they begin with. -/
theorem right_iff {N B A : Nat} {rows : List (List Int)} {ls : List (List UInt8)} (n : Nat) (h : RwOk N A rows) (hl : ls.length = N + A) (hB : ∀ x ∈ ls, x.length = B) (hn : n ≤ N * B) :
    RightP N B A rows (n : Int) ls ↔ ls = compD N B rows ((ls.take N).flatten.take n) := by
  have hN : (ls.take N).length = N := by simp; omega
  have hf : (ls.take N).flatten.length = N * B := by rw [flat_len (B := B) (fun x hx => hB x (List.mem_of_mem_take hx)), hN]
  have hk : ((ls.take N).flatten.take n).length = n := by rw [List.length_take, hf]; omega
  constructor
  · rintro ⟨-, ⟨-, -, hz⟩, ha⟩
    simp at hz
    have hz2 := zeroB_eq hz
    have e1 : splitD N B ((ls.take N).flatten.take n) = ls.take N := by
      have hp : (ls.take N).flatten = (ls.take N).flatten.take n ++ zeros (N * B - n) := by
        have : (zeros (N * B - n)) = (ls.take N).flatten.drop n := by rw [hz2, List.length_drop, hf]
        rw [this, List.take_append_drop]
      have h2 : splitD N B (ls.take N).flatten = ls.take N := split_flat hN (fun x hx => hB x (List.mem_of_mem_take hx))
      rw [hp, split_zeros] at h2
      exact h2
    apply List.ext_getElem?
    intro i
    by_cases hi : i < N
    · unfold compD
      rw [e1, List.getElem?_append_left (by rw [hN]; exact hi), List.getElem?_take, if_pos hi]
    · by_cases hi2 : i < N + A
      · obtain ⟨j, rfl⟩ : ∃ j, i = N + j := ⟨i - N, by omega⟩
        obtain ⟨r, hr⟩ : ∃ r, rows[j]? = some r := ⟨_, List.getElem?_eq_getElem (by rw [h.1]; omega)⟩
        rw [compD_at hr, e1]
        exact (eqAt_iff hl hB hr (by omega) (h.2 j r hr).2).1 (ha j (by omega))
      · rw [List.getElem?_eq_none (by omega), List.getElem?_eq_none (by rw [compD_length, h.1]; omega)]
  · intro he
    have := right_comp (l := (ls.take N).flatten.take n) h (by rw [hk]; exact hn)
    rw [hk, ← he] at this
    exact this

end Go.Proofs.Ytkcijbejngnalaa
