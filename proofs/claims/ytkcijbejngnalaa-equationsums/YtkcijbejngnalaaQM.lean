/-
  equation: which numbers are there an odd number of times; equations that hold: mathematics.
-/
import Derived.Test.YtkcijbejngnalaaZSmp
import Derived.Test.YtkcijbejngnalaaZBlk
namespace Go.Proofs.Ytkcijbejngnalaa
open Go.RowKit
set_option linter.unusedVariables false

/-- Rows that rise and have the same numbers are one. -/
theorem rise_unique : ∀ {r s : List Int}, r.Pairwise (· < ·) → s.Pairwise (· < ·) → (∀ x, x ∈ r ↔ x ∈ s) → r = s
  | [], [], _, _, _ => rfl
  | [], y :: s, _, _, h => absurd ((h y).2 (by simp)) (by simp)
  | x :: r, [], _, _, h => absurd ((h x).1 (by simp)) (by simp)
  | x :: r, y :: s, hr, hs, h => by
    rw [List.pairwise_cons] at hr hs
    have e : x = y := by
      have h1 := (h x).1 (by simp)
      have h2 := (h y).2 (by simp)
      rcases List.mem_cons.1 h1 with h1 | h1
      · exact h1
      · rcases List.mem_cons.1 h2 with h2 | h2
        · exact h2.symm
        · have := hr.1 y h2
          have := hs.1 x h1
          omega
    subst e
    congr 1
    refine rise_unique hr.2 hs.2 fun z => ?_
    constructor
    · intro hz
      have := hr.1 z hz
      rcases List.mem_cons.1 ((h z).1 (by simp [hz])) with h1 | h1
      · omega
      · exact h1
    · intro hz
      have := hs.1 z hz
      rcases List.mem_cons.1 ((h z).2 (by simp [hz])) with h1 | h1
      · omega
      · exact h1

/-- The numbers that are there an odd number of times, rising. -/
structure OddOf (of r : List Int) : Prop where
  lt : r.Pairwise (· < ·)
  mem : ∀ x, x ∈ r ↔ of.count x % 2 = 1
theorem OddOf.unique {of r s : List Int} (h : OddOf of r) (h' : OddOf of s) : r = s := rise_unique h.lt h'.lt fun x => (h.mem x).trans (h'.mem x).symm
theorem OddOf.perm {of of' r : List Int} (h : OddOf of r) (hp : of.Perm of') : OddOf of' r := ⟨h.lt, fun x => by rw [h.mem x, hp.count_eq x]⟩

/-- One more number: twice is as if never. -/
def stepO (acc : List Int) (n : Int) : List Int := if acc.getLast? = some n then acc.dropLast else acc ++ [n]
def oddS (l : List Int) : List Int := l.foldl stepO []
def oddD (of : List Int) : List Int := oddS (sortI of)

theorem stepO_yes {acc : List Int} {n : Int} (h : acc.getLast? = some n) : stepO acc n = acc.dropLast := if_pos h
theorem stepO_no {acc : List Int} {n : Int} (h : acc.getLast? ≠ some n) : stepO acc n = acc ++ [n] := if_neg h

theorem last_split {acc : List Int} {n : Int} (h : acc.getLast? = some n) : acc = acc.dropLast ++ [n] := by
  have hne : acc ≠ [] := by rintro rfl; simp at h
  rw [List.getLast?_eq_some_getLast hne] at h
  have := Option.some.inj h
  rw [← this]
  exact (List.dropLast_concat_getLast hne).symm

theorem odd_step {p acc : List Int} {n : Int} (h : OddOf p acc) (hn : ∀ x ∈ p, x ≤ n) : OddOf (p ++ [n]) (stepO acc n) := by
  have hacc : ∀ x ∈ acc, x ≤ n := by
    intro x hx
    refine hn x ?_
    have := (h.mem x).1 hx
    exact List.count_pos_iff.1 (by omega)
  have hc : ∀ x, (p ++ [n]).count x = p.count x + if n = x then 1 else 0 := by
    intro x
    rw [List.count_append, List.count_singleton]
    congr 1
    by_cases e : n = x <;> simp [e]
  by_cases hl : acc.getLast? = some n
  · rw [stepO_yes hl]
    have hs := last_split hl
    have hp := h.lt
    rw [hs, List.pairwise_append] at hp
    refine ⟨hp.1, fun x => ?_⟩
    rw [hc x]
    have hm : x ∈ acc ↔ x ∈ acc.dropLast ∨ x = n := by
      conv => lhs; rw [hs]
      simp
    by_cases e : n = x
    · subst e
      rw [if_pos rfl]
      have hin : n ∈ acc := hm.2 (.inr rfl)
      have := (h.mem n).1 hin
      constructor
      · intro hd
        have := hp.2.2 n hd n (by simp)
        omega
      · intro; omega
    · rw [if_neg e, Nat.add_zero, ← h.mem x, hm]
      constructor
      · exact fun h => .inl h
      · rintro (h | h)
        · exact h
        · exact absurd h.symm e
  · rw [stepO_no hl]
    have hni : n ∉ acc := by
      intro hin
      have hne : acc ≠ [] := by rintro rfl; simp at hin
      have hs : acc = acc.dropLast ++ [acc.getLast hne] := (List.dropLast_concat_getLast hne).symm
      have h1 := hacc _ (List.getLast_mem hne)
      have hp := h.lt
      rw [hs, List.pairwise_append] at hp
      rw [hs] at hin
      rcases List.mem_append.1 hin with h2 | h2
      · have := hp.2.2 n h2 (acc.getLast hne) (by simp)
        omega
      · rw [List.getLast?_eq_some_getLast hne] at hl
        simp at h2
        exact hl (by rw [← h2])
    refine ⟨?_, fun x => ?_⟩
    · rw [List.pairwise_append]
      refine ⟨h.lt, by simp, ?_⟩
      intro x hx y hy
      simp at hy
      subst hy
      have := hacc x hx
      have : x ≠ y := by rintro rfl; exact hni hx
      omega
    · rw [hc x, List.mem_append, h.mem x]
      by_cases e : n = x
      · subst e
        rw [if_pos rfl]
        have h0 : ¬ p.count n % 2 = 1 := fun hh => hni ((h.mem n).2 hh)
        simp
        omega
      · rw [if_neg e]
        simp
        intro hh
        exact absurd hh.symm e

theorem odd_fold : ∀ (l p acc : List Int), OddOf p acc → l.Pairwise (· ≤ ·) → (∀ x ∈ p, ∀ y ∈ l, x ≤ y) → OddOf (p ++ l) (l.foldl stepO acc)
  | [], p, acc, h, _, _ => by simpa using h
  | n :: l, p, acc, h, hl, hp => by
    rw [List.pairwise_cons] at hl
    have h1 := odd_step (n := n) h (fun x hx => hp x hx n (by simp))
    have h2 := odd_fold l (p ++ [n]) (stepO acc n) h1 hl.2 (by
      intro x hx y hy
      rcases List.mem_append.1 hx with hx | hx
      · exact hp x hx y (by simp [hy])
      · simp at hx
        subst hx
        exact hl.1 y hy)
    rw [List.append_assoc] at h2
    exact h2
theorem oddS_of {l : List Int} (h : l.Pairwise (· ≤ ·)) : OddOf l (oddS l) := by
  have := odd_fold l [] [] ⟨by simp, fun x => by simp⟩ h (by simp)
  rw [List.nil_append] at this
  exact this
/-- ODD IS WHAT IT SHOULD BE. -/
theorem oddD_of (of : List Int) : OddOf of (oddD of) := (oddS_of (sortI_sorted of)).perm (sortI_perm of)
theorem oddD_perm {of of' : List Int} (h : of.Perm of') : oddD of = oddD of' := (oddD_of of).unique ((oddD_of of').perm h.symm)
theorem mem_oddD {of : List Int} {x : Int} (h : x ∈ oddD of) : x ∈ of := by
  have := ((oddD_of of).mem x).1 h
  exact List.count_pos_iff.1 (by omega)
theorem oddD_twice (of of' : List Int) : oddD (of ++ (of' ++ of)) = oddD of' := by
  refine (oddD_of _).unique ⟨(oddD_of of').lt, fun x => ?_⟩
  rw [(oddD_of of').mem x]
  simp only [List.count_append]
  omega
theorem oddD_both (of : List Int) : oddD (of ++ of) = [] := by
  have := oddD_twice of []
  rw [List.nil_append] at this
  rw [this]
  exact (oddD_of []).unique ⟨by simp, fun x => by simp⟩
theorem oddD_rise {of : List Int} (h : of.Pairwise (· < ·)) : oddD of = of := by
  refine (oddD_of of).unique ⟨h, fun x => ?_⟩
  have hn : of.Nodup := h.imp (fun h => by omega)
  constructor
  · intro hx
    have h1 := List.nodup_iff_count.1 hn x
    have h2 := List.count_pos_iff.2 hx
    omega
  · intro hx
    exact List.count_pos_iff.1 (by omega)
theorem oddS_length (l : List Int) : (oddS l).length ≤ l.length := by
  have : ∀ (l acc : List Int), (l.foldl stepO acc).length ≤ acc.length + l.length := by
    intro l
    induction l with
    | nil => intro acc; simp
    | cons n l ih =>
      intro acc
      have := ih (stepO acc n)
      have h2 : (stepO acc n).length ≤ acc.length + 1 := by
        unfold stepO
        split <;> simp
        omega
      simp only [List.foldl_cons, List.length_cons]
      omega
  have h := this l []
  simp only [List.length_nil, Nat.zero_add] at h
  exact h
theorem oddD_length (of : List Int) : (oddD of).length ≤ of.length := by
  have := oddS_length (sortI of)
  rw [sortI_length] at this
  exact this

/-! Blocks by their numbers, put upon each other: pairs are as if they never were. -/
theorem pkD_mem {n : Nat} {ls : List (List UInt8)} {of : List Int} (h : OkOf n ls of) {i : Int} (hi : i ∈ of) : (ls.getD i.toNat []).length = n := pkD_fit h _ (List.mem_map.2 ⟨i, hi, rfl⟩)
theorem OkOf.sub {n : Nat} {ls : List (List UInt8)} {of of' : List Int} (h : OkOf n ls of) (hs : ∀ x ∈ of', x ∈ of) : OkOf n ls of' := fun i hi => h i (hs i hi)
theorem xor_step {n : Nat} {ls : List (List UInt8)} {z : List UInt8} {acc : List Int} {i : Int} (hz : z.length = n) (h : OkOf n ls acc) (hi : OkAt n ls i) : xorAll z (pkD ls (stepO acc i)) = xorL (xorAll z (pkD ls acc)) (ls.getD i.toNat []) := by
  have hx : (ls.getD i.toNat []).length = n := by
    obtain ⟨k, y, rfl, hy, hl⟩ := hi
    simp [List.getD, hy, hl]
  by_cases hl : acc.getLast? = some i
  · rw [stepO_yes hl]
    conv => rhs; rw [last_split hl]
    unfold pkD
    rw [List.map_append, xorAll_append]
    show _ = xorL (xorL _ _) _
    rw [xorL_twice]
    rw [xorAll_length, hz, hx]
    intro y hy
    rw [hz]
    refine pkD_fit (h.sub ?_) y hy
    intro x hx
    exact List.dropLast_subset _ hx
  · rw [stepO_no hl]
    unfold pkD
    rw [List.map_append, xorAll_append]
    rfl
theorem stepO_sub {acc : List Int} {i x : Int} (h : x ∈ stepO acc i) : x ∈ acc ∨ x = i := by
  unfold stepO at h
  split at h
  · exact .inl (List.dropLast_subset _ h)
  · simpa using h
theorem xor_fold {n : Nat} {ls : List (List UInt8)} {z : List UInt8} (hz : z.length = n) : ∀ (l acc : List Int), OkOf n ls acc → OkOf n ls l → xorAll z (pkD ls (l.foldl stepO acc)) = xorAll (xorAll z (pkD ls acc)) (pkD ls l)
  | [], acc, _, _ => rfl
  | i :: l, acc, ha, hl => by
    have hi : OkAt n ls i := hl i (by simp)
    rw [List.foldl_cons, xor_fold hz l (stepO acc i) (by
      intro x hx
      rcases stepO_sub hx with h | rfl
      · exact ha x h
      · exact hi) (fun x hx => hl x (by simp [hx])), xor_step hz ha hi]
    rfl
theorem xorAll_perm (z : List UInt8) {ls ms : List (List UInt8)} (h : ls.Perm ms) : xorAll z ls = xorAll z ms := by
  unfold xorAll
  exact h.foldl_eq' (fun a _ b _ c => xorL_right_comm c a b) z
theorem pkD_perm (ls : List (List UInt8)) {of of' : List Int} (h : of.Perm of') : (pkD ls of).Perm (pkD ls of') := h.map _
/-- The odd ones alone are put, and it is as if all were. -/
theorem xor_odd {n : Nat} {ls : List (List UInt8)} {z : List UInt8} {of : List Int} (hz : z.length = n) (h : OkOf n ls of) : xorAll z (pkD ls (oddD of)) = xorAll z (pkD ls of) := by
  unfold oddD oddS
  rw [xor_fold hz (sortI of) [] (by intro i hi; simp at hi) (h.sub (fun x hx => mem_sortI.1 hx))]
  exact xorAll_perm z (pkD_perm ls (sortI_perm of))
theorem chk_odd {n : Nat} {ls : List (List UInt8)} {of : List Int} (h : OkOf n ls of) : chkD n ls (oddD of) = chkD n ls of := xor_odd (zeros_length n) h
theorem xor_chk {n : Nat} {ls : List (List UInt8)} {z : List UInt8} {of : List Int} (hz : z.length = n) (h : OkOf n ls of) : xorAll z (pkD ls of) = xorL z (chkD n ls of) := by
  have : ∀ (ms : List (List UInt8)) (z y : List UInt8), z.length = n → y.length = n → (∀ m ∈ ms, m.length = n) → xorAll (xorL z y) ms = xorL z (xorAll y ms) := by
    intro ms
    induction ms with
    | nil => intros; rfl
    | cons m ms ih =>
      intro z y hz hy hm
      have hmn : m.length = n := hm m (by simp)
      show xorAll (xorL (xorL z y) m) ms = xorL z (xorAll (xorL y m) ms)
      rw [xorL_assoc]
      exact ih z (xorL y m) hz (by rw [xorL_length (by omega)]; exact hy) (fun x hx => hm x (by simp [hx]))
  have h1 := this (pkD ls of) z (zeros n) hz (zeros_length n) (pkD_fit h)
  rw [xorL_zeros_right hz] at h1
  exact h1

/-- An equation holds of blocks. -/
def HoldsP (of : List Int) (v : List UInt8) (ls : List (List UInt8)) : Prop := OkOf v.length ls of ∧ zeroB (xorAll v (pkD ls of)) = true
theorem zeroB_zeros' {l : List UInt8} (h : zeroB l = true) : l = zeros l.length := by
  unfold zeroB at h
  unfold zeros
  refine List.eq_replicate_iff.2 ⟨rfl, fun b hb => ?_⟩
  have := List.all_eq_true.1 h b hb
  simpa using this
theorem zeroB_xorL {a b : List UInt8} (h : b.length = a.length) : zeroB (xorL a b) = true ↔ a = b := by
  constructor
  · intro hz
    have := zeroB_zeros' hz
    rw [xorL_length h] at this
    have h2 : xorL (xorL a b) b = a := xorL_twice h
    rw [this, ← h, xorL_zeros] at h2
    exact h2.symm
  · rintro rfl
    rw [xorL_self]
    exact zeroB_zeros _
/-- .. just if its value is its blocks, put upon each other. -/
theorem holds_iff {of : List Int} {v : List UInt8} {ls : List (List UInt8)} : HoldsP of v ls ↔ OkOf v.length ls of ∧ v = chkD v.length ls of := by
  unfold HoldsP
  constructor
  · rintro ⟨h1, h2⟩
    refine ⟨h1, ?_⟩
    rw [xor_chk rfl h1] at h2
    exact (zeroB_xorL (chkD_length h1)).1 h2
  · rintro ⟨h1, h2⟩
    refine ⟨h1, ?_⟩
    rw [xor_chk rfl h1]
    exact (zeroB_xorL (chkD_length h1)).2 h2
theorem holds_odd {of : List Int} {v : List UInt8} {ls : List (List UInt8)} (h : OkOf v.length ls of) : zeroB (xorAll v (pkD ls (oddD of))) = zeroB (xorAll v (pkD ls of)) := by rw [xor_odd rfl h]

end Go.Proofs.Ytkcijbejngnalaa
