/-
  Texts that lie together: QM QA CoA CoN QB QC CoR CoC QD QE QF QJ CoB CoD QI LEq LWt CoE CoS QK QG QH QL QN QO QP QQ QRm QSm.
-/
import Derived.Test.YtkckbeekehecnaaZSmp
import Derived.Test.YtkckbeekehecnaaZBlk
import Derived.Test.YtkckbeekehecnaaZOut
import Derived.Deep.Light
import Derived.Test.YtkckbeekehecnaaZSeg
import Derived.Deep.DeepCutAuto
import Derived.BigQuiet
import Derived.Deep.MidRow
import Derived.Laws.ResultCell
import Derived.Test.YtkckbeekehecnaaShelf
import Derived.Shelf.Slices.Empties2
import Derived.Test.YtkckbeekehecnaaZBase
import Derived.SizedLaws
import Derived.RegionTactic
import Derived.Defers
import Derived.Recover
import Derived.ArgAppend
import Derived.Deep.Upon
namespace Go.Proofs.Ytkckbeekehecnaa

section
/-
  equation: which numbers are there an odd number of times; equations that hold: mathematics.
-/
open Go.RowKit
set_option linter.unusedVariables false

/-- Rows that rise and have the same numbers are one. -/
theorem rise_unique : ∀ {r s : List Int}, r.Pairwise (· < ·) → s.Pairwise (· < ·) → (∀ x, x ∈ r ↔ x ∈ s) → r = s
  | [], [], _, _, _ => rfl
  | [], y :: s, _, _, h => absurd ((h y).2 (by simp)) (by simp)
  | x :: r, [], _, _, h => absurd ((h x).1 (by simp)) (by simp)
  | x :: r, y :: s, hr, hs, h => by
    rw [List.pairwise_cons] at hr hs
    have e : x = y := by
      have h1 := (h x).1 (by simp)
      have h2 := (h y).2 (by simp)
      rcases List.mem_cons.1 h1 with h1 | h1
      · exact h1
      · rcases List.mem_cons.1 h2 with h2 | h2
        · exact h2.symm
        · have := hr.1 y h2
          have := hs.1 x h1
          omega
    subst e
    congr 1
    refine rise_unique hr.2 hs.2 fun z => ?_
    constructor
    · intro hz
      have := hr.1 z hz
      rcases List.mem_cons.1 ((h z).1 (by simp [hz])) with h1 | h1
      · omega
      · exact h1
    · intro hz
      have := hs.1 z hz
      rcases List.mem_cons.1 ((h z).2 (by simp [hz])) with h1 | h1
      · omega
      · exact h1

/-- The numbers that are there an odd number of times, rising. -/
structure OddOf (of r : List Int) : Prop where
  lt : r.Pairwise (· < ·)
  mem : ∀ x, x ∈ r ↔ of.count x % 2 = 1
theorem OddOf.unique {of r s : List Int} (h : OddOf of r) (h' : OddOf of s) : r = s := rise_unique h.lt h'.lt fun x => (h.mem x).trans (h'.mem x).symm
theorem OddOf.perm {of of' r : List Int} (h : OddOf of r) (hp : of.Perm of') : OddOf of' r := ⟨h.lt, fun x => by rw [h.mem x, hp.count_eq x]⟩

/-- One more number: twice is as if never. -/
def stepO (acc : List Int) (n : Int) : List Int := if acc.getLast? = some n then acc.dropLast else acc ++ [n]
def oddS (l : List Int) : List Int := l.foldl stepO []
def oddD (of : List Int) : List Int := oddS (sortI of)

theorem stepO_yes {acc : List Int} {n : Int} (h : acc.getLast? = some n) : stepO acc n = acc.dropLast := if_pos h
theorem stepO_no {acc : List Int} {n : Int} (h : acc.getLast? ≠ some n) : stepO acc n = acc ++ [n] := if_neg h

theorem last_split {acc : List Int} {n : Int} (h : acc.getLast? = some n) : acc = acc.dropLast ++ [n] := by
  have hne : acc ≠ [] := by rintro rfl; simp at h
  rw [List.getLast?_eq_some_getLast hne] at h
  have := Option.some.inj h
  rw [← this]
  exact (List.dropLast_concat_getLast hne).symm

theorem odd_step {p acc : List Int} {n : Int} (h : OddOf p acc) (hn : ∀ x ∈ p, x ≤ n) : OddOf (p ++ [n]) (stepO acc n) := by
  have hacc : ∀ x ∈ acc, x ≤ n := by
    intro x hx
    refine hn x ?_
    have := (h.mem x).1 hx
    exact List.count_pos_iff.1 (by omega)
  have hc : ∀ x, (p ++ [n]).count x = p.count x + if n = x then 1 else 0 := by
    intro x
    rw [List.count_append, List.count_singleton]
    congr 1
    by_cases e : n = x <;> simp [e]
  by_cases hl : acc.getLast? = some n
  · rw [stepO_yes hl]
    have hs := last_split hl
    have hp := h.lt
    rw [hs, List.pairwise_append] at hp
    refine ⟨hp.1, fun x => ?_⟩
    rw [hc x]
    have hm : x ∈ acc ↔ x ∈ acc.dropLast ∨ x = n := by
      conv => lhs; rw [hs]
      simp
    by_cases e : n = x
    · subst e
      rw [if_pos rfl]
      have hin : n ∈ acc := hm.2 (.inr rfl)
      have := (h.mem n).1 hin
      constructor
      · intro hd
        have := hp.2.2 n hd n (by simp)
        omega
      · intro; omega
    · rw [if_neg e, Nat.add_zero, ← h.mem x, hm]
      constructor
      · exact fun h => .inl h
      · rintro (h | h)
        · exact h
        · exact absurd h.symm e
  · rw [stepO_no hl]
    have hni : n ∉ acc := by
      intro hin
      have hne : acc ≠ [] := by rintro rfl; simp at hin
      have hs : acc = acc.dropLast ++ [acc.getLast hne] := (List.dropLast_concat_getLast hne).symm
      have h1 := hacc _ (List.getLast_mem hne)
      have hp := h.lt
      rw [hs, List.pairwise_append] at hp
      rw [hs] at hin
      rcases List.mem_append.1 hin with h2 | h2
      · have := hp.2.2 n h2 (acc.getLast hne) (by simp)
        omega
      · rw [List.getLast?_eq_some_getLast hne] at hl
        simp at h2
        exact hl (by rw [← h2])
    refine ⟨?_, fun x => ?_⟩
    · rw [List.pairwise_append]
      refine ⟨h.lt, by simp, ?_⟩
      intro x hx y hy
      simp at hy
      subst hy
      have := hacc x hx
      have : x ≠ y := by rintro rfl; exact hni hx
      omega
    · rw [hc x, List.mem_append, h.mem x]
      by_cases e : n = x
      · subst e
        rw [if_pos rfl]
        have h0 : ¬ p.count n % 2 = 1 := fun hh => hni ((h.mem n).2 hh)
        simp
        omega
      · rw [if_neg e]
        simp
        intro hh
        exact absurd hh.symm e

theorem odd_fold : ∀ (l p acc : List Int), OddOf p acc → l.Pairwise (· ≤ ·) → (∀ x ∈ p, ∀ y ∈ l, x ≤ y) → OddOf (p ++ l) (l.foldl stepO acc)
  | [], p, acc, h, _, _ => by simpa using h
  | n :: l, p, acc, h, hl, hp => by
    rw [List.pairwise_cons] at hl
    have h1 := odd_step (n := n) h (fun x hx => hp x hx n (by simp))
    have h2 := odd_fold l (p ++ [n]) (stepO acc n) h1 hl.2 (by
      intro x hx y hy
      rcases List.mem_append.1 hx with hx | hx
      · exact hp x hx y (by simp [hy])
      · simp at hx
        subst hx
        exact hl.1 y hy)
    rw [List.append_assoc] at h2
    exact h2
theorem oddS_of {l : List Int} (h : l.Pairwise (· ≤ ·)) : OddOf l (oddS l) := by
  have := odd_fold l [] [] ⟨by simp, fun x => by simp⟩ h (by simp)
  rw [List.nil_append] at this
  exact this
/-- ODD IS WHAT IT SHOULD BE. -/
theorem oddD_of (of : List Int) : OddOf of (oddD of) := (oddS_of (sortI_sorted of)).perm (sortI_perm of)
theorem oddD_perm {of of' : List Int} (h : of.Perm of') : oddD of = oddD of' := (oddD_of of).unique ((oddD_of of').perm h.symm)
theorem mem_oddD {of : List Int} {x : Int} (h : x ∈ oddD of) : x ∈ of := by
  have := ((oddD_of of).mem x).1 h
  exact List.count_pos_iff.1 (by omega)
theorem oddD_twice (of of' : List Int) : oddD (of ++ (of' ++ of)) = oddD of' := by
  refine (oddD_of _).unique ⟨(oddD_of of').lt, fun x => ?_⟩
  rw [(oddD_of of').mem x]
  simp only [List.count_append]
  omega
theorem oddD_both (of : List Int) : oddD (of ++ of) = [] := by
  have := oddD_twice of []
  rw [List.nil_append] at this
  rw [this]
  exact (oddD_of []).unique ⟨by simp, fun x => by simp⟩
theorem oddD_rise {of : List Int} (h : of.Pairwise (· < ·)) : oddD of = of := by
  refine (oddD_of of).unique ⟨h, fun x => ?_⟩
  have hn : of.Nodup := h.imp (fun h => by omega)
  constructor
  · intro hx
    have h1 := List.nodup_iff_count.1 hn x
    have h2 := List.count_pos_iff.2 hx
    omega
  · intro hx
    exact List.count_pos_iff.1 (by omega)
theorem oddS_length (l : List Int) : (oddS l).length ≤ l.length := by
  have : ∀ (l acc : List Int), (l.foldl stepO acc).length ≤ acc.length + l.length := by
    intro l
    induction l with
    | nil => intro acc; simp
    | cons n l ih =>
      intro acc
      have := ih (stepO acc n)
      have h2 : (stepO acc n).length ≤ acc.length + 1 := by
        unfold stepO
        split <;> simp
        omega
      simp only [List.foldl_cons, List.length_cons]
      omega
  have h := this l []
  simp only [List.length_nil, Nat.zero_add] at h
  exact h
theorem oddD_length (of : List Int) : (oddD of).length ≤ of.length := by
  have := oddS_length (sortI of)
  rw [sortI_length] at this
  exact this

/-! Blocks by their numbers, put upon each other: pairs are as if they never were. -/
theorem pkD_mem {n : Nat} {ls : List (List UInt8)} {of : List Int} (h : OkOf n ls of) {i : Int} (hi : i ∈ of) : (ls.getD i.toNat []).length = n := pkD_fit h _ (List.mem_map.2 ⟨i, hi, rfl⟩)
theorem OkOf.sub {n : Nat} {ls : List (List UInt8)} {of of' : List Int} (h : OkOf n ls of) (hs : ∀ x ∈ of', x ∈ of) : OkOf n ls of' := fun i hi => h i (hs i hi)
theorem xor_step {n : Nat} {ls : List (List UInt8)} {z : List UInt8} {acc : List Int} {i : Int} (hz : z.length = n) (h : OkOf n ls acc) (hi : OkAt n ls i) : xorAll z (pkD ls (stepO acc i)) = xorL (xorAll z (pkD ls acc)) (ls.getD i.toNat []) := by
  have hx : (ls.getD i.toNat []).length = n := by
    obtain ⟨k, y, rfl, hy, hl⟩ := hi
    simp [List.getD, hy, hl]
  by_cases hl : acc.getLast? = some i
  · rw [stepO_yes hl]
    conv => rhs; rw [last_split hl]
    unfold pkD
    rw [List.map_append, xorAll_append]
    show _ = xorL (xorL _ _) _
    rw [xorL_twice]
    rw [xorAll_length, hz, hx]
    intro y hy
    rw [hz]
    refine pkD_fit (h.sub ?_) y hy
    intro x hx
    exact List.dropLast_subset _ hx
  · rw [stepO_no hl]
    unfold pkD
    rw [List.map_append, xorAll_append]
    rfl
theorem stepO_sub {acc : List Int} {i x : Int} (h : x ∈ stepO acc i) : x ∈ acc ∨ x = i := by
  unfold stepO at h
  split at h
  · exact .inl (List.dropLast_subset _ h)
  · simpa using h
theorem xor_fold {n : Nat} {ls : List (List UInt8)} {z : List UInt8} (hz : z.length = n) : ∀ (l acc : List Int), OkOf n ls acc → OkOf n ls l → xorAll z (pkD ls (l.foldl stepO acc)) = xorAll (xorAll z (pkD ls acc)) (pkD ls l)
  | [], acc, _, _ => rfl
  | i :: l, acc, ha, hl => by
    have hi : OkAt n ls i := hl i (by simp)
    rw [List.foldl_cons, xor_fold hz l (stepO acc i) (by
      intro x hx
      rcases stepO_sub hx with h | rfl
      · exact ha x h
      · exact hi) (fun x hx => hl x (by simp [hx])), xor_step hz ha hi]
    rfl
theorem xorAll_perm (z : List UInt8) {ls ms : List (List UInt8)} (h : ls.Perm ms) : xorAll z ls = xorAll z ms := by
  unfold xorAll
  exact h.foldl_eq' (fun a _ b _ c => xorL_right_comm c a b) z
theorem pkD_perm (ls : List (List UInt8)) {of of' : List Int} (h : of.Perm of') : (pkD ls of).Perm (pkD ls of') := h.map _
/-- The odd ones alone are put, and it is as if all were. -/
theorem xor_odd {n : Nat} {ls : List (List UInt8)} {z : List UInt8} {of : List Int} (hz : z.length = n) (h : OkOf n ls of) : xorAll z (pkD ls (oddD of)) = xorAll z (pkD ls of) := by
  unfold oddD oddS
  rw [xor_fold hz (sortI of) [] (by intro i hi; simp at hi) (h.sub (fun x hx => mem_sortI.1 hx))]
  exact xorAll_perm z (pkD_perm ls (sortI_perm of))
theorem chk_odd {n : Nat} {ls : List (List UInt8)} {of : List Int} (h : OkOf n ls of) : chkD n ls (oddD of) = chkD n ls of := xor_odd (zeros_length n) h
theorem xor_chk {n : Nat} {ls : List (List UInt8)} {z : List UInt8} {of : List Int} (hz : z.length = n) (h : OkOf n ls of) : xorAll z (pkD ls of) = xorL z (chkD n ls of) := by
  have : ∀ (ms : List (List UInt8)) (z y : List UInt8), z.length = n → y.length = n → (∀ m ∈ ms, m.length = n) → xorAll (xorL z y) ms = xorL z (xorAll y ms) := by
    intro ms
    induction ms with
    | nil => intros; rfl
    | cons m ms ih =>
      intro z y hz hy hm
      have hmn : m.length = n := hm m (by simp)
      show xorAll (xorL (xorL z y) m) ms = xorL z (xorAll (xorL y m) ms)
      rw [xorL_assoc]
      exact ih z (xorL y m) hz (by rw [xorL_length (by omega)]; exact hy) (fun x hx => hm x (by simp [hx]))
  have h1 := this (pkD ls of) z (zeros n) hz (zeros_length n) (pkD_fit h)
  rw [xorL_zeros_right hz] at h1
  exact h1

/-- An equation holds of blocks. -/
def HoldsP (of : List Int) (v : List UInt8) (ls : List (List UInt8)) : Prop := OkOf v.length ls of ∧ zeroB (xorAll v (pkD ls of)) = true
theorem zeroB_zeros' {l : List UInt8} (h : zeroB l = true) : l = zeros l.length := by
  unfold zeroB at h
  unfold zeros
  refine List.eq_replicate_iff.2 ⟨rfl, fun b hb => ?_⟩
  have := List.all_eq_true.1 h b hb
  simpa using this
theorem zeroB_xorL {a b : List UInt8} (h : b.length = a.length) : zeroB (xorL a b) = true ↔ a = b := by
  constructor
  · intro hz
    have := zeroB_zeros' hz
    rw [xorL_length h] at this
    have h2 : xorL (xorL a b) b = a := xorL_twice h
    rw [this, ← h, xorL_zeros] at h2
    exact h2.symm
  · rintro rfl
    rw [xorL_self]
    exact zeroB_zeros _
/-- .. just if its value is its blocks, put upon each other. -/
theorem holds_iff {of : List Int} {v : List UInt8} {ls : List (List UInt8)} : HoldsP of v ls ↔ OkOf v.length ls of ∧ v = chkD v.length ls of := by
  unfold HoldsP
  constructor
  · rintro ⟨h1, h2⟩
    refine ⟨h1, ?_⟩
    rw [xor_chk rfl h1] at h2
    exact (zeroB_xorL (chkD_length h1)).1 h2
  · rintro ⟨h1, h2⟩
    refine ⟨h1, ?_⟩
    rw [xor_chk rfl h1]
    exact (zeroB_xorL (chkD_length h1)).2 h2
theorem holds_odd {of : List Int} {v : List UInt8} {ls : List (List UInt8)} (h : OkOf v.length ls of) : zeroB (xorAll v (pkD ls (oddD of))) = zeroB (xorAll v (pkD ls of)) := by rw [xor_odd rfl h]

end

section
/-
  equation: Odd, as the program has it: a copy that is sorted, and what is kept stands in its own memory.
-/
open Go.RowKit
set_option linter.unusedVariables false

/-- Block q holds just these values, of whole numbers' type. -/
def RowQ (w : World) (q : Nat) (L : List Value) : Prop := w.heap[q]? = some (.cells L.toArray 3 (0, 0))
theorem RowQ.lt {w : World} {q : Nat} {L : List Value} (h : RowQ w q L) : q < w.heap.size := (Array.getElem?_eq_some_iff.1 h).1
theorem RowQ.kept {w w' : World} {q : Nat} {L : List Value} (h : RowQ w q L) (hk : w'.heap[q]? = w.heap[q]?) : RowQ w' q L := hk.trans h
theorem RowQ.below {w w' : World} {q : Nat} {L : List Value} (h : RowQ w q L) (hb : Below w.heap.size w w') : RowQ w' q L := h.kept (hb.block q h.lt)
theorem RowQ.cell {w : World} {q : Nat} {L : List Value} (h : RowQ w q L) {j : Nat} {u : Value} (hj : L[j]? = some u) : w.cell? ⟨q, j, none⟩ = some u := by
  have h' : w.heap[q]? = _ := h
  simp only [World.cell?, h', Option.isSome_none, Bool.false_eq_true, if_false, List.getElem?_toArray]
  exact hj
theorem RowQ.frozen {w : World} {q : Nat} {L : List Value} (h : RowQ w q L) (j : Nat) : w.frozen? ⟨q, j, none⟩ = false := by
  simp [World.frozen?, show w.heap[q]? = _ from h]
theorem OwnZ.row {B : Nat} {w : World} {q n c : Nat} {l : List Int} (h : OwnZ B w (.slice (some ⟨q, 0, none⟩) n c) n l) : ∃ L, RowQ w q L ∧ L.length = c ∧ L.take n = l.map (Value.int .i64) ∧ n ≤ c ∧ c ≤ maxLen ∧ B ≤ q := by
  rcases h.2 with ⟨h', -⟩ | ⟨g, cap, cur, hv, hg, hh, hnc, hcm, hcs, ht⟩
  · cases h'
  · injection hv with e1 _ e3
    injection e1 with e1
    injection e1 with e1
    subst e1; subst e3
    refine ⟨cur.toList, by simpa [RowQ] using hh, by simpa using hcs, by simpa using ht, hnc, hcm, hg⟩
theorem own_row {B : Nat} {w : World} {q m c : Nat} {L : List Value} {l : List Int} (h : RowQ w q L) (hl : l.length = m) (hL : L.length = c) (ht : L.take m = l.map (Value.int .i64)) (hm : m ≤ c) (hc : c ≤ maxLen) (hB : B ≤ q) : OwnZ B w (.slice (some ⟨q, 0, none⟩) m c) m l := by
  refine ⟨by simpa using hl, .inr ⟨q, c, L.toArray, rfl, hB, h, hm, hc, by simpa using hL, by simpa using ht⟩⟩

/-- 'append' of one number where there is room: it stands behind the others, in the same memory. -/
theorem wpList_room (w : World) {ops : Array Oper} {rest : List Oper} {o : Oper} {a : Act} {Q : Exit → Act → World → Prop} (hgd : o.guard = none) (s x : Operand)
    (ho : o.op = .call { callee := .builtin .append, args := #[s, x], argTypes := #[31, 31] })
    (q n c : Nat) (L : List Value) (hs : a.eval s = .slice (some ⟨q, 0, none⟩) n c) (hL : RowQ w q L) (hc : L.length = c) (hn : n + 1 ≤ c)
    (p : Nat) (u : Int) (hx : a.eval x = .slice (some ⟨p, 0, none⟩) 1 1) (hp : w.cell? ⟨p, 0, none⟩ = some (.int .i64 u))
    (h : ∀ w', RowQ w' q (L.set n (.int .i64 u)) → w.grownBy w' (some q) → w'.heap.size = w.heap.size → wpList Try.prog ops Q rest (a.put o.dst (.slice (some ⟨q, 0, none⟩) (n + 1) c)) w') : wpList Try.prog ops Q (o :: rest) a w := by
  obtain ⟨i, hi, hz, h1, h8⟩ := infoZ_parts
  have hr := run_append_room (P := Try.prog) w 31 o.type 3 i Try.underlying31 hi q n c L.toArray hL ⟨p, 0, none⟩ 1 1 [.int .i64 u] (by rw [h1]; rfl) (by
    intro j v hj
    have : j = 0 := by have := (List.getElem?_eq_some_iff.1 hj).1; simp at this; omega
    subst this
    simp at hj
    subst hj
    exact hp) (by simp [Value.oneCell']) hn (by rw [h1]; simp; omega)
  rw [h1] at hr
  have e : (L.toArray.toList.take (n * 1) ++ [Value.int .i64 u] ++ L.toArray.toList.drop (n * 1 + [Value.int .i64 u].length)) = L.set n (.int .i64 u) := by
    rw [List.set_eq_take_append_cons_drop, if_pos (by omega)]
    simp
  rw [e] at hr
  refine wpList_plain hgd fun K hK => ?_
  unfold Oper.wp execOp
  simp only [ho, resolve, invoke, builtin, Sem.run_bind, Sem.run_pure, Result.andThen_ok, List.map_toArray, List.map_cons, List.map_nil, hs, hx, hr]
  refine hK _ _ (h _ (setRow_heap w q _ _ _ _ hL) ⟨rfl, rfl, rfl, by simp, fun k _ hk => setRow_other w q k _ (fun e => hk (by simp [e]))⟩ (by simp))

/-- What Odd keeps: what was kept of the first i numbers stands ahead, all others where they were. -/
structure OdI (s : List Int) (c m i : Nat) (L : List Value) : Prop where
  len : (oddS (s.take i)).length = m
  cap : L.length = c
  own : L.take m = (oddS (s.take i)).map (Value.int .i64)
  rest : ∀ j, i ≤ j → ∀ z, s[j]? = some z → L[j]? = some (.int .i64 z)

theorem oddS_next {s : List Int} {i : Nat} {z : Int} (h : s[i]? = some z) : oddS (s.take (i + 1)) = stepO (oddS (s.take i)) z := by
  obtain ⟨hi, rfl⟩ := List.getElem?_eq_some_iff.1 h
  unfold oddS
  rw [List.take_succ_eq_append_getElem hi, List.foldl_append]
  rfl
theorem OdI.start {s : List Int} {c : Nat} {L : List Value} (hc : L.length = c) (hL : L.take s.length = s.map (Value.int .i64)) : OdI s c 0 0 L := by
  refine ⟨rfl, hc, rfl, fun j _ z hz => ?_⟩
  have hj := (List.getElem?_eq_some_iff.1 hz).1
  have h1 : (L.take s.length)[j]? = some (.int .i64 z) := by rw [hL, List.getElem?_map, hz]; rfl
  rw [List.getElem?_take, if_pos hj] at h1
  exact h1
theorem OdI.le {s : List Int} {c m i : Nat} {L : List Value} (h : OdI s c m i L) : m ≤ i := by
  have := oddS_length (s.take i)
  rw [h.len, List.length_take] at this
  omega
theorem OdI.at_last {s : List Int} {c m i : Nat} {L : List Value} (h : OdI s c (m + 1) i L) : ∃ z, L[m]? = some (.int .i64 z) ∧ (oddS (s.take i)).getLast? = some z := by
  have hl := h.len
  obtain ⟨z, hz⟩ : ∃ z, (oddS (s.take i))[m]? = some z := ⟨_, List.getElem?_eq_getElem (by omega)⟩
  refine ⟨z, ?_, ?_⟩
  · have h1 : (L.take (m + 1))[m]? = some (.int .i64 z) := by rw [h.own, List.getElem?_map, hz]; rfl
    rw [List.getElem?_take, if_pos (by omega)] at h1
    exact h1
  · rw [List.getLast?_eq_getElem?, hl]
    exact hz
theorem OdI.none {s : List Int} {c i : Nat} {L : List Value} (h : OdI s c 0 i L) : oddS (s.take i) = [] := List.eq_nil_of_length_eq_zero h.len
theorem OdI.pop {s : List Int} {c m i : Nat} {L : List Value} {z : Int} (h : OdI s c (m + 1) i L) (hz : s[i]? = some z) (hl : (oddS (s.take i)).getLast? = some z) : OdI s c m (i + 1) L := by
  have e : oddS (s.take (i + 1)) = (oddS (s.take i)).dropLast := by rw [oddS_next hz, stepO_yes hl]
  have hlen := h.len
  refine ⟨by rw [e, List.length_dropLast, hlen]; rfl, h.cap, ?_, fun j hj y hy => h.rest j (by omega) y hy⟩
  rw [e, List.dropLast_eq_take, hlen, List.map_take, ← h.own, List.take_take]
  congr 1
  omega
theorem OdI.push {s : List Int} {c m i : Nat} {L : List Value} {z : Int} (h : OdI s c m i L) (hz : s[i]? = some z) (hl : (oddS (s.take i)).getLast? ≠ some z) (hc : i < c) : OdI s c (m + 1) (i + 1) (L.set m (.int .i64 z)) := by
  have e : oddS (s.take (i + 1)) = oddS (s.take i) ++ [z] := by rw [oddS_next hz, stepO_no hl]
  have hlen := h.len
  have hmi := h.le
  have hcap := h.cap
  refine ⟨by rw [e, List.length_append, hlen]; rfl, by simpa using h.cap, ?_, fun j hj y hy => ?_⟩
  · rw [e, List.map_append, ← h.own, List.take_succ_eq_append_getElem (by simp; omega)]
    congr 1
    · rw [List.take_set, List.set_eq_of_length_le (by simp; omega)]
    · simp
  · rw [List.getElem?_set_ne (by omega)]
    exact h.rest j (by omega) y hy

set_option maxRecDepth 100000 in
set_option maxHeartbeats 1000000 in
/-- ODD. -/
theorem qodd_any (v : Value) (l : List Int) (w : World) (h : Zs w v l) (hl : l.length ≤ 1000000000) :
    Calls Try.prog 51 #[v] w fun e w' => ∃ a c, e = .returned (.slice a (oddD l).length c) ∧ OwnZ w.heap.size w' (.slice a (oddD l).length c) (oddD l).length (oddD l) ∧ Below w.heap.size w w' := by
  obtain ⟨n, hn⟩ : ∃ n, l.length = n := ⟨_, rfl⟩
  have C1 : Hid (Calls Try.prog 59 #[v] w fun e w' => ∃ a c, e = .returned (.slice a n c) ∧ OwnZ w.heap.size w' (.slice a n c) n l ∧ Below w.heap.size w w') := clone_any v l n w h hn (by omega)
  obtain ⟨m, hm⟩ : ∃ m, (oddD l).length = m := ⟨_, rfl⟩
  rw [hm]
  have HM : Hid ((oddD l).length = m) := hm
  obtain ⟨-, ao, cap, rfl, h2, h3, -, -⟩ := h
  rw [hn] at h2 hl C1 ⊢
  have HN : Hid (l.length = n) := hn
  clear hn hm
  go_enter Try.func51, Try.ntmps51
  go_wp2_with fail
  refine C1.out.mono ?_
  rintro e w1 ⟨a, c, rfl, ho, hb⟩
  have O1 : Hid (OwnZ w.heap.size w1 (.slice a n c) n l) := ho
  have B1 : Hid (Below w.heap.size w w1) := hb
  clear ho hb C1
  go_wp2_with fail
  refine (sort_own w.heap.size a n c l w1 O1.out (by omega)).mono ?_
  rintro e w2 ⟨rfl, ho, hg⟩
  have O2 : Hid (OwnZ w.heap.size w2 (.slice a n c) n (sortI l)) := ho
  have B2 : Hid (Below w.heap.size w w2) := B1.out.grown hg B1.out.size (fun k hk => (O1.out.lt k hk).1)
  have SN : Hid ((sortI l).length = n) := by unfold Hid; rw [sortI_length]; exact HN.out
  clear ho hg O1 B1
  by_cases hn0 : n = 0
  · subst hn0
    have e0 : l = [] := List.eq_nil_of_length_eq_zero HN.out
    have e1 : oddD l = [] := by rw [e0]; exact (oddD_of []).unique ⟨by simp, fun x => by simp⟩
    have e2 : m = 0 := by rw [← HM.out, e1]; rfl
    subst e2
    have E1 : Hid (oddD l = []) := e1
    have O3 : Hid (OwnZ w.heap.size w2 (.slice a 0 c) 0 (oddD l)) := by
      rw [E1.out]
      have h1 := O2.out
      have : sortI l = [] := List.eq_nil_of_length_eq_zero SN.out
      rw [this] at h1
      exact h1
    clear e0 e1
    obtain ⟨ao', cap', e, h5, h6, h7⟩ := owned_slice O2.out
    injection e with e1 e2 e3
    subst e1; subst e3
    have sl := fun W => slice_to_g (P := Try.prog) 31 (by kernel_rfl) 1 (by intro W; kernel_rfl) W a 0 c 0 (Nat.zero_le _)
    clear O2 HM HN SN h5 h6 h7
    go_wp2
    go_loopw [4, 16] (fun u i wr => u = .slice a 0 c ∧ i = .int .i64 0 ∧ wr = w2) (fun _ _ _ => 0)
    case atStart => exact ⟨rfl, rfl, rfl⟩
    case round =>
      obtain ⟨rfl, rfl, rfl⟩ := hrel
      go_wp2
      go_ret
      exact ⟨_, _, rfl, O3.out, B2.out⟩
  · obtain ⟨q, c', e, hB, h5, h6⟩ := owned_shape O2.out (by omega)
    injection e with e1 e2 e3
    subst e1; subst e3
    obtain ⟨L, hL, hLc, hLt, -, -, -⟩ := O2.out.row
    unfold maxLen at h6
    obtain ⟨s, hs⟩ : ∃ s, sortI l = s := ⟨_, rfl⟩
    have HS : Hid (sortI l = s) := hs
    rw [hs] at hLt SN
    have LI : Hid (OdI s c 0 0 L) := OdI.start hLc (by rw [SN.out]; exact hLt)
    have LR : Hid (RowQ w2 q L) := hL
    have HQ : Hid (w.heap.size ≤ q) := hB
    have hq2 : q < w2.heap.size := hL.lt
    have sl := fun W => slice_to_g (P := Try.prog) 31 (by kernel_rfl) 1 (by intro W; kernel_rfl) W (some ⟨q, 0, none⟩) n c 0 (Nat.zero_le _)
    clear O2 hL hLc hLt hs hB
    go_wp2
    go_loopw [4, 16] (fun u i wr => ∃ (k m : Nat) (L : List Value), k ≤ n ∧ i = .int .i64 k ∧ u = .slice (some ⟨q, 0, none⟩) m c ∧ Hid (OdI s c m k L) ∧ Hid (RowQ wr q L) ∧ Hid (Below w.heap.size w wr)) (fun _ i _ => n - (intOf i).toNat)
    case atStart => exact ⟨0, 0, L, by omega, rfl, rfl, LI, LR, B2⟩
    case round =>
      clear LI LR B2 sl hq2
      obtain ⟨k, m', L', hk, rfl, rfl, LI, LR, BB⟩ := hrel
      by_cases hlt : k < n
      · obtain ⟨z, hz⟩ : ∃ z, s[k]? = some z := ⟨_, List.getElem?_eq_getElem (by rw [SN.out]; exact hlt)⟩
        have HZ : Hid (s[k]? = some z) := hz
        have ck := LR.out.cell (LI.out.rest k (Nat.le_refl _) z hz)
        have hmk : m' ≤ k := LI.out.le
        have hqs : q < wr.heap.size := LR.out.lt
        clear hz
        have push : ∀ w4 : World, RowQ w4 q (L'.set m' (.int .i64 z)) → (wr.alloc (.cells #[.int .i64 z] 3)).grownBy w4 (some q) → Below w.heap.size w w4 := fun w4 _ hg => (BB.out.alloc BB.out.size _).grown hg (by have := BB.out.size; simp; omega) (fun k hk => by injection hk with hk; rw [← hk]; exact HQ.out)
        have PU : Hid (∀ w4 : World, RowQ w4 q (L'.set m' (.int .i64 z)) → (wr.alloc (.cells #[.int .i64 z] 3)).grownBy w4 (some q) → Below w.heap.size w w4) := push
        clear push
        have LRa : Hid (RowQ (wr.alloc (.cells #[.int .i64 z] 3)) q L') := LR.out.below (below_alloc _ _)
        by_cases hm0 : m' = 0
        · subst hm0
          go_wp2_with (at_builtin; refine wpList_room _ rfl (.tmp 36) (.tmp 38) rfl q 0 c L' rfl LRa.out LI.out.cap (by omega) _ z rfl (by simp) ?_; intro w4 hr4 hg4 hs4)
          go_roundw
          case rel => exact ⟨k + 1, 1, _, by omega, by go_num, rfl, LI.out.push HZ.out (by rw [LI.out.none]; simp) (by omega), hr4, PU.out w4 hr4 hg4⟩
          case measure => simp [intOf]; omega
        · obtain ⟨m2, rfl⟩ : ∃ m2, m' = m2 + 1 := ⟨m' - 1, by omega⟩
          obtain ⟨y, hy, hy2⟩ := LI.out.at_last
          have cy := LR.out.cell hy
          have HY : Hid ((oddS (s.take k)).getLast? = some y) := hy2
          clear hy hy2 hm0
          by_cases hyz : y = z
          · subst hyz
            have hmc : m2 ≤ c := by omega
            have sl2 := fun W => slice_to_g (P := Try.prog) 31 (by kernel_rfl) 1 (by intro W; kernel_rfl) W (some ⟨q, 0, none⟩) (m2 + 1) c m2 hmc
            go_wp2
            go_roundw
            case rel => exact ⟨k + 1, m2, _, by omega, by go_num, rfl, LI.out.pop HZ.out HY.out, LR, BB⟩
            case measure => simp [intOf]; omega
          · have hmc : m2 + 2 ≤ c := by omega
            go_wp2_with (at_builtin; refine wpList_room _ rfl (.tmp 36) (.tmp 38) rfl q (m2 + 1) c L' rfl LRa.out LI.out.cap (by omega) _ z rfl (by simp) ?_; intro w4 hr4 hg4 hs4)
            go_roundw
            case rel => exact ⟨k + 1, m2 + 1 + 1, _, by omega, by go_num, rfl, LI.out.push HZ.out (by rw [HY.out]; simpa using hyz) (by omega), hr4, PU.out w4 hr4 hg4⟩
            case measure => simp [intOf]; omega
      · obtain rfl : n = k := by omega
        have e1 : oddS (s.take n) = oddD l := by
          rw [List.take_of_length_le (by rw [SN.out]; exact Nat.le_refl _), ← HS.out]
          rfl
        have hlen := LI.out.len
        rw [e1, HM.out] at hlen
        subst hlen
        have O3 : Hid (OwnZ w.heap.size wr (.slice (some ⟨q, 0, none⟩) m c) m (oddD l)) := own_row LR.out HM.out LI.out.cap (by rw [← e1]; exact LI.out.own) (by have := LI.out.le; omega) (by unfold maxLen; omega) HQ.out
        clear e1
        go_wp2
        go_ret
        exact ⟨_, _, rfl, O3.out, BB.out⟩

end

section
/-
  compose: Check.
-/
open Go.RowKit
set_option linter.unusedVariables false

theorem sl_nil (w : World) : Sl 1 w (.slice none 0 0) ([] : List Value).length [] := ⟨rfl, none, 0, rfl, by simp, by simp [maxLen], fun _ => rfl, .inl rfl⟩
theorem parts_nil (w : World) : Parts w [] [] := ⟨rfl, fun i v p hv => by simp at hv⟩

end

section
/-
  compose: all composite blocks, by definition; rows of blocks, and a graph beside them while they grow.
-/
open Go.RowKit
set_option linter.unusedVariables false

/-- The message blocks, and the first j auxiliary ones. -/
def compTo (N B : Nat) (rows : List (List Int)) (l : List UInt8) (j : Nat) : List (List UInt8) := splitD N B l ++ (rows.take j).map (chkD B (splitD N B l))
/-- All composite blocks. -/
def compD (N B : Nat) (rows : List (List Int)) (l : List UInt8) : List (List UInt8) := splitD N B l ++ rows.map (chkD B (splitD N B l))

theorem compTo_zero (N B : Nat) (rows : List (List Int)) (l : List UInt8) : compTo N B rows l 0 = splitD N B l := by simp [compTo]
theorem compTo_next {N B : Nat} {rows : List (List Int)} {l : List UInt8} {j : Nat} {r : List Int} (h : rows[j]? = some r) : compTo N B rows l (j + 1) = compTo N B rows l j ++ [chkD B (splitD N B l) r] := by
  obtain ⟨hj, rfl⟩ := List.getElem?_eq_some_iff.1 h
  unfold compTo
  rw [List.take_succ_eq_append_getElem hj, List.map_append, List.append_assoc]
  rfl
theorem compTo_all {N B A : Nat} {rows : List (List Int)} {l : List UInt8} (h : rows.length = A) : compTo N B rows l A = compD N B rows l := by
  unfold compTo compD
  rw [List.take_of_length_le (by omega)]
theorem compD_length (N B : Nat) (rows : List (List Int)) (l : List UInt8) : (compD N B rows l).length = N + rows.length := by simp [compD, splitD_length]
theorem compTo_length {N B j : Nat} {rows : List (List Int)} (l : List UInt8) (h : j ≤ rows.length) : (compTo N B rows l j).length = N + j := by simp [compTo, splitD_length]; omega

/-- What rows of a graph of N message blocks are. -/
def RwOk (N A : Nat) (rows : List (List Int)) : Prop := rows.length = A ∧ ∀ (j : Nat) (r : List Int), rows[j]? = some r → r.length ≤ N ∧ ∀ i ∈ r, 0 ≤ i ∧ i < (N : Int)
theorem hasR_rw (S A Q N : Nat) : RwOk N A (hasR S A Q N) := ⟨hasR_length S A Q N, fun j r h => ⟨hasR_short N j r h, (hasR_ok S A Q N j r h).lt⟩⟩

theorem split_ok {N B : Nat} {l : List UInt8} {r : List Int} (h : ∀ i ∈ r, 0 ≤ i ∧ i < (N : Int)) : OkOf B (splitD N B l) r := okOf_below (fun x hx => splitD_mem hx) (by rw [splitD_length]; exact h)
theorem compTo_ok {N B j : Nat} {rows : List (List Int)} {l : List UInt8} {r : List Int} (h : ∀ i ∈ r, 0 ≤ i ∧ i < (N : Int)) : OkOf B (compTo N B rows l j) r := okOf_append (split_ok h)
theorem compTo_chk {N B j : Nat} {rows : List (List Int)} {l : List UInt8} {r : List Int} (h : ∀ i ∈ r, 0 ≤ i ∧ i < (N : Int)) : chkD B (compTo N B rows l j) r = chkD B (splitD N B l) r := by
  unfold chkD compTo
  rw [pkD_append (by rw [splitD_length]; exact h)]
theorem compD_mem {N B A : Nat} {rows : List (List Int)} {l : List UInt8} (h : RwOk N A rows) : ∀ x ∈ compD N B rows l, x.length = B := by
  intro x hx
  unfold compD at hx
  rcases List.mem_append.1 hx with hx | hx
  · exact splitD_mem hx
  · obtain ⟨r, hr, rfl⟩ := List.mem_map.1 hx
    obtain ⟨j, hj⟩ := List.mem_iff_getElem?.1 hr
    exact chkD_length (split_ok (h.2 j r hj).2)

/-- A whole block is owned. -/
theorem Blk.owb {W : World} {p n : Nat} {x : List UInt8} (h : Blk W p [] x []) (hl : x.length = n) (hn : n ≤ 1000000000) {B0 : Nat} (hB : B0 ≤ p) : OwB B0 W (.slice (some ⟨p, 0, none⟩) n n) n x := by
  refine ⟨by simp [hl], .inr ⟨p, n, (x.map bv).toArray, rfl, hB, ?_, Nat.le_refl _, by unfold maxLen; omega, by simp [hl], by simpa using List.take_of_length_le (show (x.map bv).length ≤ n by simp [hl])⟩⟩
  have := h
  unfold Blk at this
  simpa using this

/-- A row of blocks that is cut is owned, and so is each block. -/
theorem Cut.owns {B0 B1 : Nat} {W : World} {q n N : Nat} {qs : List Nat} {ls : List (List UInt8)} (h : Cut B0 W q n qs ls []) (hN : N = qs.length) (hm : N ≤ 1000000000) (hn : n ≤ 1000000000) (hB : B1 ≤ B0) :
    W.ownsRow B1 38 1 (.slice (some ⟨q, 0, none⟩) N N) N (qs.map (slv n)) ∧ RowsB B1 W (qs.map (slv n)) ls := by
  subst hN
  refine ⟨⟨by simp, .inr ⟨q, qs.length, (qs.map (slv n)).toArray, rfl, by have := h.qb; omega, by simpa using h.row, Nat.le_refl _, by unfold maxLen; omega, by simp, by simpa using List.take_of_length_le (show (qs.map (slv n)).length ≤ qs.length by simp)⟩⟩, by simp [h.len], ?_⟩
  intro i v l hv hl
  rw [List.getElem?_map] at hv
  cases hq : qs[i]? with
  | none => rw [hq] at hv; cases hv
  | some r =>
    rw [hq] at hv
    obtain rfl := Option.some.inj hv
    have := h.at_ i r l hq hl
    obtain rfl := this.2.2
    exact this.1.owb rfl hn (by omega)

/-- What is of another kind stays, where a row of slices of bytes grows. -/
theorem kind_stays {B1 : Nat} {W W' : World} {ov : Value} {m : Nat} {us : List Value} (ho : W.ownsRow B1 38 1 ov m us) (hg : W.grownBy W' ov.ownBlock) {k : Nat} {cs : Array Value} {t : TypeId} {fr : Nat × Nat} (h : W.heap[k]? = some (.cells cs t fr)) (ht : t ≠ 38) : W'.heap[k]? = W.heap[k]? := by
  refine hg.block k (Array.getElem?_eq_some_iff.1 h).1 (fun e => ?_)
  obtain ⟨c2, e2⟩ := owns_type' ho k e.symm
  rw [h] at e2
  injection e2 with e2
  injection e2 with _ e2 _
  exact ht e2

/-- What Check answers, and its block. -/
def IsCk (B0 n : Nat) (x : List UInt8) : Value → World → Prop := fun v W => ∃ q, v = .tuple #[.slice (some ⟨q, 0, none⟩) n n, .bool true] ∧ B0 ≤ q ∧ Blk W q [] x []
theorem stays_ck (B0 n : Nat) (x : List UInt8) : Stays (IsCk B0 n x) := fun _ _ _ hb ⟨q, h1, h2, h3⟩ => ⟨q, h1, h2, h3.below hb⟩
def IsCb (B0 n : Nat) (x : List UInt8) : Value → World → Prop := fun v W => ∃ q, v = .slice (some ⟨q, 0, none⟩) n n ∧ B0 ≤ q ∧ Blk W q [] x []
theorem stays_cb (B0 n : Nat) (x : List UInt8) : Stays (IsCb B0 n x) := fun _ _ _ hb ⟨q, h1, h2, h3⟩ => ⟨q, h1, h2, h3.below hb⟩

theorem owns_below {B0 : Nat} {w w' : World} {e : TypeId} {v : Value} {n : Nat} {xs : List Value} (h : w.ownsRow B0 e 1 v n xs) (hb : Below w.heap.size w w') : w'.ownsRow B0 e 1 v n xs := owns_kept h (fun q hq => hb.block q (h.lt q hq).2)

end

section
/-
  equation: Holds, as the program has it; bytes.Clone; a block that may be nil, put upon.
-/
open Go.RowKit
set_option linter.unusedVariables false

/-- One number of a slice, where old memory stays. -/
theorem zs_at {w W : World} {a : Option Addr} {n c i : Nat} {l : List Int} {z : Int} (h : Zs w (.slice a n c) l) (hb : Below w.heap.size w W) (hz : l[i]? = some z) : ∃ b off, a = some ⟨b, off, none⟩ ∧ W.cell? ⟨b, off + i, none⟩ = some (.int .i64 z) := by
  obtain ⟨hi, rfl⟩ := List.getElem?_eq_some_iff.1 hz
  obtain ⟨hl, a', c', hv, _, _, _, h5⟩ := h.below hb
  injection hv with e1 e2 e3
  subst e1
  rcases h5 with h0 | ⟨b, off, e, hc⟩
  · omega
  · exact ⟨b, off, e, hc i _ (map_z_at l i hi)⟩
/-- One value of a row of slices. -/
theorem sl_at {w W : World} {a : Option Addr} {n c i : Nat} {cs : List Value} {u : Value} (h : Sl 1 w (.slice a n c) cs.length cs) (hb : Below w.heap.size w W) (hu : cs[i]? = some u) : ∃ b off, a = some ⟨b, off, none⟩ ∧ W.cell? ⟨b, off + i, none⟩ = some u := by
  have hi := (List.getElem?_eq_some_iff.1 hu).1
  obtain ⟨hl, a', c', hv, _, _, _, h5⟩ := h.below hb
  injection hv with e1 e2 e3
  subst e1
  rcases h5 with h0 | ⟨b, off, e, hc⟩
  · omega
  · exact ⟨b, off, e, hc i _ hu⟩
theorem zs_len {w : World} {a : Option Addr} {n c : Nat} {l : List Int} (h : Zs w (.slice a n c) l) : n = l.length ∧ n ≤ c ∧ c ≤ 9223372036854775807 := by
  obtain ⟨_, a', c', hv, h2, h3, _, _⟩ := h
  injection hv with e1 e2 e3
  unfold maxLen at h3
  omega
theorem bs_len {w : World} {a : Option Addr} {n c : Nat} {l : List UInt8} (h : Bs w (.slice a n c) l) : n = l.length ∧ n ≤ c ∧ c ≤ 9223372036854775807 := by
  obtain ⟨_, a', c', hv, h2, h3, _, _⟩ := h
  injection hv with e1 e2 e3
  unfold maxLen at h3
  omega
theorem bs_shape {w : World} {v : Value} {l : List UInt8} (h : Bs w v l) : ∃ a c, v = .slice a l.length c ∧ l.length ≤ c ∧ c ≤ 9223372036854775807 := by
  obtain ⟨_, a', c', hv, h2, h3, _, _⟩ := h
  unfold maxLen at h3
  exact ⟨a', c', hv, h2, h3⟩
theorem zs_shape {w : World} {v : Value} {l : List Int} (h : Zs w v l) : ∃ a c, v = .slice a l.length c ∧ l.length ≤ c ∧ c ≤ 9223372036854775807 := by
  obtain ⟨_, a', c', hv, h2, h3, _, _⟩ := h
  unfold maxLen at h3
  exact ⟨a', c', hv, h2, h3⟩

set_option maxRecDepth 100000 in
set_option maxHeartbeats 400000 in
/-- put upon nil: nothing. -/
theorem put_nil (vb : Value) (w : World) (hb : Bs w vb []) : Calls Try.prog 58 #[.slice none 0 0, vb] w fun e w' => e = .returned (.tuple #[]) ∧ w' = w := by
  obtain ⟨ao, cb, rfl, h2, h3⟩ := bs_shape hb
  simp only [List.length_nil] at h2 ⊢
  go_enter Try.func58, Try.ntmps58
  go_wp2
  go_loop [8] (fun i => i = .int .i64 0) (fun _ => 0)
  case atStart => rfl
  case round =>
    subst hrel
    go_wp2
    go_end0
    exact ⟨rfl, rfl⟩

set_option maxRecDepth 100000 in
set_option maxHeartbeats 400000 in
/-- Xor upon nil: nothing. -/
theorem xor_nil (p : Nat) (vb : Value) (w : World) (hp : w.cell? ⟨p, 0, none⟩ = some vb) (hb : Bs w vb []) : Calls Try.prog 49 #[.slice none 0 0, .slice (some ⟨p, 0, none⟩) 1 1] w fun e w' => e = .returned (.bool true) ∧ w' = w := by
  have HA := allHave_any (0 : Int) _ [vb] [[]] w (Sl.one hp) (parts_one hb)
  have e1 : ([([] : List UInt8)].all fun l => decide ((l.length : Int) = 0)) = true := by simp
  rw [e1] at HA
  have HA' : Hid (Calls Try.prog 57 #[.int .i64 0, .slice (some ⟨p, 0, none⟩) 1 1] w fun e w' => e = .returned (.bool true) ∧ w' = w) := HA
  have HP : Hid (Calls Try.prog 58 #[.slice none 0 0, vb] w fun e w' => e = .returned (.tuple #[]) ∧ w' = w) := put_nil vb w hb
  obtain ⟨ao, cb, rfl, -, -⟩ := bs_shape hb
  clear HA e1 hb
  go_enter Try.func49, Try.ntmps49
  go_wp2_with fail
  refine HA'.out.mono ?_
  rintro e w1 ⟨rfl, rfl⟩
  go_wp2
  go_loop [14] (fun i => i = .int .i64 0 ∨ i = .int .i64 1) (fun i => 1 - (intOf i).toNat)
  case atStart => exact .inl rfl
  case round =>
    rcases hrel with rfl | rfl
    · go_wp2_with fail
      refine HP.out.mono ?_
      rintro e w2 ⟨rfl, rfl⟩
      go_wp2
      go_round
      case rel => exact .inr rfl
      case measure => simp [intOf]
    · go_wp2
      go_ret
      exact ⟨rfl, rfl⟩

/-- Xor upon bytes of one's own, nil or not: one block, as long, whose row was just laid. -/
theorem xor_own (B : Nat) (a : Option Addr) (n c : Nat) (l b : List UInt8) (vb : Value) (w : World) (hO : OwB B w (.slice a n c) n l) (hb : Bs w vb b) (hlen : b.length = n) (ho : ∀ q, a = some ⟨q, 0, none⟩ → Off q vb) (r : Nat) (hr : r = w.heap.size) :
    Calls Try.prog 49 #[.slice a n c, .slice (some ⟨r, 0, none⟩) 1 1] (w.alloc (.cells #[vb] 38)) fun e w' => e = .returned (.bool true) ∧ OwB B w' (.slice a n c) n (xorL l b) ∧ (w.alloc (.cells #[vb] 38)).grownBy w' (Value.slice a n c).ownBlock := by
  subst hr
  have hl := hO.len
  rcases hO.2 with ⟨h', h0⟩ | ⟨g, cap, cur, hv, hg, hh, hnc, hcm, hcs, ht⟩
  · injection h' with e1 e2 e3
    subst e1; subst e2; subst e3
    obtain rfl : b = [] := List.eq_nil_of_length_eq_zero hlen
    obtain rfl : l = [] := List.eq_nil_of_length_eq_zero hl
    refine (xor_nil w.heap.size vb _ (by rw [World.cell?_alloc_new]; rfl) (hb.below (below_alloc _ _))).mono ?_
    rintro e w' ⟨rfl, rfl⟩
    exact ⟨rfl, hO.below (below_alloc _ _), World.grownBy.refl _ _⟩
  · injection hv with e1 e2 e3
    subst e1; subst e3
    have hO' := hO
    obtain ⟨-, post, hB, hp⟩ := owned_blk hO'
    have hlt := hB.lt
    refine (xor_one g c w.heap.size [] post l b vb _ (hB.below (below_alloc _ _)) (by omega) hcm (by rw [World.cell?_alloc_new]; rfl) (hb.below (below_alloc _ _)) (by omega) (ho g rfl) (by omega) n 0 hl.symm rfl).mono ?_
    rintro e w' ⟨rfl, h1, h2, h3⟩
    refine ⟨rfl, ?_, h2⟩
    have hx : (xorL l b).length = n := by rw [xorL_length (by omega)]; exact hl
    refine ⟨by simpa using hx, .inr ⟨g, c, _, rfl, hg, h1, hnc, hcm, ?_, ?_⟩⟩
    · simp; omega
    · simp [hx]

set_option maxRecDepth 100000 in
set_option maxHeartbeats 400000 in
/-- bytes.Clone. -/
theorem bclone_any (v : Value) (l : List UInt8) (n : Nat) (w : World) (h : Bs w v l) (hn : l.length = n) (hl : n ≤ 1000000000) :
    Calls Try.prog 50 #[v] w fun e w' => ∃ a c, e = .returned (.slice a n c) ∧ OwB w.heap.size w' (.slice a n c) n l ∧ Below w.heap.size w w' := by
  subst hn
  have HB : Hid (Bs w v l) := h
  obtain ⟨-, ao, cap, rfl, h2, h3, h4, -⟩ := h
  unfold maxLen at h3
  cases ao with
  | none =>
    obtain rfl : cap = 0 := h4 rfl
    have e0 : l.length = 0 := by omega
    have e1 : l = [] := List.eq_nil_of_length_eq_zero e0
    subst e1
    simp only [List.length_nil] at HB ⊢
    have en : ∀ W, Sem.run Try.prog (binOp BinOp.eql 38 (Value.slice none 0 0) (Value.slice none 0 0)) W = .ok (.bool true) W := by intro W; kernel_rfl
    clear h4
    go_enter Try.func50, Try.ntmps50
    go_wp2
    go_ret
    exact ⟨_, _, rfl, ⟨rfl, .inl ⟨rfl, rfl⟩⟩, Below.refl _ _⟩
  | some ad =>
    clear h4
    have SLo : Hid (∀ W, Below w.heap.size w W → Sl 1 W (.slice (some ad) l.length cap) l.length (l.map bv)) := fun W hW => HB.out.below hW
    obtain ⟨n, hn⟩ : ∃ n, l.length = n := ⟨_, rfl⟩
    rw [hn] at SLo hl h2 ⊢
    clear hn HB
    have en : ∀ W, Sem.run Try.prog (binOp BinOp.eql 38 (Value.slice (some ad) n cap) (Value.slice none 0 0)) W = .ok (.bool false) W := by intro W; kernel_rfl
    go_enter Try.func50, Try.ntmps50
    go_wp2_with (at_builtin; refine wpList_addB _ rfl (.tmp 5) (.tmp 6) rfl w.heap.size (.slice (some ⟨w.heap.size, 0, none⟩) 0 0) 0 [] rfl (OwB.new w (Nat.le_refl _)) _ n l rfl (SLo.out _ (below_alloc _ _)) (by omega) (by simp) ?_; intro oa oc w3 ho3 hg3 hnc3 hcm3)
    simp only [Nat.zero_add, List.nil_append] at ho3 hnc3
    have X3 : Hid (Below w.heap.size w w3) := below_addB (below_alloc w _) (OwB.new w (Nat.le_refl _)) (Nat.le_refl _) (by simp) hg3
    have O3 : Hid (OwB w.heap.size w3 (.slice oa n oc) n l) := ho3
    clear ho3 hg3 SLo
    go_ret
    exact ⟨_, _, by simp, O3.out, X3.out⟩

end

section
/-
  equation: Holds, as the program has it.
-/
open Go.RowKit
set_option linter.unusedVariables false

/-- An equation in a box. -/
def EqB (w : World) (b : Nat) (ov vv : Value) : Prop := w.cell? ⟨b, 0, none⟩ = some ov ∧ w.cell? ⟨b, 1, none⟩ = some vv
theorem EqB.below {w w' : World} {b : Nat} {ov vv : Value} (h : EqB w b ov vv) (hb : Below w.heap.size w w') : EqB w' b ov vv := ⟨(hb.cell (cell_block_lt h.1)).trans h.1, (hb.cell (cell_block_lt h.2)).trans h.2⟩
theorem EqB.new (w : World) (ov vv : Value) (t : TypeId) : EqB (w.alloc (.cells #[ov, vv] t)) w.heap.size ov vv := by constructor <;> simp
theorem EqB.lt {w : World} {b : Nat} {ov vv : Value} (h : EqB w b ov vv) : b < w.heap.size := cell_block_lt h.1

set_option maxRecDepth 100000 in
set_option maxHeartbeats 1000000 in
/-- HOLDS where all blocks are there, as long. -/
theorem qholds_yes (ov vv pv : Value) (of : List Int) (v : List UInt8) (vs : List Value) (ls : List (List UInt8)) (w : World) (hz : Zs w ov of) (hv : Bs w vv v) (hp : Sl 1 w pv vs.length vs) (hps : Parts w vs ls) (hm : of.length ≤ 1000000000) (hn : v.length ≤ 1000000000) (hok : OkOf v.length ls of) :
    Calls Try.prog 34 #[.agg #[ov, vv], pv] w fun e w' => e = .returned (.bool (zeroB (xorAll v (pkD ls of)))) ∧ Below w.heap.size w w' := by
  obtain ⟨r, hr⟩ : ∃ r, zeroB (xorAll v (pkD ls of)) = r := ⟨_, rfl⟩
  have HR : Hid (zeroB (xorAll v (pkD ls (oddD of))) = r) := (holds_odd hok).trans hr
  rw [hr]
  have HZ : Hid (Zs w ov of) := hz
  have HV : Hid (Bs w vv v) := hv
  have HP : Hid (Sl 1 w pv vs.length vs) := hp
  have HPS : Hid (Parts w vs ls) := hps
  have HK : Hid (OkOf v.length ls of) := hok
  obtain ⟨bo, oc, rfl, ho2, ho3⟩ := zs_shape hz
  obtain ⟨va, vc, rfl, hv2, hv3⟩ := bs_shape hv
  obtain ⟨-, ao, pc, rfl, hp2, hp3, -, -⟩ := hp
  unfold maxLen at hp3
  obtain ⟨M, hM⟩ : ∃ M, vs.length = M := ⟨_, rfl⟩
  obtain ⟨m, hm'⟩ : ∃ m, of.length = m := ⟨_, rfl⟩
  obtain ⟨n, hn'⟩ : ∃ n, v.length = n := ⟨_, rfl⟩
  have HM : Hid (vs.length = M) := hM
  have Hm : Hid (of.length = m) := hm'
  have Hn : Hid (v.length = n) := hn'
  have HL : Hid (ls.length = M) := by have := hps.1; unfold Hid; omega
  rw [hn'] at HK
  have AT : Hid (∀ k : Int, k ∈ of → ∀ W, Below w.heap.size w W → ∃ (j : Nat) (x : List UInt8) (b off : Nat) (xa : Option Addr) (xc : Nat), k = (j : Int) ∧ j < M ∧ ls[j]? = some x ∧ x.length = n ∧ ao = some ⟨b, off, none⟩ ∧ W.cell? ⟨b, off + j, none⟩ = some (.slice xa n xc) ∧ Bs w (.slice xa n xc) x ∧ xc ≤ 9223372036854775807 ∧ n ≤ xc) := by
    intro k hk W hW
    obtain ⟨j, x, rfl, hx, hxn⟩ := HK.out k hk
    have hj : j < ls.length := (List.getElem?_eq_some_iff.1 hx).1
    have hjM : j < M := by rw [← HL.out]; exact hj
    have hjv : j < vs.length := by rw [HM.out]; exact hjM
    have h1 := HPS.out.2 j _ x (List.getElem?_eq_getElem hjv) hx
    obtain ⟨xa, xc, e, h2, h3⟩ := bs_shape h1
    have hp' := HP.out
    obtain ⟨b, off, ea, hc⟩ := sl_at hp' hW (List.getElem?_eq_getElem hjv)
    rw [e] at h1 hc
    rw [hxn] at h1 hc h2
    exact ⟨j, x, b, off, xa, xc, rfl, hjM, hx, hxn, ea, hc, h1, h3, h2⟩
  rw [hm'] at hm ho2 ⊢
  rw [hn'] at hn hv2 ⊢
  rw [hM] at hp2 ⊢
  clear hM hm' hn' hps hok hz hv HP
  go_enter Try.func34, Try.ntmps34
  go_upto_region 1 with fail
  obtain ⟨w1, hw1⟩ : ∃ x, w.alloc (.cells #[.slice bo m oc, .slice va n vc] 43) = x := ⟨_, rfl⟩
  have E1 : Hid (EqB w1 w.heap.size (.slice bo m oc) (.slice va n vc)) := by rw [← hw1]; exact EqB.new _ _ _ _
  have B1 : Hid (Below w.heap.size w w1) := by rw [← hw1]; exact below_alloc _ _
  rw [hw1]
  clear hw1
  obtain ⟨c0, c1⟩ := E1.out
  go_wp2
  go_loopw [13] (fun iv wr => ∃ i : Nat, i ≤ m ∧ iv = .int .i64 i ∧ Hid (Below w1.heap.size w1 wr)) (fun iv _ => m - (intOf iv).toNat)
  case atStart => exact ⟨0, by omega, rfl, Below.refl _ _⟩
  case round =>
    clear c0 c1
    obtain ⟨i, hi, rfl, X2⟩ := hrel
    have XB : Hid (Below w.heap.size w wr) := on_below B1.out X2.out
    by_cases hlt : i < m
    · have hio : i < of.length := by rw [Hm.out]; exact hlt
      obtain ⟨k, hk⟩ : ∃ k, of[i]? = some k := ⟨_, List.getElem?_eq_getElem hio⟩
      obtain ⟨j, x, b2, off2, xa, xc, rfl, hjM, hx, hxn, rfl, ck, hbx, hxc, hnx⟩ := AT.out k (List.mem_of_getElem? hk) wr XB.out
      have HZ2 : Zs w (.slice bo m oc) of := by have := HZ.out; rw [Hm.out] at this; exact this
      obtain ⟨b, off, rfl, ci⟩ := zs_at HZ2 XB.out hk
      have h0 : ¬ (j : Int) < 0 := by omega
      have h1 : ¬ (j : Int) ≥ (M : Int) := by omega
      obtain ⟨c0, c1⟩ := E1.out.below X2.out
      clear hk hio HZ2 hbx hx hxn
      have d0 : decide ((j : Int) < 0) = false := decide_eq_false h0
      have d1 : decide ((M : Int) ≤ (j : Int)) = false := decide_eq_false h1
      go_upto_region 4 with fail
      go_quiet (fail)
      have X3 : Hid (Below w1.heap.size w1 (wr.drewN nq)) := below_drewN X2.out nq
      go_wp2
      go_roundw
      case rel => exact ⟨i + 1, by omega, by go_num, X3⟩
      case measure => simp [intOf]; omega
    · obtain rfl : m = i := by omega
      obtain ⟨c0, c1⟩ := E1.out.below X2.out
      have HV2 : Bs w (.slice va n vc) v := by have := HV.out; rw [Hn.out] at this; exact this
      have HZ2 : Zs w (.slice bo m oc) of := by have := HZ.out; rw [Hm.out] at this; exact this
      obtain ⟨w2, hw2⟩ : ∃ x, x = wr := ⟨_, rfl⟩
      subst hw2
      go_wp2_with fail
      refine (bclone_any _ v n w2 (HV2.below XB.out) Hn.out (by omega)).mono ?_
      rintro e w3 ⟨a3, k3, rfl, ho, hb⟩
      have O3 : Hid (OwB w2.heap.size w3 (.slice a3 n k3) n v) := ho
      have X3 : Hid (Below w1.heap.size w1 w3) := on_below X2.out hb
      have B3 : Hid (Below w.heap.size w w3) := on_below XB.out hb
      have Z2 : Hid (w.heap.size ≤ w2.heap.size) := XB.out.size
      have X23 : Hid (Below w2.heap.size w2 w3) := hb
      have XW : Hid (Below w.heap.size w w2) := XB.out
      clear ho hb c0 c1 X2 XB
      obtain ⟨c0, c1⟩ := E1.out.below X3.out
      obtain ⟨L, hL⟩ : ∃ L, oddD of = L := ⟨_, rfl⟩
      have HLo : Hid (oddD of = L) := hL
      obtain ⟨m4, hm4⟩ : ∃ m4, L.length = m4 := ⟨_, rfl⟩
      have CO : Hid (Calls Try.prog 51 #[.slice bo m oc] w3 fun e w' => ∃ a c, e = .returned (.slice a m4 c) ∧ OwnZ w3.heap.size w' (.slice a m4 c) m4 L ∧ Below w3.heap.size w3 w') := by
        have h1 := qodd_any (.slice bo m oc) of w3 (HZ2.below B3.out) (by rw [Hm.out]; omega)
        rw [hL, hm4] at h1
        exact h1
      have L4 : Hid (L.length = m4) := hm4
      have M4 : Hid (m4 ≤ 1000000000) := by unfold Hid; rw [← hm4, ← hL]; have := oddD_length of; rw [Hm.out] at this; omega
      clear hL hm4 HV2 HZ2
      go_wp2_with fail
      refine CO.out.mono ?_
      rintro e w4 ⟨a4, k4, rfl, ho, hb⟩
      have Z4 : Hid (OwnZ w3.heap.size w4 (.slice a4 m4 k4) m4 L) := ho
      have O4 : Hid (OwB w2.heap.size w4 (.slice a3 n k3) n v) := O3.out.below hb
      have B4 : Hid (Below w2.heap.size w2 w4) := X23.out.trans (hb.mono X23.out.size)
      have S4 : Hid (∀ q, (Value.slice a3 n k3).ownBlock = some q → w2.heap.size ≤ q ∧ q < w3.heap.size) := fun q hq => O3.out.lt q hq
      clear ho hb c0 c1 O3 B3 CO
      have hm4b := M4.out
      go_wp2
      go_loopw [44] (fun iv wr => ∃ i : Nat, i ≤ m4 ∧ iv = .int .i64 i ∧ Hid (OwB w2.heap.size wr (.slice a3 n k3) n (xorAll v (pkD ls (L.take i)))) ∧ Hid (OwnZ w3.heap.size wr (.slice a4 m4 k4) m4 L) ∧ Hid (Below w2.heap.size w2 wr)) (fun iv _ => m4 - (intOf iv).toNat)
      case atStart => exact ⟨0, by omega, rfl, O4, Z4, B4⟩
      case round =>
        clear O4 Z4 B4
        obtain ⟨i, hi, rfl, O4, Z4, B4⟩ := hrel
        have XB : Hid (Below w.heap.size w wr) := XW.out.trans (B4.out.mono Z2.out)
        by_cases hlt : i < m4
        · have hiL : i < L.length := by rw [L4.out]; exact hlt
          obtain ⟨k, hk⟩ : ∃ k, L[i]? = some k := ⟨_, List.getElem?_eq_getElem hiL⟩
          have hkof : k ∈ of := mem_oddD (by rw [HLo.out]; exact List.mem_of_getElem? hk)
          obtain ⟨j, x, b2, off2, xa, xc, rfl, hjM, hx, hxn, rfl, ck, hbx, hxc, hnx⟩ := AT.out k hkof wr XB.out
          have NX : Hid (xorAll v (pkD ls (L.take (i + 1))) = xorL (xorAll v (pkD ls (L.take i))) x) := by
            obtain ⟨hil, e⟩ := List.getElem?_eq_some_iff.1 hk
            unfold Hid
            unfold pkD
            rw [List.take_succ_eq_append_getElem hil, List.map_append, xorAll_append, e]
            simp [xorAll, List.getD, hx]
          obtain ⟨b, off, rfl, ci⟩ := zs_at Z4.out.zs (Below.refl _ _) hk
          have BX : Hid (Bs w (.slice xa n xc) x) := hbx
          have XL : Hid (x.length = n) := hxn
          clear hk hkof hiL hx hxn hbx
          go_wp2_with fail
          refine (xor_own w2.heap.size a3 n k3 _ x (.slice xa n xc) wr O4.out (BX.out.below XB.out) XL.out (fun q hq => BX.out.off_new (by have := (S4.out q (by rw [hq]; rfl)).1; have := Z2.out; omega)) _ rfl).mono ?_
          rintro e w6 ⟨rfl, ho, hg⟩
          have O6 : Hid (OwB w2.heap.size w6 (.slice a3 n k3) n (xorAll v (pkD ls (L.take (i + 1))))) := by rw [NX.out]; exact ho
          have Z6 : Hid (OwnZ w3.heap.size w6 (.slice (some ⟨b, off, none⟩) m4 k4) m4 L) := by
            have h1 := Z4.out.alloc (.cells #[.slice xa n xc] 38)
            refine h1.kept fun q hq => hg.block q (h1.lt q hq).2 (fun e => ?_)
            have h2 := (S4.out q e.symm).2
            have h3 := (h1.lt q hq).1
            omega
          have B6 : Hid (Below w2.heap.size w2 w6) := (B4.out.alloc B4.out.size _).grown hg (by have := B4.out.size; simp; omega) (fun q hq => (S4.out q hq).1)
          clear ho hg ci ck BX XL NX O4 Z4 B4
          go_wp2
          go_roundw
          case rel => exact ⟨i + 1, by omega, by go_num, O6, Z6, B6⟩
          case measure => simp [intOf]; omega
        · have R : Hid (Bs wr (.slice a3 n k3) (xorAll v (pkD ls L))) := by
            have h1 := O4.out.bs
            rw [List.take_of_length_le (by rw [L4.out]; omega)] at h1
            exact h1
          have HR2 : Hid (zeroB (xorAll v (pkD ls L)) = r) := by
            have := HR.out
            rw [HLo.out] at this
            exact this
          clear O4 Z4 B4
          go_wp2_with fail
          refine (zero_any _ _ wr R.out).mono ?_
          rintro e w7 ⟨rfl, rfl⟩
          rw [HR2.out]
          go_wp2
          go_ret
          exact ⟨rfl, XB.out⟩

end

section
/-
  compose: which blocks are right: mathematics.
-/
open Go.RowKit
set_option linter.unusedVariables false

theorem zeroB_append (a b : List UInt8) : zeroB (a ++ b) = (zeroB a && zeroB b) := by simp [zeroB]
/-- Behind n bytes there is nothing but noughts, and so many there are. -/
def EndP (n : Int) (ls : List (List UInt8)) : Prop := 0 ≤ n ∧ n ≤ (ls.flatten.length : Int) ∧ zeroB (ls.flatten.drop n.toNat) = true
theorem flat_take_next {ls : List (List UInt8)} {i : Nat} {x : List UInt8} (h : ls[i]? = some x) : (ls.take (i + 1)).flatten = (ls.take i).flatten ++ x := by
  obtain ⟨hi, rfl⟩ := List.getElem?_eq_some_iff.1 h
  exact flat_next ls i hi
theorem flat_take_split (ls : List (List UInt8)) (i : Nat) : ls.flatten = (ls.take i).flatten ++ (ls.drop i).flatten := by
  rw [← List.flatten_append, List.take_append_drop]
theorem end_take {n : Nat} {ls : List (List UInt8)} (h : zeroB (ls.flatten.drop n) = true) (i : Nat) : zeroB ((ls.take i).flatten.drop n) = true := by
  rw [flat_take_split ls i, List.drop_append, zeroB_append] at h
  exact (Bool.and_eq_true_iff.1 h).1
/-- How many are left behind the first i blocks. -/
def leftE (n : Nat) (ls : List (List UInt8)) (i : Nat) : Nat := n - (ls.take i).flatten.length
theorem leftE_zero (n : Nat) (ls : List (List UInt8)) : leftE n ls 0 = n := by simp [leftE]
theorem leftE_next {n i : Nat} {ls : List (List UInt8)} {x : List UInt8} (h : ls[i]? = some x) : leftE n ls (i + 1) = leftE n ls i - min (leftE n ls i) x.length := by
  unfold leftE
  rw [flat_take_next h, List.length_append]
  omega
theorem drop_min (x : List UInt8) (k : Nat) : x.drop (min k x.length) = x.drop k := by
  by_cases h : k ≤ x.length
  · rw [Nat.min_eq_left h]
  · rw [Nat.min_eq_right (by omega), List.drop_length, List.drop_eq_nil_of_le (by omega)]
theorem end_next {n i : Nat} {ls : List (List UInt8)} {x : List UInt8} (h : ls[i]? = some x) : zeroB ((ls.take (i + 1)).flatten.drop n) = (zeroB ((ls.take i).flatten.drop n) && zeroB (x.drop (min (leftE n ls i) x.length))) := by
  rw [flat_take_next h, List.drop_append, zeroB_append, drop_min]
  rfl
theorem end_all {n i : Nat} {ls : List (List UInt8)} (h : ls.length ≤ i) : leftE n ls i = 0 ↔ n ≤ ls.flatten.length := by
  unfold leftE
  rw [List.take_of_length_le h]
  omega

theorem flat_at {B : Nat} : ∀ {ls : List (List UInt8)}, (∀ x ∈ ls, x.length = B) → ∀ {i k : Nat} {x : List UInt8}, ls[i]? = some x → k < B → ls.flatten.getD (i * B + k) 0 = x.getD k 0
  | [], _, i, k, x, h, _ => by simp at h
  | y :: ls, hB, 0, k, x, h, hk => by
    have hy : y.length = B := hB y (by simp)
    simp at h
    subst h
    rw [List.flatten_cons, Nat.zero_mul, Nat.zero_add]
    simp only [List.getD]
    rw [List.getElem?_append_left (by omega)]
  | y :: ls, hB, i + 1, k, x, h, hk => by
    have hy : y.length = B := hB y (by simp)
    have ih := flat_at (ls := ls) (fun z hz => hB z (by simp [hz])) (i := i) (k := k) (x := x) (by simpa using h) hk
    rw [List.flatten_cons, ← ih]
    simp only [List.getD]
    have e : (i + 1) * B + k = B + (i * B + k) := by rw [Nat.add_mul]; omega
    rw [e, List.getElem?_append_right (by omega), hy, Nat.add_sub_cancel_left]
theorem split_flat {N B : Nat} {ls : List (List UInt8)} (hN : ls.length = N) (hB : ∀ x ∈ ls, x.length = B) : splitD N B ls.flatten = ls := by
  apply List.ext_getElem?
  intro i
  by_cases hi : i < N
  · have hx : ls[i]? = some ls[i] := List.getElem?_eq_getElem (by omega)
    rw [splitD_at hi, hx]
    congr 1
    have hl : (ls[i]).length = B := hB _ (List.getElem_mem _)
    apply ext_getD
    · rw [blkAt_length, hl]
    · intro k hk
      rw [blkAt_length] at hk
      rw [← flat_at hB hx hk]
      unfold blkAt
      simp [List.getD, hk]
  · rw [List.getElem?_eq_none (by rw [splitD_length]; omega), List.getElem?_eq_none (by omega)]

/-- The equation of an auxiliary block. -/
def eqOf (N : Nat) (rows : List (List Int)) (j : Nat) : List Int := rows.getD j [] ++ [(N : Int) + (j : Int)]
def EqAt (N B : Nat) (rows : List (List Int)) (ls : List (List UInt8)) (j : Nat) : Prop := OkOf B ls (eqOf N rows j) ∧ zeroB (chkD B ls (eqOf N rows j)) = true
def AgreeP (N B A : Nat) (rows : List (List Int)) (ls : List (List UInt8)) : Prop := ∀ j, j < A → EqAt N B rows ls j
def RightP (N B A : Nat) (rows : List (List Int)) (n : Int) (ls : List (List UInt8)) : Prop := ls.length = N + A ∧ EndP n (ls.take N) ∧ AgreeP N B A rows ls

theorem pkD_append2 (ls : List (List UInt8)) (a b : List Int) : pkD ls (a ++ b) = pkD ls a ++ pkD ls b := by simp [pkD]
theorem chkD_snoc (B : Nat) (ls : List (List UInt8)) (a : List Int) (k : Nat) : chkD B ls (a ++ [(k : Int)]) = xorL (chkD B ls a) (ls.getD k []) := by
  unfold chkD
  rw [pkD_append2, xorAll_append]
  simp [pkD, xorAll]
theorem zeroB_eq {l : List UInt8} (h : zeroB l = true) : l = zeros l.length := by
  unfold zeroB at h
  unfold zeros
  refine List.eq_replicate_iff.2 ⟨rfl, fun b hb => ?_⟩
  have := List.all_eq_true.1 h b hb
  simpa using this
theorem zeroB_xor {a b : List UInt8} (h : b.length = a.length) : zeroB (xorL a b) = true ↔ a = b := by
  constructor
  · intro hz
    have := zeroB_eq hz
    rw [xorL_length h] at this
    have h2 : xorL (xorL a b) b = a := xorL_twice h
    rw [this, ← h, xorL_zeros] at h2
    exact h2.symm
  · rintro rfl
    rw [xorL_self]
    exact zeroB_zeros _

/-- Of blocks that are all as long: an auxiliary block is right just if it is made of its message blocks. -/
theorem eqAt_iff {N B A j : Nat} {rows : List (List Int)} {ls : List (List UInt8)} {r : List Int} (hl : ls.length = N + A) (hB : ∀ x ∈ ls, x.length = B) (hr : rows[j]? = some r) (hj : j < A) (hm : ∀ i ∈ r, 0 ≤ i ∧ i < (N : Int)) :
    EqAt N B rows ls j ↔ ls[N + j]? = some (chkD B (ls.take N) r) := by
  have hN : (ls.take N).length = N := by simp; omega
  have ho : OkOf B (ls.take N) r := okOf_below (fun x hx => hB x (List.mem_of_mem_take hx)) (by rw [hN]; exact hm)
  have e1 : chkD B ls r = chkD B (ls.take N) r := by
    unfold chkD
    have h := pkD_append (ls := ls.take N) (ms := ls.drop N) (of := r) (by rw [hN]; exact hm)
    rw [List.take_append_drop] at h
    rw [h]
  have hk : N + j < ls.length := by omega
  have e2 : ls.getD (N + j) [] = ls[N + j] := by simp [List.getD, hk]
  have hx : (ls[N + j]).length = B := hB _ (List.getElem_mem hk)
  have hc : (chkD B (ls.take N) r).length = B := chkD_length ho
  have he : eqOf N rows j = r ++ [((N + j : Nat) : Int)] := by unfold eqOf; simp [List.getD, hr]
  unfold EqAt
  rw [he, chkD_snoc, e1, e2, zeroB_xor (by omega), List.getElem?_eq_getElem hk]
  constructor
  · rintro ⟨-, h⟩
    rw [h]
  · intro h
    refine ⟨?_, (Option.some.inj h).symm⟩
    intro i hi
    rcases List.mem_append.1 hi with hi | hi
    · have := okOf_append (ms := ls.drop N) ho i hi
      rw [List.take_append_drop] at this
      exact this
    · simp at hi
      exact ⟨N + j, _, by omega, List.getElem?_eq_getElem hk, hx⟩

theorem compD_take (N B : Nat) (rows : List (List Int)) (l : List UInt8) : (compD N B rows l).take N = splitD N B l := by
  unfold compD
  rw [List.take_append_of_le_length (by rw [splitD_length]; exact Nat.le_refl _), List.take_of_length_le (by rw [splitD_length]; exact Nat.le_refl _)]
theorem compD_at {N B j : Nat} {rows : List (List Int)} {l : List UInt8} {r : List Int} (h : rows[j]? = some r) : (compD N B rows l)[N + j]? = some (chkD B (splitD N B l) r) := by
  unfold compD
  rw [List.getElem?_append_right (by rw [splitD_length]; omega), splitD_length, Nat.add_sub_cancel_left, List.getElem?_map, h]
  rfl
theorem flat_pad {N B : Nat} {l : List UInt8} (h : l.length ≤ N * B) : (splitD N B l).flatten = l ++ zeros (N * B - l.length) := by
  rw [flat_split]
  apply ext_getD
  · simp [zeros]; omega
  · intro k hk
    simp at hk
    rw [getD_pad]
    simp [List.getD, hk]
theorem end_split {N B : Nat} {l : List UInt8} (h : l.length ≤ N * B) : EndP (l.length : Int) (splitD N B l) := by
  refine ⟨by omega, ?_, ?_⟩
  · rw [flat_pad h]; simp; omega
  · rw [flat_pad h]; simp [zeroB_zeros]
/-- COMPOSITE BLOCKS ARE RIGHT. -/
theorem right_comp {N B A : Nat} {rows : List (List Int)} {l : List UInt8} (h : RwOk N A rows) (hl : l.length ≤ N * B) : RightP N B A rows (l.length : Int) (compD N B rows l) := by
  refine ⟨by rw [compD_length, h.1], by rw [compD_take]; exact end_split hl, fun j hj => ?_⟩
  obtain ⟨r, hr⟩ : ∃ r, rows[j]? = some r := ⟨_, List.getElem?_eq_getElem (by rw [h.1]; exact hj)⟩
  refine (eqAt_iff (A := A) (by rw [compD_length, h.1]) (compD_mem h) hr hj (h.2 j r hr).2).2 ?_
  rw [compD_take, compD_at hr]

/-- Blocks that are all as long are right just if they are those of the bytes that they begin with. -/
theorem right_iff {N B A : Nat} {rows : List (List Int)} {ls : List (List UInt8)} (n : Nat) (h : RwOk N A rows) (hl : ls.length = N + A) (hB : ∀ x ∈ ls, x.length = B) (hn : n ≤ N * B) :
    RightP N B A rows (n : Int) ls ↔ ls = compD N B rows ((ls.take N).flatten.take n) := by
  have hN : (ls.take N).length = N := by simp; omega
  have hf : (ls.take N).flatten.length = N * B := by rw [flat_len (B := B) (fun x hx => hB x (List.mem_of_mem_take hx)), hN]
  have hk : ((ls.take N).flatten.take n).length = n := by rw [List.length_take, hf]; omega
  constructor
  · rintro ⟨-, ⟨-, -, hz⟩, ha⟩
    simp at hz
    have hz2 := zeroB_eq hz
    have e1 : splitD N B ((ls.take N).flatten.take n) = ls.take N := by
      have hp : (ls.take N).flatten = (ls.take N).flatten.take n ++ zeros (N * B - n) := by
        have : (zeros (N * B - n)) = (ls.take N).flatten.drop n := by rw [hz2, List.length_drop, hf]
        rw [this, List.take_append_drop]
      have h2 : splitD N B (ls.take N).flatten = ls.take N := split_flat hN (fun x hx => hB x (List.mem_of_mem_take hx))
      rw [hp, split_zeros] at h2
      exact h2
    apply List.ext_getElem?
    intro i
    by_cases hi : i < N
    · unfold compD
      rw [e1, List.getElem?_append_left (by rw [hN]; exact hi), List.getElem?_take, if_pos hi]
    · by_cases hi2 : i < N + A
      · obtain ⟨j, rfl⟩ : ∃ j, i = N + j := ⟨i - N, by omega⟩
        obtain ⟨r, hr⟩ : ∃ r, rows[j]? = some r := ⟨_, List.getElem?_eq_getElem (by rw [h.1]; omega)⟩
        rw [compD_at hr, e1]
        exact (eqAt_iff hl hB hr (by omega) (h.2 j r hr).2).1 (ha j (by omega))
      · rw [List.getElem?_eq_none (by omega), List.getElem?_eq_none (by rw [compD_length, h.1]; omega)]
  · intro he
    have := right_comp (l := (ls.take N).flatten.take n) h (by rw [hk]; exact hn)
    rw [hk, ← he] at this
    exact this

end

section
/-
  compose: endsAt, agree, Right.
-/
open Go.RowKit
set_option linter.unusedVariables false

/-- Whether something is so, as it is told. -/
def TellsP (P : Prop) (e : Ending) : Prop := ∃ b : Bool, e = .returned (.bool b) ∧ (b = true ↔ P)
theorem tells_no {P : Prop} {e : Ending} (h : e = .returned (.bool false)) (hp : ¬ P) : TellsP P e := ⟨false, h, ⟨fun h => by simp at h, fun h => absurd h hp⟩⟩
theorem tells_yes {P : Prop} {e : Ending} (h : e = .returned (.bool true)) (hp : P) : TellsP P e := ⟨true, h, ⟨fun _ => hp, fun _ => rfl⟩⟩

theorem elemParts : Try.prog.underlying 23 = some (.slice (Try.prog.elem 23)) := by kernel_rfl
theorem sizeParts (W : World) : (sizeOf (Try.prog.elem 23)).run Try.prog W = .ok 1 W := by
  have he : Try.prog.elem 23 = 38 := by kernel_rfl
  obtain ⟨i0, hi, hz0, hz1, hz2⟩ := infoBs_parts
  rw [he]
  simp [sizeOf, typeInfo, hi, hz1]

/-- The first of some slices. -/
theorem Sl.take {w : World} {ao : Option Addr} {n c N : Nat} {cs : List Value} (h : Sl 1 w (.slice ao n c) n cs) (hN : N ≤ n) : Sl 1 w (.slice ao N c) N (cs.take N) := by
  obtain ⟨h1, a, c', hv, h2, h3, h4, h5⟩ := h
  injection hv with e1 e2 e3
  subst e1; subst e3
  refine ⟨by simp; omega, ao, c, rfl, by omega, h3, h4, ?_⟩
  rcases h5 with h0 | ⟨b, off, hao, hc⟩
  · exact .inl (by omega)
  · refine .inr ⟨b, off, hao, fun j u hj => hc j u ?_⟩
    rw [List.getElem?_take] at hj
    split at hj
    · exact hj
    · cases hj
theorem Parts.take {w : World} {vs : List Value} {ls : List (List UInt8)} (h : Parts w vs ls) (N : Nat) : Parts w (vs.take N) (ls.take N) := by
  refine ⟨by rw [List.length_take, List.length_take, h.1], fun i v p hv hp => ?_⟩
  rw [List.getElem?_take] at hv hp
  split at hv
  · rw [if_pos (by assumption)] at hp
    exact h.2 i v p hv hp
  · cases hv

theorem RwOk.at {N A j : Nat} {rows : List (List Int)} (h : RwOk N A rows) (hj : j < A) : ∃ r, rows[j]? = some r ∧ r.length ≤ N ∧ (∀ i ∈ r, 0 ≤ i ∧ i < (N : Int)) ∧ eqOf N rows j = r ++ [(N : Int) + (j : Int)] := by
  obtain ⟨r, hr⟩ : ∃ r, rows[j]? = some r := ⟨_, List.getElem?_eq_getElem (by rw [h.1]; exact hj)⟩
  exact ⟨r, hr, (h.2 j r hr).1, (h.2 j r hr).2, by unfold eqOf; simp [List.getD, hr]⟩
theorem agree_next {N B j : Nat} {rows : List (List Int)} {ls : List (List UInt8)} (h : ∀ i, i < j → EqAt N B rows ls i) (hj : EqAt N B rows ls j) : ∀ i, i < j + 1 → EqAt N B rows ls i := by
  intro i hi
  by_cases e : i = j
  · rw [e]; exact hj
  · exact h i (by omega)

end

section
/-
  equation: Holds where a block isn't there, or isn't as long; Same.
-/
open Go.RowKit
set_option linter.unusedVariables false

set_option maxRecDepth 100000 in
set_option maxHeartbeats 1000000 in
/-- HOLDS where a block isn't there, or isn't as long. -/
theorem qholds_no (ov vv pv : Value) (of : List Int) (v : List UInt8) (vs : List Value) (ls : List (List UInt8)) (w : World) (hz : Zs w ov of) (hv : Bs w vv v) (hp : Sl 1 w pv vs.length vs) (hps : Parts w vs ls) (hm : of.length ≤ 1000000000) (hn : v.length ≤ 1000000000) (hok : ¬ OkOf v.length ls of) :
    Calls Try.prog 34 #[.agg #[ov, vv], pv] w fun e w' => e = .returned (.bool false) ∧ Below w.heap.size w w' := by
  obtain ⟨J, hJ, hJ1, hJ2⟩ := first_bad hok
  have HZ : Hid (Zs w ov of) := hz
  have HV : Hid (Bs w vv v) := hv
  have HP : Hid (Sl 1 w pv vs.length vs) := hp
  have HPS : Hid (Parts w vs ls) := hps
  have HK : Hid (OkOf v.length ls (of.take J)) := hJ1
  obtain ⟨bo, oc, rfl, ho2, ho3⟩ := zs_shape hz
  obtain ⟨va, vc, rfl, hv2, hv3⟩ := bs_shape hv
  obtain ⟨-, ao, pc, rfl, hp2, hp3, -, -⟩ := hp
  unfold maxLen at hp3
  obtain ⟨M, hM⟩ : ∃ M, vs.length = M := ⟨_, rfl⟩
  obtain ⟨m, hm'⟩ : ∃ m, of.length = m := ⟨_, rfl⟩
  obtain ⟨n, hn'⟩ : ∃ n, v.length = n := ⟨_, rfl⟩
  have HM : Hid (vs.length = M) := hM
  have Hm : Hid (of.length = m) := hm'
  have Hn : Hid (v.length = n) := hn'
  have HL : Hid (ls.length = M) := by have := hps.1; unfold Hid; omega
  rw [hn'] at HK hJ2
  have HB : Hid (¬ OkAt n ls of[J]) := hJ2
  have PT : Hid (∀ (j : Nat), j < M → ∀ W, Below w.heap.size w W → ∃ (x : List UInt8) (b off : Nat) (xa : Option Addr) (xc : Nat), ls[j]? = some x ∧ ao = some ⟨b, off, none⟩ ∧ W.cell? ⟨b, off + j, none⟩ = some (.slice xa x.length xc) ∧ xc ≤ 9223372036854775807 ∧ x.length ≤ xc) := by
    intro j hjM W hW
    have hjv : j < vs.length := by rw [HM.out]; exact hjM
    have hjl : j < ls.length := by rw [HL.out]; exact hjM
    have h1 := HPS.out.2 j _ _ (List.getElem?_eq_getElem hjv) (List.getElem?_eq_getElem hjl)
    obtain ⟨xa, xc, e, h2, h3⟩ := bs_shape h1
    have hp' := HP.out
    obtain ⟨b, off, ea, hc⟩ := sl_at hp' hW (List.getElem?_eq_getElem hjv)
    rw [e] at hc
    exact ⟨_, b, off, xa, xc, List.getElem?_eq_getElem hjl, ea, hc, h3, h2⟩
  rw [hm'] at hm ho2 ⊢
  rw [hn'] at hn hv2 ⊢
  rw [hM] at hp2 ⊢
  have hJm : J < m := by omega
  clear hM hm' hn' hps hok hz hv HP hJ1 hJ2
  go_enter Try.func34, Try.ntmps34
  go_upto_region 1 with fail
  obtain ⟨w1, hw1⟩ : ∃ x, w.alloc (.cells #[.slice bo m oc, .slice va n vc] 43) = x := ⟨_, rfl⟩
  have E1 : Hid (EqB w1 w.heap.size (.slice bo m oc) (.slice va n vc)) := by rw [← hw1]; exact EqB.new _ _ _ _
  have B1 : Hid (Below w.heap.size w w1) := by rw [← hw1]; exact below_alloc _ _
  rw [hw1]
  clear hw1
  obtain ⟨c0, c1⟩ := E1.out
  go_wp2
  go_loopw [13] (fun iv wr => ∃ i : Nat, i ≤ J ∧ iv = .int .i64 i ∧ Hid (Below w1.heap.size w1 wr)) (fun iv _ => m - (intOf iv).toNat)
  case atStart => exact ⟨0, by omega, rfl, Below.refl _ _⟩
  case round =>
    clear c0 c1
    obtain ⟨i, hi, rfl, X2⟩ := hrel
    have XB : Hid (Below w.heap.size w wr) := on_below B1.out X2.out
    have HZ2 : Zs w (.slice bo m oc) of := by have := HZ.out; rw [Hm.out] at this; exact this
    obtain ⟨c0, c1⟩ := E1.out.below X2.out
    by_cases hlt : i < J
    · have hio : i < of.length := by rw [Hm.out]; omega
      obtain ⟨k, hk⟩ : ∃ k, of[i]? = some k := ⟨_, List.getElem?_eq_getElem hio⟩
      have hkt : (of.take J)[i]? = some k := by rw [List.getElem?_take, if_pos hlt]; exact hk
      obtain ⟨j, x', rfl, hx', hxn⟩ := HK.out k (List.mem_of_getElem? hkt)
      have hjM : j < M := by rw [← HL.out]; exact (List.getElem?_eq_some_iff.1 hx').1
      obtain ⟨x, b2, off2, xa, xc, hx, rfl, ck, hxc, hnx⟩ := PT.out j hjM wr XB.out
      rw [hx] at hx'
      have hx' := Option.some.inj hx'
      subst hx'
      rw [hxn] at ck hnx
      obtain ⟨b, off, rfl, ci⟩ := zs_at HZ2 XB.out hk
      have h0 : ¬ (j : Int) < 0 := by omega
      have h1 : ¬ (j : Int) ≥ (M : Int) := by omega
      clear hk hkt hio HZ2 hx hxn
      have d0 : decide ((j : Int) < 0) = false := decide_eq_false h0
      have d1 : decide ((M : Int) ≤ (j : Int)) = false := decide_eq_false h1
      go_upto_region 4 with fail
      go_quiet (fail)
      have X3 : Hid (Below w1.heap.size w1 (wr.drewN nq)) := below_drewN X2.out nq
      go_wp2
      go_roundw
      case rel => exact ⟨i + 1, by omega, by go_num, X3⟩
      case measure => simp [intOf]; omega
    · obtain rfl : J = i := by omega
      obtain ⟨y, hy⟩ : ∃ y, of[J]? = some y := ⟨_, List.getElem?_eq_getElem hJ⟩
      have NB : Hid (¬ OkAt n ls y) := by
        have h1 := HB.out
        have h2 := (List.getElem?_eq_some_iff.1 hy).2
        rw [h2] at h1
        exact h1
      obtain ⟨b, off, rfl, ci⟩ := zs_at HZ2 XB.out hy
      clear hy HZ2 HB HK hJ
      by_cases hy0 : y < 0
      · go_upto_region 4 with fail
        go_quiet (fail)
        go_wp2
        go_ret
        exact ⟨rfl, below_drewN XB.out _⟩
      · have d0 : decide (y < 0) = false := decide_eq_false hy0
        by_cases hyM : y ≥ (M : Int)
        · have hyM2 : (M : Int) ≤ y := hyM
          go_upto_region 4 with fail
          go_quiet (fail)
          go_wp2
          go_ret
          exact ⟨rfl, below_drewN XB.out _⟩
        · obtain ⟨j, rfl⟩ : ∃ j : Nat, y = j := ⟨y.toNat, by omega⟩
          have hjM : j < M := by omega
          obtain ⟨x, b2, off2, xa, xc, hx, rfl, ck, hxc, hnx⟩ := PT.out j hjM wr XB.out
          have hne : ¬ x.length = n := fun h => NB.out ⟨j, x, rfl, hx, h⟩
          clear hx NB
          generalize x.length = xn at *
          have d1 : decide ((M : Int) ≤ (j : Int)) = false := decide_eq_false hyM
          have hneI : ((xn : Int) != (n : Int)) = true := by simp; omega
          go_upto_region 4 with fail
          go_quiet (fail)
          go_wp2
          go_ret
          exact ⟨rfl, below_drewN XB.out _⟩

/-- HOLDS. -/
theorem qholds_any (ov vv pv : Value) (of : List Int) (v : List UInt8) (vs : List Value) (ls : List (List UInt8)) (w : World) (hz : Zs w ov of) (hv : Bs w vv v) (hp : Sl 1 w pv vs.length vs) (hps : Parts w vs ls) (hm : of.length ≤ 1000000000) (hn : v.length ≤ 1000000000) :
    Calls Try.prog 34 #[.agg #[ov, vv], pv] w fun e w' => TellsP (HoldsP of v ls) e ∧ Below w.heap.size w w' := by
  by_cases hok : OkOf v.length ls of
  · refine (qholds_yes ov vv pv of v vs ls w hz hv hp hps hm hn hok).mono ?_
    rintro e w' ⟨rfl, hb⟩
    exact ⟨⟨_, rfl, ⟨fun h => ⟨hok, h⟩, fun h => h.2⟩⟩, hb⟩
  · refine (qholds_no ov vv pv of v vs ls w hz hv hp hps hm hn hok).mono ?_
    rintro e w' ⟨rfl, hb⟩
    exact ⟨tells_no rfl (fun h => hok h.1), hb⟩

end

section
/-
  Slices of equations, and of rows of numbers, as they are read.
-/
open Go.RowKit
set_option linter.unusedVariables false

/-- An equation: its two values, and what they read as. -/
structure Qe where
  ov : Value
  vv : Value
  of : List Int
  va : List UInt8
def Qe.cells (e : Qe) : List Value := [e.ov, e.vv]
def QeP (w : World) (e : Qe) : Prop := Zs w e.ov e.of ∧ Bs w e.vv e.va
theorem QeP.below {w w' : World} {e : Qe} (h : QeP w e) (hb : Below w.heap.size w w') : QeP w' e := ⟨h.1.below hb, h.2.below hb⟩

theorem length_qs (l : List Qe) : (l.flatMap Qe.cells).length = l.length * 2 := by
  induction l with
  | nil => rfl
  | cons x l ih => simp only [List.flatMap_cons, List.length_append, ih, List.length_cons]; simp [Qe.cells]; omega
theorem qs_get (l : List Qe) : ∀ (i : Nat) (e : Qe), l[i]? = some e → ∀ j, j < 2 → (l.flatMap Qe.cells)[i * 2 + j]? = e.cells[j]? := by
  induction l with
  | nil => intro i e h; simp at h
  | cons x l ih =>
    intro i e h j hj
    simp only [List.flatMap_cons]
    cases i with
    | zero =>
      simp at h
      subst h
      rw [List.getElem?_append_left (by simp [Qe.cells]; omega)]
      simp
    | succ i =>
      rw [List.getElem?_append_right (by simp [Qe.cells]; omega)]
      have e' : (i + 1) * 2 + j - (Qe.cells x).length = i * 2 + j := by simp [Qe.cells]; omega
      rw [e', ih i e (by simpa using h) j hj]

/-- A slice of equations. -/
def Qs (w : World) (v : Value) (l : List Qe) : Prop := Sl 2 w v l.length (l.flatMap Qe.cells) ∧ ∀ e ∈ l, QeP w e
theorem Qs.below {w w' : World} {v : Value} {l : List Qe} (h : Qs w v l) (hb : Below w.heap.size w w') : Qs w' v l := ⟨h.1.below hb, fun e he => (h.2 e he).below hb⟩
theorem Qs.shape {w : World} {v : Value} {l : List Qe} (h : Qs w v l) : ∃ a c, v = .slice a l.length c ∧ l.length ≤ c ∧ c ≤ 9223372036854775807 := by
  obtain ⟨⟨_, a', c', hv, h2, h3, _, _⟩, -⟩ := h
  unfold maxLen at h3
  exact ⟨a', c', hv, h2, h3⟩
theorem Qs.at {w W : World} {a : Option Addr} {n c i : Nat} {l : List Qe} {e : Qe} (h : Qs w (.slice a n c) l) (hb : Below w.heap.size w W) (he : l[i]? = some e) : ∃ b off, a = some ⟨b, off, none⟩ ∧ W.cell? ⟨b, off + i * 2, none⟩ = some e.ov ∧ W.cell? ⟨b, off + i * 2 + 1, none⟩ = some e.vv := by
  have hi := (List.getElem?_eq_some_iff.1 he).1
  obtain ⟨hl, a', c', hv, _, _, _, h5⟩ := h.1.below hb
  injection hv with e1 e2 e3
  subst e1
  rcases h5 with h0 | ⟨b, off, e', hc⟩
  · omega
  · refine ⟨b, off, e', ?_, ?_⟩
    · have := hc (i * 2 + 0) e.ov (by rw [qs_get l i e he 0 (by omega)]; rfl)
      simpa using this
    · have := hc (i * 2 + 1) e.vv (by rw [qs_get l i e he 1 (by omega)]; rfl)
      rw [← Nat.add_assoc] at this
      exact this
theorem Qs.get {w W : World} {v : Value} {i : Nat} {l : List Qe} {e : Qe} (h : Qs w v l) (hb : Below w.heap.size w W) (he : l[i]? = some e) : QeP W e := (h.2 e (List.mem_of_getElem? he)).below hb
theorem Qs.nil (w : World) : Qs w (.slice none 0 0) [] := ⟨⟨rfl, none, 0, rfl, by simp, by simp [maxLen], fun _ => rfl, .inl rfl⟩, fun e he => by cases he⟩

/-- Rows of numbers. -/
def LsZ (w : World) (vs : List Value) (ls : List (List Int)) : Prop := vs.length = ls.length ∧ ∀ (i : Nat) (v : Value) (l : List Int), vs[i]? = some v → ls[i]? = some l → Zs w v l
theorem LsZ.below {w w' : World} {vs : List Value} {ls : List (List Int)} (h : LsZ w vs ls) (hb : Below w.heap.size w w') : LsZ w' vs ls := ⟨h.1, fun i v l hv hl => (h.2 i v l hv hl).below hb⟩
theorem LsZ.at {w : World} {vs : List Value} {ls : List (List Int)} (h : LsZ w vs ls) {i : Nat} {l : List Int} (hl : ls[i]? = some l) : ∃ v, vs[i]? = some v ∧ Zs w v l := by
  have hi := (List.getElem?_eq_some_iff.1 hl).1
  have hv : i < vs.length := by rw [h.1]; exact hi
  exact ⟨vs[i], List.getElem?_eq_getElem hv, h.2 i _ l (List.getElem?_eq_getElem hv) hl⟩

/-- All Ofs, one behind the other; all values. -/
def ofsQ (l : List Qe) : List Int := (l.map Qe.of).flatten
def vasQ (l : List Qe) : List (List UInt8) := l.map Qe.va
theorem ofsQ_next {l : List Qe} {i : Nat} {e : Qe} (h : l[i]? = some e) : ofsQ (l.take (i + 1)) = ofsQ (l.take i) ++ e.of := by
  obtain ⟨hi, rfl⟩ := List.getElem?_eq_some_iff.1 h
  unfold ofsQ
  rw [List.take_succ_eq_append_getElem hi, List.map_append, List.flatten_append]
  simp only [List.map_cons, List.map_nil, List.flatten_cons, List.flatten_nil, List.append_nil]
theorem vasQ_next {l : List Qe} {i : Nat} {e : Qe} (h : l[i]? = some e) : vasQ (l.take (i + 1)) = vasQ (l.take i) ++ [e.va] := by
  obtain ⟨hi, rfl⟩ := List.getElem?_eq_some_iff.1 h
  unfold vasQ
  rw [List.take_succ_eq_append_getElem hi, List.map_append]
  rfl
theorem ofsQ_le (l : List Qe) (i : Nat) : (ofsQ (l.take i)).length ≤ (ofsQ l).length := by
  have : ofsQ l = ofsQ (l.take i) ++ ofsQ (l.drop i) := by
    unfold ofsQ
    rw [← List.flatten_append, ← List.map_append, List.take_append_drop]
  rw [this, List.length_append]
  omega

end

section
/-
  equation: Add, as the program has it.
-/
open Go.RowKit
set_option linter.unusedVariables false

theorem ret_cell2 {fn : Func} {p u : Tmp} {ty : TypeId} (h : fn.results = #[.cell p ty, .tmp u]) {tmps : Array Value} {P : Program} {W : World} {b : Nat} {v x : Value} (hp : tmps.getD p undef = .pointer (some ⟨b, 0, none⟩)) (hx : tmps.getD u undef = x) (hl : (loadVar ty ⟨b, 0, none⟩).run P W = .ok v W) : (results fn tmps).run P W = .ok (.tuple #[v, x]) W := by
  rw [results_cell_tmp h, hp, hx]
  simp [asAddr, Result.andThen, hl]

/-- An equation's box, whole. -/
def EqX (w : World) (b : Nat) (ov vv : Value) : Prop := w.heap[b]? = some (.cells #[ov, vv] 43 (0, 0))
theorem EqX.lt {w : World} {b : Nat} {ov vv : Value} (h : EqX w b ov vv) : b < w.heap.size := (Array.getElem?_eq_some_iff.1 h).1
theorem EqX.kept {w w' : World} {b : Nat} {ov vv : Value} (h : EqX w b ov vv) (hk : w'.heap[b]? = w.heap[b]?) : EqX w' b ov vv := hk.trans h
theorem EqX.below {w w' : World} {b : Nat} {ov vv : Value} (h : EqX w b ov vv) (hb : Below w.heap.size w w') : EqX w' b ov vv := h.kept (hb.block b h.lt)
theorem EqX.new (w : World) (ov vv : Value) : EqX (w.alloc (.cells #[ov, vv] 43)) w.heap.size ov vv := by
  show (w.heap.push _)[w.heap.size]? = _
  simp
theorem EqX.eqb {w : World} {b : Nat} {ov vv : Value} (h : EqX w b ov vv) : EqB w b ov vv := by
  have h' : w.heap[b]? = _ := h
  constructor <;> simp [World.cell?, h']
theorem EqX.frozen {w : World} {b : Nat} {ov vv : Value} (h : EqX w b ov vv) (j : Nat) : w.frozen? ⟨b, j, none⟩ = false := by
  simp [World.frozen?, show w.heap[b]? = _ from h]
theorem EqX.set0 {w : World} {b : Nat} {ov vv : Value} (h : EqX w b ov vv) (u : Value) : EqX (w.setCell ⟨b, 0, none⟩ u) b u vv := by
  have h' : w.heap[b]? = _ := h
  simp [EqX, World.setCell, Array.getElem?_modify, h']
theorem EqX.set1 {w : World} {b : Nat} {ov vv : Value} (h : EqX w b ov vv) (u : Value) : EqX (w.setCell ⟨b, 1, none⟩ u) b ov u := by
  have h' : w.heap[b]? = _ := h
  simp [EqX, World.setCell, Array.getElem?_modify, h']
theorem EqB.load {W : World} {b : Nat} {ov vv : Value} (h : EqB W b ov vv) : (loadVar 43 ⟨b, 0, none⟩).run Try.prog W = .ok (.agg #[ov, vv]) W := by
  obtain ⟨h0, h1⟩ := h
  refine run_loadVar_mid W b 0 43 [ov, vv] _ ?_ Try.underlying43 rfl (by kernel_rfl)
  intro j v hj
  rw [Nat.zero_add]
  have hj2 : j < 2 := by have := (List.getElem?_eq_some_iff.1 hj).1; simpa using this
  match j, hj2 with
  | 0, _ => simp at hj; subst hj; exact h0
  | 1, _ => simp at hj; subst hj; exact h1

/-- What isn't of numbers' type stays, where numbers are appended. -/
theorem grown_kindZ {B n : Nat} {w w' : World} {v : Value} {l : List Int} (ho : OwnZ B w v n l) (hg : w.grownBy w' v.ownBlock) {q : Nat} {cs : Array Value} {t : TypeId} {fr : Nat × Nat} (hq : w.heap[q]? = some (.cells cs t fr)) (ht : t ≠ 3) : w'.heap[q]? = w.heap[q]? := by
  have hlt : q < w.heap.size := (Array.getElem?_eq_some_iff.1 hq).1
  refine hg.block q hlt (fun e => ?_)
  obtain ⟨c1, e1⟩ := owns_type' ho q e.symm
  rw [e1] at hq
  injection hq with hq
  injection hq with _ h2 _
  exact ht h2.symm
theorem EqX.grownZ {B n : Nat} {w w' : World} {v : Value} {l : List Int} {b : Nat} {ov vv : Value} (h : EqX w b ov vv) (ho : OwnZ B w v n l) (hg : w.grownBy w' v.ownBlock) : EqX w' b ov vv := h.kept (grown_kindZ ho hg h (by decide))
theorem row_grownZ {B B1 n m : Nat} {w w' : World} {v u : Value} {l : List Int} {cs : List Value} (h : w.ownsRow B1 38 1 u m cs) (ho : OwnZ B w v n l) (hg : w.grownBy w' v.ownBlock) : w'.ownsRow B1 38 1 u m cs := by
  refine owns_kept h fun q hq => ?_
  obtain ⟨c, e⟩ := owns_type' h q hq
  exact grown_kindZ ho hg e (by decide)
theorem row_setR {w : World} {B g n cap j : Nat} {e : TypeId} {cs : List Value} (h : w.ownsRow B e 1 (.slice (some ⟨g, 0, none⟩) n cap) n cs) (u : Value) : (w.setCell ⟨g, j, none⟩ u).ownsRow B e 1 (.slice (some ⟨g, 0, none⟩) n cap) n (cs.set j u) := by
  obtain ⟨h1, h2⟩ := h
  refine ⟨by simpa using h1, ?_⟩
  rcases h2 with ⟨h2, -⟩ | ⟨g', cap', cur, hv, hg, hh, hnc, hcm, hcs, htake⟩
  · cases h2
  · injection hv with e1 e2 e3
    injection e1 with e1
    injection e1 with e1 e4 e5
    subst e1
    subst e3
    refine .inr ⟨g, cap, cur.setIfInBounds j u, rfl, hg, ?_, hnc, hcm, by simpa using hcs, ?_⟩
    · unfold World.setCell
      simp [Array.getElem?_modify, hh]
    · rw [Array.toList_setIfInBounds, List.take_set, htake]
theorem row_fr {w : World} {B g n cap : Nat} {e : TypeId} {cs : List Value} (h : w.ownsRow B e 1 (.slice (some ⟨g, 0, none⟩) n cap) n cs) (j : Nat) : w.frozen? ⟨g, j, none⟩ = false := by
  rcases h.2 with ⟨h2, -⟩ | ⟨g', cap', cur, hv, hg, hh, -⟩
  · cases h2
  · injection hv with e1 e2 e3
    injection e1 with e1
    injection e1 with e1 e4 e5
    subst e1
    simp [World.frozen?, hh]

/-- Can equations be put upon each other? -/
def AddOk (size : Int) (es : List Qe) : Prop := 0 ≤ size ∧ size ≤ 16777216 ∧ fitB size.toNat (vasQ es) = true
/-- The first i values, noughts behind them. -/
def vvTo (es : List Qe) (i : Nat) : List Value := (es.take i).map Qe.vv ++ List.replicate (es.length - i) (.slice none 0 0)
theorem vvTo_zero (es : List Qe) : vvTo es 0 = List.replicate es.length (.slice none 0 0) := by simp [vvTo]
theorem vvTo_all (es : List Qe) : vvTo es es.length = es.map Qe.vv := by simp [vvTo]
theorem vvTo_length (es : List Qe) (i : Nat) : (vvTo es i).length = min i es.length + (es.length - i) := by simp [vvTo]
theorem vvTo_next {es : List Qe} {i : Nat} {e : Qe} (h : es[i]? = some e) : (vvTo es i).set i e.vv = vvTo es (i + 1) := by
  obtain ⟨hi, rfl⟩ := List.getElem?_eq_some_iff.1 h
  unfold vvTo
  have hl : ((es.take i).map Qe.vv).length = i := by simp; omega
  have hr : es.length - i = (es.length - (i + 1)) + 1 := by omega
  rw [hr, List.replicate_succ, List.set_append_right _ _ (by omega), hl, Nat.sub_self, List.set_cons_zero, List.take_succ_eq_append_getElem hi, List.map_append, List.append_assoc]
  rfl
theorem qs_parts {w : World} {es : List Qe} (h : ∀ e ∈ es, QeP w e) : Parts w (es.map Qe.vv) (vasQ es) := by
  refine ⟨by simp [vasQ], fun i v p hv hp => ?_⟩
  unfold vasQ at hp
  rw [List.getElem?_map] at hv hp
  cases he : es[i]? with
  | none => rw [he] at hv; cases hv
  | some e =>
    rw [he] at hv hp
    simp at hv hp
    subst hv; subst hp
    exact (h e (List.mem_of_getElem? he)).2

end

section
/-
  equation: Same, as the program has it: slices.Equal and bytes.Equal.
-/
open Go.RowKit
set_option linter.unusedVariables false

end

section
/-
  compose: Blocks.
-/
open Go.RowKit
set_option linter.unusedVariables false

end

section
/-
  compose: the statements' same and big; the document's Pick and Blocks.
-/
open Go.RowKit
set_option linter.unusedVariables false

def bigP (N B : Int) : Prop := N > 60 ∨ B > 60 ∨ N < -60

/-- Blocks by their numbers, as they lie. -/
def pkV (vs : List Value) (of : List Int) : List Value := of.map fun i => vs.getD i.toNat (.slice none 0 0)
theorem pkV_length (vs : List Value) (of : List Int) : (pkV vs of).length = of.length := by simp [pkV]
theorem pkV_next {vs : List Value} {of : List Int} {i k : Nat} {v : Value} (hi : i < of.length) (hk : of[i] = (k : Int)) (hv : vs[k]? = some v) : (pkV vs of).take (i + 1) = (pkV vs of).take i ++ [v] := by
  rw [List.take_succ_eq_append_getElem (by rw [pkV_length]; exact hi)]
  congr 2
  simp [pkV, hk, List.getD, hv]
theorem pkV_parts {w : World} {vs : List Value} {ls : List (List UInt8)} {of : List Int} (h : Parts w vs ls) (hok : ∀ i ∈ of, 0 ≤ i ∧ i < (ls.length : Int)) : Parts w (pkV vs of) (pkD ls of) := by
  refine ⟨by rw [pkV_length, pkD_length], fun i v p hv hp => ?_⟩
  unfold pkV at hv
  unfold pkD at hp
  rw [List.getElem?_map] at hv hp
  cases ho : of[i]? with
  | none => rw [ho] at hv; cases hv
  | some z =>
    rw [ho] at hv hp
    have hz := hok z (List.mem_of_getElem? ho)
    have k1 : z.toNat < ls.length := by omega
    have k2 : z.toNat < vs.length := by rw [h.1]; exact k1
    have e1 := Option.some.inj hv
    have e2 := Option.some.inj hp
    simp only [List.getD, List.getElem?_eq_getElem k1, List.getElem?_eq_getElem k2, Option.getD_some] at e1 e2
    rw [← e1, ← e2]
    exact h.2 _ _ _ (List.getElem?_eq_getElem k2) (List.getElem?_eq_getElem k1)
theorem Bs.oneCell {w : World} {v : Value} {l : List UInt8} (h : Bs w v l) : v.oneCell' = true := by
  obtain ⟨-, a, c, rfl, -⟩ := h
  rfl
theorem Parts.oneCell {w : World} {vs : List Value} {ls : List (List UInt8)} (h : Parts w vs ls) : ∀ u ∈ vs, u.oneCell' = true := by
  intro u hu
  obtain ⟨i, hi⟩ := List.mem_iff_getElem?.1 hu
  have k1 : i < ls.length := by have := (List.getElem?_eq_some_iff.1 hi).1; rw [← h.1]; exact this
  exact (h.2 i u _ hi (List.getElem?_eq_getElem k1)).oneCell

end

section
/-
  equation: the document's Holds.
-/
open Go.RowKit
set_option linter.unusedVariables false

theorem first_stop (n : Nat) (ls : List (List UInt8)) (of : List Int) : ∃ J, J ≤ of.length ∧ OkOf n ls (of.take J) ∧ ∀ y, of[J]? = some y → ¬ OkAt n ls y := by
  by_cases h : OkOf n ls of
  · refine ⟨of.length, Nat.le_refl _, by rw [List.take_length]; exact h, fun y hy => ?_⟩
    have := (List.getElem?_eq_some_iff.1 hy).1
    omega
  · obtain ⟨J, hJ, h1, h2⟩ := first_bad h
    refine ⟨J, by omega, h1, fun y hy => ?_⟩
    obtain ⟨_, e⟩ := List.getElem?_eq_some_iff.1 hy
    rw [← e]
    exact h2

end

section
/-
  Opening the statements' equations, and rows of numbers.
-/
open Go.RowKit Go.ChangeShapes Go.WideShapes Go.ChangeAt
set_option linter.unusedVariables false
set_option maxRecDepth 100000

section
variable {w : World} {base : Nat} {spare : Nat → Bool} {held : Bool} {H : Type} {enc : TypeId × Value → H}
theorem zs_of_trod {fuel : Nat} {v : Value} {x : DataW H × List MemPlace} (h : DataW.trod enc Try.prog w base spare held fuel 31 [v] = some x) : ∃ l : List Int, Zs w v l ∧ ∀ z ∈ l, (Lit.int .i64 z).wf = true := ints_of_trod Try.underlying31 Try.underlying3 (by kernel_rfl) h
theorem qe_of_trod {fuel : Nat} {c0 c1 : Value} {x : DataW H × List MemPlace} (h : DataW.trod enc Try.prog w base spare held fuel 43 [c0, c1] = some x) : ∃ (of : List Int) (va : List UInt8), QeP w ⟨c0, c1, of, va⟩ ∧ ∀ z ∈ of, (Lit.int .i64 z).wf = true := by
  obtain ⟨y0, y1, k, t0, t1⟩ := trod_struct2' Try.underlying43 h
  have u0 : DataW.trod enc Try.prog w base spare held k 31 [c0] = some y0 := t0
  have u1 : DataW.trod enc Try.prog w base spare held k 38 [c1] = some y1 := t1
  obtain ⟨of, hz, hw⟩ := zs_of_trod u0
  obtain ⟨va, hb⟩ := bytes_of_trod Try.underlying38 Try.underlying5 (by kernel_rfl) u1
  exact ⟨of, va, ⟨hz, hb⟩, hw⟩
theorem open_eqn {b0 : Nat} {v : Value} {x : DataW H × List MemPlace} (hv : Value.okWide Try.prog w .any b0 43 v) (h : ∃ fuel, DataW.trod enc Try.prog w base spare held fuel 43 v.cells.toList = some x) :
    ∃ (ov vv : Value) (of : List Int) (va : List UInt8), v = .agg #[ov, vv] ∧ Zs w ov of ∧ Bs w vv va ∧ ∀ z ∈ of, (Lit.int .i64 z).wf = true := by
  obtain ⟨cs, rfl, hsz⟩ := okWide_struct Try.underlying43 hv
  obtain ⟨fuel, hf⟩ := h
  have h2 : cs.toList.length = 2 := by rw [Array.length_toList, hsz]; kernel_rfl
  simp only [Value.cells] at hf
  match hc : cs.toList, h2 with
  | [c0, c1], _ =>
    rw [hc] at hf
    obtain ⟨of, va, ⟨h1, h3⟩, hw⟩ := qe_of_trod hf
    refine ⟨c0, c1, of, va, ?_, h1, h3, hw⟩
    congr 1
    exact Array.toList_inj.1 hc
theorem eqs_of_trod {fuel : Nat} {v : Value} {x : DataW H × List MemPlace}
    (h : DataW.trod enc Try.prog w base spare held fuel 28 [v] = some x) : ∃ l : List Qe, Qs w v l ∧ ∀ e ∈ l, ∀ z ∈ e.of, (Lit.int .i64 z).wf = true := by
  have inh : Inhabited Qe := ⟨⟨.slice none 0 0, .slice none 0 0, [], []⟩⟩
  have hc5 : Try.prog.cellsOf 43 = 2 := by kernel_rfl
  rcases Go.Deep.open_slice Try.underlying28 h with ⟨hcs, _⟩ | ⟨a, len, cap, m, n, D, Pl, hcs, _, hl, hm, hmm, _, hx⟩
  · injection hcs with hv _
    subst hv
    exact ⟨[], Qs.nil w, fun e he => by cases he⟩
  · injection hcs with hv _
    have hlm : len ≤ m := by rw [hmm]; split <;> omega
    rw [hc5] at hx
    obtain ⟨F, hF⟩ := Go.Deep.choose_lt (α := Qe) (n := len) (p := fun i y => (QeP w y ∧ ∀ z ∈ y.of, (Lit.int .i64 z).wf = true) ∧ ∀ j, j < 2 → w.cell? ((a.add (i * 2)).add j) = y.cells[j]?) (fun i hi => by
      obtain ⟨cs', h1, h2⟩ := hx i (by omega)
      obtain ⟨_, hl3, hcell⟩ := World.cells?_some h1
      match cs', hl3 with
      | [c0, c1], _ =>
        obtain ⟨of, va, hq, hw⟩ := qe_of_trod h2
        exact ⟨⟨c0, c1, of, va⟩, ⟨hq, hw⟩, fun j hj => by rw [hcell j hj]; rfl⟩)
    refine ⟨(List.range len).map F, ⟨⟨by rw [length_qs], some a, cap, by simpa using hv, by simpa using hl, hm, fun h => by simp at h, ?_⟩, ?_⟩, ?_⟩
    · by_cases h0 : len = 0
      · exact .inl (by simpa using h0)
      · right
        have ha0 := (hF 0 (by omega)).2 0 (by omega)
        have ha : a = ⟨a.block, a.off, none⟩ := addr_none (u := (F 0).ov) (by simpa [Addr.add, Qe.cells] using ha0)
        refine ⟨a.block, a.off, by rw [← ha], ?_⟩
        intro j u hj
        have hjl : j < len * 2 := by have := (List.getElem?_eq_some_iff.1 hj).1; rw [length_qs] at this; simpa using this
        have hi : j / 2 < len := by omega
        have e := qs_get ((List.range len).map F) (j / 2) (F (j / 2)) (by simp [hi]) (j % 2) (by omega)
        rw [show j / 2 * 2 + j % 2 = j by omega, hj] at e
        have hc := (hF (j / 2) hi).2 (j % 2) (by omega)
        rw [Go.Deep.add_add, show j / 2 * 2 + j % 2 = j by omega] at hc
        rw [ha, Addr.add_lit] at hc
        rw [hc, e]
    · intro y hy
      obtain ⟨i, hi, rfl⟩ := List.mem_map.1 hy
      exact (hF i (by simpa using hi)).1.1
    · intro y hy
      obtain ⟨i, hi, rfl⟩ := List.mem_map.1 hy
      exact (hF i (by simpa using hi)).1.2
theorem lists_of_trod {fuel : Nat} {v : Value} {x : DataW H × List MemPlace}
    (h : DataW.trod enc Try.prog w base spare held fuel 22 [v] = some x) : ∃ (vs : List Value) (ls : List (List Int)), Sl 1 w v vs.length vs ∧ LsZ w vs ls ∧ ∀ l ∈ ls, ∀ z ∈ l, (Lit.int .i64 z).wf = true := by
  rcases Go.Deep.open_slice1 Try.underlying22 (by kernel_rfl) h with ⟨hcs, _⟩ | ⟨a, len, cap, m, n, V, D, Pl, hcs, _, hl, hm, hmm, _, hx⟩
  · injection hcs with hv _
    subst hv
    exact ⟨[], [], ⟨rfl, none, 0, rfl, Nat.le_refl _, by simp [maxLen], fun _ => rfl, .inl rfl⟩, ⟨rfl, fun i v p h => by simp at h⟩, fun l hl => by cases hl⟩
  · injection hcs with hv _
    have hlm : len ≤ m := by rw [hmm]; split <;> omega
    obtain ⟨F, hF⟩ := Go.Deep.choose_lt (α := List Int) (n := len) (p := fun i y => Zs w (V i) y ∧ ∀ z ∈ y, (Lit.int .i64 z).wf = true) (fun i hi => by
      obtain ⟨h1, h2⟩ := hx i (by omega)
      exact zs_of_trod h2)
    refine ⟨(List.range len).map V, (List.range len).map F, ⟨by simp, some a, cap, by simpa using hv, by simpa using hl, hm, fun h => by simp at h, ?_⟩, ⟨by simp, ?_⟩, ?_⟩
    · by_cases h0 : len = 0
      · exact .inl (by simpa using h0)
      · right
        have ha : a = ⟨a.block, a.off, none⟩ := addr_none (u := V 0) (by simpa [Addr.add] using (hx 0 (by omega)).1)
        refine ⟨a.block, a.off, by rw [← ha], ?_⟩
        intro j u hj
        have hjl : j < len := by have := (List.getElem?_eq_some_iff.1 hj).1; simpa using this
        simp [hjl] at hj
        subst hj
        have hc := (hx j (by omega)).1
        rw [ha, Addr.add_lit] at hc
        exact hc
    · intro i v p hv hp
      have hi : i < len := by have := (List.getElem?_eq_some_iff.1 hv).1; simpa using this
      simp [hi] at hv hp
      subst hv; subst hp
      exact (hF i hi).1
    · intro y hy
      obtain ⟨i, hi, rfl⟩ := List.mem_map.1 hy
      exact (hF i (by simpa using hi)).2
end

end

section
/-
  Opening arguments whose parts are slices, too: how long each can be, by the form's own reach.
-/
open Go.RowKit Go.ChangeShapes Go.WideShapes Go.ChangeAt
set_option linter.unusedVariables false
set_option maxRecDepth 100000

section
variable {H : Type}
/-- No slice in it is longer than can be. -/
def WtOk (t : TypeId) (d : DataW H) : Prop := ∀ n ∈ d.weights Try.prog t, n ≤ reachBytes
theorem wt_top {ts : List TypeId} {ds : List (DataW H)} (h : (DataW.weightsEach Try.prog ts ds).all (· ≤ reachBytes) = true) {j : Nat} {t : TypeId} {d : DataW H} (ht : ts[j]? = some t) (hd : ds[j]? = some d) : WtOk t d := by
  intro n hn
  have := List.all_eq_true.1 h _ (DataW.weights_mem_each ht hd n hn)
  simpa using this
theorem wt_all {e : TypeId} : ∀ {l : List (DataW H)} {d : DataW H}, d ∈ l → ∀ n ∈ d.weights Try.prog e, n ∈ DataW.weightsAll Try.prog e l
  | x :: l, d, h, n, hn => by
    simp only [DataW.weightsAll, List.mem_append]
    rcases List.mem_cons.1 h with rfl | h
    · exact .inl hn
    · exact .inr (wt_all h n hn)
  | [], d, h, _, _ => by cases h
theorem wt_slice {t e : TypeId} {elems spare : List (DataW H)} (ht : Try.prog.underlying t = some (.slice e)) (h : WtOk t (.slice elems spare)) : (elems.length + spare.length) * Try.prog.bytesOf e ≤ reachBytes ∧ ∀ d ∈ elems, WtOk e d := by
  constructor
  · exact h _ (by simp [DataW.weights, ht])
  · intro d hd n hn
    refine h n ?_
    have := wt_all hd n hn
    simp [DataW.weights, ht, this]
theorem wt_struct {t : TypeId} {fs : Array Field} {parts : List (DataW H)} (ht : Try.prog.underlying t = some (.struct fs)) (h : WtOk t (.agg parts)) {i : Nat} {f : Field} {d : DataW H} (hf : fs.toList[i]? = some f) (hd : parts[i]? = some d) : WtOk f.type d := by
  intro n hn
  refine h n ?_
  have h1 : (fs.toList.map (·.type))[i]? = some f.type := by rw [List.getElem?_map, hf]; rfl
  have := DataW.weights_mem_each h1 hd n hn
  simpa [DataW.weights, ht] using this

variable {w : World} {base : Nat} {spare : Nat → Bool} {held : Bool} {enc : TypeId × Value → H}
theorem zs_of_trodW {fuel : Nat} {v : Value} {d : DataW H} {p : List MemPlace} (h : DataW.trod enc Try.prog w base spare held fuel 31 [v] = some (d, p)) (hw : WtOk 31 d) : ∃ l : List Int, Zs w v l ∧ (∀ z ∈ l, (Lit.int .i64 z).wf = true) ∧ l.length ≤ 17592186044416 := by
  obtain ⟨l, hz, hf⟩ := zs_of_trod h
  refine ⟨l, hz, hf, ?_⟩
  rcases Go.Deep.open_slice1 Try.underlying31 (by kernel_rfl) h with ⟨hcs, _⟩ | ⟨a, len, cap, m, n, V, D, Pl, hcs, _, hl, hm, hmm, hx, _⟩
  · injection hcs with hv _
    subst hv
    have := (zs_len hz).1
    omega
  · injection hcs with hv _
    subst hv
    have e1 := (zs_len hz).1
    injection hx with hx _
    subst hx
    have h1 := (wt_slice Try.underlying31 hw).1
    have hb : Try.prog.bytesOf 3 = 8 := by kernel_rfl
    have hr := reachBytes_lt
    rw [hb] at h1
    simp at h1
    omega
theorem bs_of_trodW {fuel : Nat} {v : Value} {d : DataW H} {p : List MemPlace} (h : DataW.trod enc Try.prog w base spare held fuel 38 [v] = some (d, p)) (hw : WtOk 38 d) : ∃ l : List UInt8, Bs w v l ∧ l.length ≤ 140737488355328 := by
  obtain ⟨l, hz⟩ := bytes_of_trod Try.underlying38 Try.underlying5 (by kernel_rfl) h
  refine ⟨l, hz, ?_⟩
  rcases Go.Deep.open_slice1 Try.underlying38 (by kernel_rfl) h with ⟨hcs, _⟩ | ⟨a, len, cap, m, n, V, D, Pl, hcs, _, hl, hm, hmm, hx, _⟩
  · injection hcs with hv _
    subst hv
    have := (bs_len hz).1
    omega
  · injection hcs with hv _
    subst hv
    have e1 := (bs_len hz).1
    injection hx with hx _
    subst hx
    have h1 := (wt_slice Try.underlying38 hw).1
    have hb : Try.prog.bytesOf 5 = 1 := by kernel_rfl
    have hr := reachBytes_lt
    rw [hb] at h1
    simp at h1
    omega
/-- How long an equation's parts are. -/
def QeW (e : Qe) : Prop := (∀ z ∈ e.of, (Lit.int .i64 z).wf = true) ∧ e.of.length ≤ 17592186044416 ∧ e.va.length ≤ 140737488355328
theorem qe_of_trodW {fuel : Nat} {c0 c1 : Value} {d : DataW H} {p : List MemPlace} (h : DataW.trod enc Try.prog w base spare held fuel 43 [c0, c1] = some (d, p)) (hw : WtOk 43 d) : ∃ (of : List Int) (va : List UInt8), QeP w ⟨c0, c1, of, va⟩ ∧ QeW ⟨c0, c1, of, va⟩ := by
  obtain ⟨⟨y0, p0⟩, ⟨y1, p1⟩, k, hx, -, t0, t1⟩ := Go.ChangeShapes.trod_struct2 Try.underlying43 h
  injection hx with hx _
  subst hx
  have w0 : WtOk 31 y0 := wt_struct Try.underlying43 hw (i := 0) rfl rfl
  have w1 : WtOk 38 y1 := wt_struct Try.underlying43 hw (i := 1) rfl rfl
  have u0 : DataW.trod enc Try.prog w base spare held k 31 [c0] = some (y0, p0) := t0
  have u1 : DataW.trod enc Try.prog w base spare held k 38 [c1] = some (y1, p1) := t1
  obtain ⟨of, hz, hf, hl⟩ := zs_of_trodW u0 w0
  obtain ⟨va, hb, hm⟩ := bs_of_trodW u1 w1
  exact ⟨of, va, ⟨hz, hb⟩, hf, hl, hm⟩
theorem open_eqnW {b0 : Nat} {v : Value} {d : DataW H} {p : List MemPlace} (hv : Value.okWide Try.prog w .any b0 43 v) (h : ∃ fuel, DataW.trod enc Try.prog w base spare held fuel 43 v.cells.toList = some (d, p)) (hw : WtOk 43 d) :
    ∃ e : Qe, v = .agg #[e.ov, e.vv] ∧ QeP w e ∧ QeW e := by
  obtain ⟨cs, rfl, hsz⟩ := okWide_struct Try.underlying43 hv
  obtain ⟨fuel, hf⟩ := h
  have h2 : cs.toList.length = 2 := by rw [Array.length_toList, hsz]; kernel_rfl
  simp only [Value.cells] at hf
  match hc : cs.toList, h2 with
  | [c0, c1], _ =>
    rw [hc] at hf
    obtain ⟨of, va, h1, h3⟩ := qe_of_trodW hf hw
    refine ⟨⟨c0, c1, of, va⟩, ?_, h1, h3⟩
    congr 1
    exact Array.toList_inj.1 hc
theorem eqs_of_trodW {fuel : Nat} {v : Value} {d : DataW H} {p : List MemPlace}
    (h : DataW.trod enc Try.prog w base spare held fuel 28 [v] = some (d, p)) (hw : WtOk 28 d) : ∃ l : List Qe, Qs w v l ∧ (∀ e ∈ l, QeW e) ∧ l.length ≤ 140737488355328 := by
  have inh : Inhabited Qe := ⟨⟨.slice none 0 0, .slice none 0 0, [], []⟩⟩
  have hc5 : Try.prog.cellsOf 43 = 2 := by kernel_rfl
  rcases Go.Deep.open_slice Try.underlying28 h with ⟨hcs, _⟩ | ⟨a, len, cap, m, n, D, Pl, hcs, _, hl, hm, hmm, hxx, hx⟩
  · injection hcs with hv _
    subst hv
    exact ⟨[], Qs.nil w, fun e he => (by cases he), by simp⟩
  · injection hcs with hv _
    injection hxx with hxx _
    subst hxx
    have hlm : len ≤ m := by rw [hmm]; split <;> omega
    rw [hc5] at hx
    obtain ⟨hw1, hw2⟩ := wt_slice Try.underlying28 hw
    have hb : Try.prog.bytesOf 43 = 48 := by kernel_rfl
    have hr := reachBytes_lt
    rw [hb] at hw1
    simp at hw1
    obtain ⟨F, hF⟩ := Go.Deep.choose_lt (α := Qe) (n := len) (p := fun i y => (QeP w y ∧ QeW y) ∧ ∀ j, j < 2 → w.cell? ((a.add (i * 2)).add j) = y.cells[j]?) (fun i hi => by
      obtain ⟨cs', h1, h2⟩ := hx i (by omega)
      obtain ⟨_, hl3, hcell⟩ := World.cells?_some h1
      match cs', hl3 with
      | [c0, c1], _ =>
        obtain ⟨of, va, hq, hw⟩ := qe_of_trodW h2 (hw2 _ (List.mem_map.2 ⟨i, List.mem_range.2 hi, rfl⟩))
        exact ⟨⟨c0, c1, of, va⟩, ⟨hq, hw⟩, fun j hj => by rw [hcell j hj]; rfl⟩)
    refine ⟨(List.range len).map F, ⟨⟨by rw [length_qs], some a, cap, by simpa using hv, by simpa using hl, hm, fun h => by simp at h, ?_⟩, ?_⟩, ?_, by simp; omega⟩
    · by_cases h0 : len = 0
      · exact .inl (by simpa using h0)
      · right
        have ha0 := (hF 0 (by omega)).2 0 (by omega)
        have ha : a = ⟨a.block, a.off, none⟩ := addr_none (u := (F 0).ov) (by simpa [Addr.add, Qe.cells] using ha0)
        refine ⟨a.block, a.off, by rw [← ha], ?_⟩
        intro j u hj
        have hjl : j < len * 2 := by have := (List.getElem?_eq_some_iff.1 hj).1; rw [length_qs] at this; simpa using this
        have hi : j / 2 < len := by omega
        have e := qs_get ((List.range len).map F) (j / 2) (F (j / 2)) (by simp [hi]) (j % 2) (by omega)
        rw [show j / 2 * 2 + j % 2 = j by omega, hj] at e
        have hc := (hF (j / 2) hi).2 (j % 2) (by omega)
        rw [Go.Deep.add_add, show j / 2 * 2 + j % 2 = j by omega] at hc
        rw [ha, Addr.add_lit] at hc
        rw [hc, e]
    · intro y hy
      obtain ⟨i, hi, rfl⟩ := List.mem_map.1 hy
      exact (hF i (by simpa using hi)).1.1
    · intro y hy
      obtain ⟨i, hi, rfl⟩ := List.mem_map.1 hy
      exact (hF i (by simpa using hi)).1.2
/-- How long rows of numbers are. -/
def LzW (ls : List (List Int)) : Prop := (∀ l ∈ ls, (∀ z ∈ l, (Lit.int .i64 z).wf = true) ∧ l.length ≤ 17592186044416) ∧ ls.length ≤ 140737488355328
theorem lists_of_trodW {fuel : Nat} {v : Value} {d : DataW H} {p : List MemPlace}
    (h : DataW.trod enc Try.prog w base spare held fuel 22 [v] = some (d, p)) (hw : WtOk 22 d) : ∃ (vs : List Value) (ls : List (List Int)), Sl 1 w v vs.length vs ∧ LsZ w vs ls ∧ LzW ls := by
  rcases Go.Deep.open_slice1 Try.underlying22 (by kernel_rfl) h with ⟨hcs, _⟩ | ⟨a, len, cap, m, n, V, D, Pl, hcs, _, hl, hm, hmm, hxx, hx⟩
  · injection hcs with hv _
    subst hv
    exact ⟨[], [], ⟨rfl, none, 0, rfl, Nat.le_refl _, by simp [maxLen], fun _ => rfl, .inl rfl⟩, ⟨rfl, fun i v p h => by simp at h⟩, fun l hl => (by cases hl), by simp⟩
  · injection hcs with hv _
    injection hxx with hxx _
    subst hxx
    have hlm : len ≤ m := by rw [hmm]; split <;> omega
    obtain ⟨hw1, hw2⟩ := wt_slice Try.underlying22 hw
    have hb : Try.prog.bytesOf 31 = 24 := by kernel_rfl
    have hr := reachBytes_lt
    rw [hb] at hw1
    simp at hw1
    obtain ⟨F, hF⟩ := Go.Deep.choose_lt (α := List Int) (n := len) (p := fun i y => Zs w (V i) y ∧ (∀ z ∈ y, (Lit.int .i64 z).wf = true) ∧ y.length ≤ 17592186044416) (fun i hi => by
      obtain ⟨h1, h2⟩ := hx i (by omega)
      exact zs_of_trodW h2 (hw2 _ (List.mem_map.2 ⟨i, List.mem_range.2 hi, rfl⟩)))
    refine ⟨(List.range len).map V, (List.range len).map F, ⟨by simp, some a, cap, by simpa using hv, by simpa using hl, hm, fun h => by simp at h, ?_⟩, ⟨by simp, ?_⟩, ?_, by simp; omega⟩
    · by_cases h0 : len = 0
      · exact .inl (by simpa using h0)
      · right
        have ha : a = ⟨a.block, a.off, none⟩ := addr_none (u := V 0) (by simpa [Addr.add] using (hx 0 (by omega)).1)
        refine ⟨a.block, a.off, by rw [← ha], ?_⟩
        intro j u hj
        have hjl : j < len := by have := (List.getElem?_eq_some_iff.1 hj).1; simpa using this
        simp [hjl] at hj
        subst hj
        have hc := (hx j (by omega)).1
        rw [ha, Addr.add_lit] at hc
        exact hc
    · intro i v p hv hp
      have hi : i < len := by have := (List.getElem?_eq_some_iff.1 hv).1; simpa using this
      simp [hi] at hv hp
      subst hv; subst hp
      exact (hF i hi).1
    · intro y hy
      obtain ⟨i, hi, rfl⟩ := List.mem_map.1 hy
      exact (hF i (by simpa using hi)).2
end

end

section
/-
  compose: the document's Blocks.
-/
open Go.RowKit
set_option linter.unusedVariables false

/-- An empty row of blocks. -/
def IsE0B (B : Nat) : Value → World → Prop := fun v W => ∃ q, v = .slice (some ⟨q, 0, none⟩) 0 0 ∧ B ≤ q ∧ W.heap[q]? = some (.cells #[] 38 (0, 0))
theorem stays_e0b (B : Nat) : Stays (IsE0B B) := fun _ _ _ hb ⟨q, h1, h2, h3⟩ => ⟨q, h1, h2, heap_stays hb h3⟩
theorem e0b_own {B q : Nat} {W : World} (h2 : B ≤ q) (h3 : W.heap[q]? = some (.cells #[] 38 (0, 0))) : W.ownsRow B 38 1 (.slice (some ⟨q, 0, none⟩) 0 0) 0 [] :=
  ⟨rfl, .inr ⟨q, 0, #[], rfl, h2, h3, Nat.le_refl _, by simp [maxLen], rfl, rfl⟩⟩
/-- A row of one's own. -/
def IsRS (B n : Nat) (us : List Value) : Value → World → Prop := fun v W => ∃ a c, v = .slice a n c ∧ W.ownsRow B 38 1 (.slice a n c) n us
theorem stays_rs (B n : Nat) (us : List Value) : Stays (IsRS B n us) := fun _ _ _ hb ⟨a, c, h1, h2⟩ => ⟨a, c, h1, owns_below h2 hb⟩
/-- Blocks that were picked. -/
def IsPk (n : Nat) (us : List Value) (ps : List (List UInt8)) : Value → World → Prop := fun v W => (∃ a c, v = .slice a n c) ∧ Sl 1 W v us.length us ∧ Parts W us ps
theorem stays_pk (n : Nat) (us : List Value) (ps : List (List UInt8)) : Stays (IsPk n us ps) := fun _ _ _ hb ⟨h1, h2, h3⟩ => ⟨h1, h2.below hb, h3.below hb⟩
/-- A row of one block. -/
def IsS1b (B n : Nat) (x : List UInt8) : Value → World → Prop := fun v W => ∃ q, Sl 1 W v 1 [.slice (some ⟨q, 0, none⟩) n n] ∧ B ≤ q ∧ Blk W q [] x []
theorem stays_s1b (B n : Nat) (x : List UInt8) : Stays (IsS1b B n x) := fun _ _ _ hb ⟨q, h1, h2, h3⟩ => ⟨q, h1.below hb, h2, h3.below hb⟩
/-- A row, and a block behind it. -/
def IsRb (B n k : Nat) (us : List Value) (x : List UInt8) : Value → World → Prop := fun v W => ∃ a c q, v = .slice a (k + 1) c ∧ W.ownsRow B 38 1 (.slice a (k + 1) c) (k + 1) (us ++ [.slice (some ⟨q, 0, none⟩) n n]) ∧ B ≤ q ∧ Blk W q [] x []
theorem stays_rb (B n k : Nat) (us : List Value) (x : List UInt8) : Stays (IsRb B n k us x) := fun _ _ _ hb ⟨a, c, q, h1, h2, h3, h4⟩ => ⟨a, c, q, h1, owns_below h2 hb, h3, h4.below hb⟩

section
variable {W W' : World} {q : Nat} {t : TypeId}
theorem cell_grown0 (hq : W.heap[q]? = some (.cells #[] t (0, 0))) (hg : W.grownBy W' (some q)) {b off : Nat} {u : Value} (h : W.cell? ⟨b, off, none⟩ = some u) : W'.cell? ⟨b, off, none⟩ = some u := by
  have hne : b ≠ q := by
    rintro rfl
    simp [World.cell?, hq] at h
  rw [← h]
  exact World.cell?_of_block (a := ⟨b, off, none⟩) (hg.block b (cell_block_lt h) (fun e => hne (Option.some.inj e)))
theorem sl_grown0 (hq : W.heap[q]? = some (.cells #[] t (0, 0))) (hg : W.grownBy W' (some q)) {v : Value} {n : Nat} {cs : List Value} (h : Sl 1 W v n cs) : Sl 1 W' v n cs := by
  obtain ⟨h1, ao, cap, hv, h2, h3, h4, h5⟩ := h
  refine ⟨h1, ao, cap, hv, h2, h3, h4, ?_⟩
  rcases h5 with h5 | ⟨b, off, hao, h5⟩
  · exact .inl h5
  · exact .inr ⟨b, off, hao, fun j u hj => cell_grown0 hq hg (h5 j u hj)⟩
theorem parts_grown0 (hq : W.heap[q]? = some (.cells #[] t (0, 0))) (hg : W.grownBy W' (some q)) {vs : List Value} {ls : List (List UInt8)} (h : Parts W vs ls) : Parts W' vs ls := ⟨h.1, fun i v p hv hp => sl_grown0 hq hg (h.2 i v p hv hp)⟩
theorem pk_grown (hq : W.heap[q]? = some (.cells #[] t (0, 0))) (hg : W.grownBy W' (some q)) {n : Nat} {us : List Value} {ps : List (List UInt8)} {v : Value} (h : IsPk n us ps v W) : IsPk n us ps v W' := ⟨h.1, sl_grown0 hq hg h.2.1, parts_grown0 hq hg h.2.2⟩
theorem blk_grown0 (hq : W.heap[q]? = some (.cells #[] 38 (0, 0))) (hg : W.grownBy W' (some q)) {p : Nat} {x : List UInt8} (h : Blk W p [] x []) : Blk W' p [] x [] := by
  refine h.kept (hg.block p h.lt (fun e => ?_))
  have e2 := Option.some.inj e
  subst e2
  have h' : W.heap[p]? = _ := h
  rw [hq] at h'
  injection h' with h'
  injection h' with _ h' _
  exact absurd h' (by decide)
theorem cb_grown (hq : W.heap[q]? = some (.cells #[] 38 (0, 0))) (hg : W.grownBy W' (some q)) {B n : Nat} {x : List UInt8} {v : Value} (h : IsCb B n x v W) : IsCb B n x v W' := by
  obtain ⟨p, h1, h2, h3⟩ := h
  exact ⟨p, h1, h2, blk_grown0 hq hg h3⟩
theorem s1b_grown (hq : W.heap[q]? = some (.cells #[] 38 (0, 0))) (hg : W.grownBy W' (some q)) {B n : Nat} {x : List UInt8} {v : Value} (h : IsS1b B n x v W) : IsS1b B n x v W' := by
  obtain ⟨p, h1, h2, h3⟩ := h
  exact ⟨p, sl_grown0 hq hg h1, h2, blk_grown0 hq hg h3⟩
end

/-- 'append(row, blocks...)' in a drawn region. -/
theorem step_addR (w : World) {ops : Array Oper} {o : Oper} {a : Act} {K : Act → World → Prop} {Q : Exit → Act → World → Prop} {E : Prop} (hgd : o.guard = none) (s x : Operand)
    (ho : o.op = .call { callee := .builtin .append, args := #[s, x], argTypes := #[23, 23] })
    (B : Nat) (v : Value) (n : Nat) (vs : List Value) (hs : a.eval s = v) (hown : w.ownsRow B 38 1 v n vs)
    (xv : Value) (m : Nat) (news : List Value) (hx : a.eval x = xv) (hsrc : Sl 1 w xv m news) (h1 : ∀ u ∈ news, u.oneCell' = true)
    (hlen : n + m ≤ 1000000000) (hbase : B ≤ w.heap.size)
    (h : ∀ ao cap w', w'.ownsRow B 38 1 (.slice ao (n + m) cap) (n + m) (vs ++ news) → w.grownBy w' v.ownBlock → ((Value.slice ao (n + m) cap).ownBlock = v.ownBlock ∨ (Value.slice ao (n + m) cap).ownBlock = some w.heap.size) → n + m ≤ cap → cap ≤ maxLen → K (a.put o.dst (.slice ao (n + m) cap)) w') :
    if Region.wanted o (yielded ops a.tmps) = true then Oper.wp Try.prog o a w K Q else E := by
  obtain ⟨i, hi, hz, hz1, hz8⟩ := infoBs_parts
  refine step_app w hgd s x 23 ho B 38 i (.slice none 0 0) 1 24 Try.underlying23 hi hz hz1 hz8 rfl (by decide) v n _ hs hown xv m _ hx hsrc h1 (by unfold maxLen; omega) (by omega) hbase ?_
  intro ao cap w' h2 h3 h4 h5 h6 h7
  exact h ao cap w' h2 h3 h4 h6 h7

end

section
/-
  compose: what the statements' speaks says.
-/
open Go.RowKit
set_option linter.unusedVariables false

theorem may_small {N B Q E F : Int} {n q A : Nat} (h : PrOk N B Q E F n q A) (hN : N ≤ 61) : A ≤ 1000000 := by
  obtain ⟨h1, h2, h3, h4, h5, h6⟩ := h.may
  have r := share_range (N := N) (Q := Q) (E := E) ⟨h1.1, h1.2⟩ h3 h4
  have k1 : 55 * Q * E * N ≤ 440000 * 61 := Int.mul_le_mul r.1.2 hN (by omega) (by omega)
  have e := h.ea
  unfold aux at e
  omega

theorem pr_two : PrOk ((2 : Nat) : Int) 1 ((1 : Nat) : Int) 900 2 2 1 1 := ⟨by unfold May; decide, rfl, rfl, by decide⟩
theorem has_two (S : Nat) : hasR S 1 1 2 = [[0, 1]] := by
  show addAll (hasR S 1 1 1) (ofD S 1 1 1) _ = _
  rw [of_one, has_one]
  rfl
theorem comp_two (S : Nat) : compD 2 1 (hasR S 1 1 2) [6, 3] = [[6], [3], [5]] := by
  rw [has_two]
  decide

/-- A row of three blocks, and what each is. -/
def Three (W : World) (b : Nat) (v0 v1 v2 : Value) (x0 x1 x2 : List UInt8) : Prop := Sl 1 W (.slice (some ⟨b, 0, none⟩) 3 3) [v0, v1, v2].length [v0, v1, v2] ∧ Parts W [v0, v1, v2] [x0, x1, x2]
theorem parts_three {w : World} {v0 v1 v2 : Value} {x0 x1 x2 : List UInt8} (h0 : Bs w v0 x0) (h1 : Bs w v1 x1) (h2 : Bs w v2 x2) : Parts w [v0, v1, v2] [x0, x1, x2] := by
  refine ⟨rfl, fun i u p hu hp => ?_⟩
  have hi : i < 3 := by have := (List.getElem?_eq_some_iff.1 hu).1; simpa using this
  match i, hi with
  | 0, _ => simp at hu hp; subst hu; subst hp; exact h0
  | 1, _ => simp at hu hp; subst hu; subst hp; exact h1
  | 2, _ => simp at hu hp; subst hu; subst hp; exact h2
theorem ok_02 : OkOf 1 [[6], [3], [5]] [0, 2] := by
  intro i hi
  simp at hi
  rcases hi with rfl | rfl
  · exact ⟨0, [6], rfl, rfl, rfl⟩
  · exact ⟨2, [5], rfl, rfl, rfl⟩

end

section
/-
  The statements of layer 15: 'big' and 'speaks'.
-/
open Go.RowKit
set_option linter.unusedVariables false

/-- It isn't big only where something holds. -/
def BigP (P : Prop) (e : Ending) : Prop := ∃ b : Bool, e = .returned (.bool b) ∧ (b = false → P)
theorem big_yes {P : Prop} {e : Ending} (h : e = .returned (.bool true)) : BigP P e := ⟨true, h, fun h => by cases h⟩
theorem big_no {P : Prop} {e : Ending} (h : e = .returned (.bool false)) (hp : P) : BigP P e := ⟨false, h, fun _ => hp⟩

theorem odd_3132 : oddD [3, 1, 3, 2] = [1, 2] := by
  refine (oddD_of _).unique ⟨by decide, fun x => ?_⟩
  simp only [List.count_cons, List.count_nil]
  by_cases h1 : (1 : Int) = x
  · subst h1; simp
  · by_cases h2 : (2 : Int) = x
    · subst h2; simp
    · by_cases h3 : (3 : Int) = x
      · subst h3; simp
      · simp [h1, h2, h3, Ne.symm h1, Ne.symm h2]
theorem bs_lit1 (w : World) (x : UInt8) (t : TypeId) (q : Nat) (v : Value) (hv : v = bv x) (hq : q = w.heap.size) : Bs (w.alloc (.cells #[v] t)) (.slice (some ⟨q, 0, none⟩) 1 1) [x] := by
  subst hv
  exact Bs.lit w _ t (0, 0) [x] q 1 hq rfl rfl (by simp)
theorem Qs.lit2 (w : World) (a b : Qe) (q : Nat) (hq : q = w.heap.size) (ha : QeP w a) (hb : QeP w b) : Qs (w.alloc (.cells #[a.ov, a.vv, b.ov, b.vv] 43)) (.slice (some ⟨q, 0, none⟩) 2 2) [a, b] := by
  subst hq
  refine ⟨⟨rfl, _, _, rfl, Nat.le_refl _, by simp [maxLen], fun h => by simp at h, .inr ⟨_, _, rfl, fun j u hj => ?_⟩⟩, fun e he => ?_⟩
  · rw [Nat.zero_add, World.cell?_alloc_new]
    have hj4 : j < 4 := by have := (List.getElem?_eq_some_iff.1 hj).1; simpa [Qe.cells] using this
    match j, hj4 with
    | 0, _ => simpa [Qe.cells] using hj
    | 1, _ => simpa [Qe.cells] using hj
    | 2, _ => simpa [Qe.cells] using hj
    | 3, _ => simpa [Qe.cells] using hj
  · have : e = a ∨ e = b := by simpa using he
    rcases this with rfl | rfl
    · exact ha.below (below_alloc _ _)
    · exact hb.below (below_alloc _ _)
theorem holds_123 : HoldsP [1, 2] [3] [[9], [1], [2]] := by
  refine ⟨fun i hi => ?_, by decide⟩
  simp at hi
  rcases hi with rfl | rfl
  · exact ⟨1, [1], rfl, rfl, rfl⟩
  · exact ⟨2, [2], rfl, rfl, rfl⟩
theorem holds_113 : ¬ HoldsP [1, 2] [3] [[9], [1], [1]] := fun h => by
  have := h.2
  revert this
  decide

/-- Three blocks of a byte each, in a row, just laid. -/
theorem lit3b (v : World) (x y z : UInt8) (vx vy vz : Value) (hx : vx = bv x) (hy : vy = bv y) (hz : vz = bv z) : ∃ W, (((v.alloc (.cells #[vx] 5)).alloc (.cells #[vy] 5)).alloc (.cells #[vz] 5)).alloc (.cells #[.slice (some ⟨v.heap.size, 0, none⟩) 1 1, .slice (some ⟨v.heap.size + 1, 0, none⟩) 1 1, .slice (some ⟨v.heap.size + 1 + 1, 0, none⟩) 1 1] 38) = W ∧
    Sl 1 W (.slice (some ⟨v.heap.size + 1 + 1 + 1, 0, none⟩) 3 3) [Value.slice (some ⟨v.heap.size, 0, none⟩) 1 1, Value.slice (some ⟨v.heap.size + 1, 0, none⟩) 1 1, Value.slice (some ⟨v.heap.size + 1 + 1, 0, none⟩) 1 1].length [Value.slice (some ⟨v.heap.size, 0, none⟩) 1 1, Value.slice (some ⟨v.heap.size + 1, 0, none⟩) 1 1, Value.slice (some ⟨v.heap.size + 1 + 1, 0, none⟩) 1 1] ∧
    Parts W [Value.slice (some ⟨v.heap.size, 0, none⟩) 1 1, Value.slice (some ⟨v.heap.size + 1, 0, none⟩) 1 1, Value.slice (some ⟨v.heap.size + 1 + 1, 0, none⟩) 1 1] [[x], [y], [z]] ∧ Below v.heap.size v W := by
  have z1 := bs_lit1 v x 5 _ _ hx rfl
  obtain ⟨w1, hw1⟩ : ∃ u, v.alloc (.cells #[vx] 5) = u := ⟨_, rfl⟩
  have s1 : w1.heap.size = v.heap.size + 1 := by rw [← hw1]; simp
  have x1 : Below v.heap.size v w1 := by rw [← hw1]; exact below_alloc _ _
  have z2 := bs_lit1 w1 y 5 _ _ hy rfl
  obtain ⟨w2, hw2⟩ : ∃ u, w1.alloc (.cells #[vy] 5) = u := ⟨_, rfl⟩
  have s2 : w2.heap.size = v.heap.size + 1 + 1 := by rw [← hw2]; simp [s1]
  have x2 : Below w1.heap.size w1 w2 := by rw [← hw2]; exact below_alloc _ _
  have z3 := bs_lit1 w2 z 5 _ _ hz rfl
  obtain ⟨w3, hw3⟩ : ∃ u, w2.alloc (.cells #[vz] 5) = u := ⟨_, rfl⟩
  have s3 : w3.heap.size = v.heap.size + 1 + 1 + 1 := by rw [← hw3]; simp [s2]
  have x3 : Below w2.heap.size w2 w3 := by rw [← hw3]; exact below_alloc _ _
  rw [hw1, hw2, hw3]
  rw [hw1] at z1
  rw [hw2, s1] at z2
  rw [hw3, s2] at z3
  refine ⟨_, rfl, Sl.lit w3 [_, _, _] 38 _ 3 s3.symm rfl (by simp), ?_, on_below (on_below (on_below x1 x2) x3) (below_alloc _ _)⟩
  have x4 := below_alloc w3 (.cells #[.slice (some ⟨v.heap.size, 0, none⟩) 1 1, .slice (some ⟨v.heap.size + 1, 0, none⟩) 1 1, .slice (some ⟨v.heap.size + 1 + 1, 0, none⟩) 1 1] 38)
  exact parts_three (z1.below (on_below (on_below x2 x3) x4)) (z2.below (on_below x3 x4)) (z3.below x4)

end

section
/-
  equation: the document's Odd, and how often a number is there.
-/
open Go.RowKit
set_option linter.unusedVariables false

theorem count_next {l : List Int} {i : Nat} {y : Int} (h : l[i]? = some y) (x : Int) : (l.take (i + 1)).count x = (l.take i).count x + if y = x then 1 else 0 := by
  obtain ⟨hi, rfl⟩ := List.getElem?_eq_some_iff.1 h
  rw [List.take_succ_eq_append_getElem hi, List.count_append, List.count_singleton]
  congr 1
  by_cases e : l[i] = x <;> simp [e]

/-! Which number is taken next. -/
/-- Is a number still to come, behind the first m that are there an odd number of times? -/
def NextB (L : List Int) (m : Nat) (y : Int) : Prop := y ∈ L.drop m
theorem next_iff {L : List Int} {m : Nat} {y : Int} (hL : L.Pairwise (· < ·)) (hm : m ≤ L.length) : NextB L m y ↔ (m = 0 ∨ ∃ z, L[m - 1]? = some z ∧ z < y) ∧ y ∈ L := by
  unfold NextB
  constructor
  · intro h
    refine ⟨?_, List.mem_of_mem_drop h⟩
    by_cases h0 : m = 0
    · exact .inl h0
    · have hlt : m - 1 < L.length := by omega
      refine .inr ⟨L[m - 1], List.getElem?_eq_getElem hlt, ?_⟩
      obtain ⟨k, hk, e⟩ := List.getElem_of_mem h
      rw [List.getElem_drop] at e
      rw [← e]
      exact List.pairwise_iff_getElem.1 hL (m - 1) (m + k) hlt (by simp at hk; omega) (by omega)
  · rintro ⟨h1, h2⟩
    obtain ⟨k, hk, e⟩ := List.getElem_of_mem h2
    have hmk : m ≤ k := by
      rcases h1 with h1 | ⟨z, hz, hzy⟩
      · omega
      · by_cases h0 : m ≤ k
        · exact h0
        · exfalso
          obtain ⟨hlt, ez⟩ := List.getElem?_eq_some_iff.1 hz
          by_cases h3 : k = m - 1
          · subst h3
            omega
          · have := List.pairwise_iff_getElem.1 hL k (m - 1) hk hlt (by omega)
            omega
    rw [List.mem_drop_iff_getElem]
    exact ⟨k - m, by omega, by rw [← e]; congr 1; omega⟩

/-- The least of the first i that is still to come. -/
def BestI (of L : List Int) (m i : Nat) (b : Int) : Prop := (b = -1 ∧ ∀ k y, k < i → of[k]? = some y → ¬ NextB L m y) ∨ ∃ (j : Nat) (u : Int), b = (j : Int) ∧ j < i ∧ of[j]? = some u ∧ NextB L m u ∧ ∀ k y, k < i → of[k]? = some y → NextB L m y → u ≤ y
theorem BestI.start (of L : List Int) (m : Nat) : BestI of L m 0 (-1) := .inl ⟨rfl, fun k y hk => by omega⟩
theorem BestI.keep {of L : List Int} {m i : Nat} {b y : Int} (h : BestI of L m i b) (hy : of[i]? = some y) (hn : NextB L m y → ∃ (j : Nat) (u : Int), b = (j : Int) ∧ of[j]? = some u ∧ u ≤ y) : BestI of L m (i + 1) b := by
  rcases h with ⟨rfl, h⟩ | ⟨j, u, rfl, hj, hu, hn', hl⟩
  · refine .inl ⟨rfl, fun k z hk hz hnz => ?_⟩
    by_cases e : k = i
    · subst e
      rw [hy] at hz
      obtain rfl := Option.some.inj hz
      obtain ⟨j, u, h1, -⟩ := hn hnz
      omega
    · exact h k z (by omega) hz hnz
  · refine .inr ⟨j, u, rfl, by omega, hu, hn', fun k z hk hz hnz => ?_⟩
    by_cases e : k = i
    · subst e
      rw [hy] at hz
      obtain rfl := Option.some.inj hz
      obtain ⟨j', u', h1, h2, h3⟩ := hn hnz
      have : j = j' := by omega
      subst this
      rw [hu] at h2
      obtain rfl := Option.some.inj h2
      exact h3
    · exact hl k z (by omega) hz hnz
theorem BestI.take {of L : List Int} {m i : Nat} {b y : Int} (h : BestI of L m i b) (hy : of[i]? = some y) (hn : NextB L m y) (hb : b < 0 ∨ ∃ (j : Nat) (u : Int), b = (j : Int) ∧ of[j]? = some u ∧ y < u) : BestI of L m (i + 1) (i : Int) := by
  refine .inr ⟨i, y, rfl, by omega, hy, hn, fun k z hk hz hnz => ?_⟩
  by_cases e : k = i
  · subst e
    rw [hy] at hz
    obtain rfl := Option.some.inj hz
    omega
  · rcases h with ⟨rfl, h⟩ | ⟨j, u, rfl, hj, hu, hn', hl⟩
    · exact absurd hnz (h k z (by omega) hz)
    · have := hl k z (by omega) hz hnz
      rcases hb with hb | ⟨j', u', h1, h2, h3⟩
      · omega
      · have : j = j' := by omega
        subst this
        rw [hu] at h2
        obtain rfl := Option.some.inj h2
        omega
theorem BestI.none {of : List Int} {m : Nat} (h : BestI of (oddD of) m of.length (-1)) : (oddD of).length ≤ m := by
  rcases h with ⟨-, h⟩ | ⟨j, u, e, -⟩
  · by_cases hm : (oddD of).length ≤ m
    · exact hm
    · exfalso
      have hlt : m < (oddD of).length := by omega
      have hmem : (oddD of)[m] ∈ of := mem_oddD (List.getElem_mem hlt)
      obtain ⟨k, hk, e⟩ := List.getElem_of_mem hmem
      refine h k _ hk (List.getElem?_eq_getElem hk) ?_
      rw [e]
      unfold NextB
      rw [List.mem_drop_iff_getElem]
      exact ⟨0, by omega, by simp⟩
  · omega
theorem BestI.some {of : List Int} {m j : Nat} (h : BestI of (oddD of) m of.length (j : Int)) : ∃ u, of[j]? = Option.some u ∧ (oddD of)[m]? = Option.some u := by
  rcases h with ⟨e, -⟩ | ⟨j', u, e, hj, hu, hn, hl⟩
  · omega
  · have : j = j' := by omega
    subst this
    refine ⟨u, hu, ?_⟩
    unfold NextB at hn
    obtain ⟨k, hk, e⟩ := List.getElem_of_mem hn
    rw [List.getElem_drop] at e
    have hlt : m < (oddD of).length := by simp at hk; omega
    have hmem : (oddD of)[m] ∈ of := mem_oddD (List.getElem_mem hlt)
    obtain ⟨k2, hk2, e2⟩ := List.getElem_of_mem hmem
    have hle := hl k2 _ hk2 (List.getElem?_eq_getElem hk2) (by
      rw [e2]
      unfold NextB
      rw [List.mem_drop_iff_getElem]
      exact ⟨0, by omega, by simp⟩)
    rw [e2] at hle
    rw [List.getElem?_eq_getElem hlt]
    congr 1
    by_cases h0 : k = 0
    · subst h0
      simpa using e
    · have := List.pairwise_iff_getElem.1 (oddD_of of).lt m (m + k) hlt (by simp at hk; omega) (by omega)
      omega

def lenV : Value → Nat
  | .slice _ n _ => n
  | _ => 0

end

section
/-
  equation: the document's Odd: the walk.
-/
open Go.RowKit
set_option linter.unusedVariables false

end

section
/-
  EquationAdds.
-/
open Go.RowKit
set_option linter.unusedVariables false

/-- Numbers of one's own, wherever. -/
def IsOwZ (B n : Nat) (l : List Int) : Value → World → Prop := fun v W => ∃ a c, v = .slice a n c ∧ OwnZ B W (.slice a n c) n l
theorem stays_owz (B n : Nat) (l : List Int) : Stays (IsOwZ B n l) := fun _ _ _ hb ⟨a, c, h1, h2⟩ => ⟨a, c, h1, h2.below hb⟩
/-- Slices in a row of one's own, wherever. -/
def IsOwR (B n : Nat) (vs : List Value) : Value → World → Prop := fun v W => ∃ a c, v = .slice a n c ∧ W.ownsRow B 38 1 (.slice a n c) n vs
theorem stays_owr (B n : Nat) (vs : List Value) : Stays (IsOwR B n vs) := fun _ _ _ hb ⟨a, c, h1, h2⟩ => ⟨a, c, h1, owns_below h2 hb⟩
/-- A row of one slice, just laid. -/
def IsR1 (u : Value) : Value → World → Prop := fun v W => ∃ q, v = .slice (some ⟨q, 0, none⟩) 1 1 ∧ W.heap[q]? = some (.cells #[u] 38 (0, 0))
theorem stays_r1 (u : Value) : Stays (IsR1 u) := fun _ _ _ hb ⟨q, h1, h2⟩ => ⟨q, h1, (hb.block q (Array.getElem?_eq_some_iff.1 h2).1).trans h2⟩
theorem IsR1.sl {u v : Value} {W : World} (h : IsR1 u v W) : Sl 1 W v 1 [u] := by
  obtain ⟨q, rfl, hq⟩ := h
  refine ⟨rfl, _, _, rfl, Nat.le_refl _, by simp [maxLen], fun h => by simp at h, .inr ⟨_, _, rfl, fun j x hj => ?_⟩⟩
  have : j = 0 := by have := (List.getElem?_eq_some_iff.1 hj).1; simp at this; omega
  subst this
  simp at hj
  subst hj
  simp [World.cell?, hq]
theorem grown_kindR {B n : Nat} {w w' : World} {v : Value} {vs : List Value} (ho : w.ownsRow B 38 1 v n vs) (hg : w.grownBy w' v.ownBlock) {q : Nat} {cs : Array Value} {t : TypeId} {fr : Nat × Nat} (hq : w.heap[q]? = some (.cells cs t fr)) (ht : t ≠ 38) : w'.heap[q]? = w.heap[q]? := by
  have hlt : q < w.heap.size := (Array.getElem?_eq_some_iff.1 hq).1
  refine hg.block q hlt (fun e => ?_)
  obtain ⟨c1, e1⟩ := owns_type' ho q e.symm
  rw [e1] at hq
  injection hq with hq
  injection hq with _ h2 _
  exact ht h2.symm
theorem OwnZ.grownR {B B1 n m : Nat} {w w' : World} {v u : Value} {vs : List Value} {l : List Int} (h : OwnZ B1 w u m l) (ho : w.ownsRow B 38 1 v n vs) (hg : w.grownBy w' v.ownBlock) : OwnZ B1 w' u m l := by
  refine h.kept fun q hq => ?_
  obtain ⟨c, e⟩ := owns_type' h q hq
  exact grown_kindR ho hg e (by decide)
theorem step_addS (w : World) {ops : Array Oper} {o : Oper} {a : Act} {K : Act → World → Prop} {Q : Exit → Act → World → Prop} {E : Prop} (hgd : o.guard = none) (s x : Operand)
    (ho : o.op = .call { callee := .builtin .append, args := #[s, x], argTypes := #[23, 23] })
    (B : Nat) (v : Value) (n : Nat) (vs : List Value) (hs : a.eval s = v) (hown : w.ownsRow B 38 1 v n vs)
    (xv : Value) (u : Value) (hu : u.oneCell' = true) (hx : a.eval x = xv) (hsrc : Sl 1 w xv 1 [u])
    (hlen : n + 1 ≤ 1000000000) (hbase : B ≤ w.heap.size)
    (h : ∀ ao cap w', w'.ownsRow B 38 1 (.slice ao (n + 1) cap) (n + 1) (vs ++ [u]) → w.grownBy w' v.ownBlock → K (a.put o.dst (.slice ao (n + 1) cap)) w') :
    if Region.wanted o (yielded ops a.tmps) = true then Oper.wp Try.prog o a w K Q else E := by
  obtain ⟨i, hi, hz, h1, h8⟩ := infoBs_parts
  refine step_app w hgd s x 23 ho B 38 i (.slice none 0 0) 1 24 Try.underlying23 hi hz h1 h8 rfl (by decide) v n _ hs hown xv 1 _ hx hsrc (by intro y hy; simp at hy; subst hy; exact hu) (by unfold maxLen; omega) (by omega) hbase ?_
  intro ao cap w' h2 h3 h4 h5 h6 h7
  exact h ao cap w' h2 h3
theorem EqX.grownR {B n : Nat} {w w' : World} {v : Value} {vs : List Value} {b : Nat} {ov vv : Value} (h : EqX w b ov vv) (ho : w.ownsRow B 38 1 v n vs) (hg : w.grownBy w' v.ownBlock) : EqX w' b ov vv := h.kept (grown_kindR ho hg h (by decide))

def IsZl (l : List Int) : Value → World → Prop := fun v W => Zs W v l
theorem stays_zl (l : List Int) : Stays (IsZl l) := fun _ _ _ hb h => Zs.below h hb
theorem r1_grownZ {B n : Nat} {w w' : World} {v x u : Value} {l : List Int} (h : IsR1 u x w) (ho : OwnZ B w v n l) (hg : w.grownBy w' v.ownBlock) : IsR1 u x w' := by
  obtain ⟨q, h1, h2⟩ := h
  exact ⟨q, h1, (grown_kindZ ho hg h2 (by decide)).trans h2⟩
theorem owz_grownR {B B1 n m : Nat} {w w' : World} {v x : Value} {vs : List Value} {l : List Int} (h : IsOwZ B1 m l x w) (ho : w.ownsRow B 38 1 v n vs) (hg : w.grownBy w' v.ownBlock) : IsOwZ B1 m l x w' := by
  obtain ⟨a, c, h1, h2⟩ := h
  exact ⟨a, c, h1, h2.grownR ho hg⟩

end

section
/-
  says: true is said of a number by the law's own function.
-/
open Go.RowKit
set_option linter.unusedVariables false

theorem quiet (w : World) : CallsD Try.prog 56 #[] .returning w fun e u' w' => e = .returned (.tuple #[]) ∧ u' = .returning ∧ w' = w := by
  refine callsD_of_wpS Try.func56 rfl fun c₀ cs hu => ?_
  apply wpS_region
  simp [wpOpsS, go_sem, recoverD, hu, Try.ntmps56, bodyPostS, results, Try.results56]
  cases c₀
  simp_all

end

section
/-
  Left: the blocks of an equation that aren't known.
-/
open Go.RowKit
set_option linter.unusedVariables false

/-- Those of some numbers that aren't among others. -/
def leftZ (l of : List Int) : List Int := of.filter fun x => !decide (x ∈ l)
theorem leftZ_take {l of : List Int} {i : Nat} {z : Int} (h : of[i]? = some z) : leftZ l (of.take (i + 1)) = leftZ l (of.take i) ++ (if z ∈ l then [] else [z]) := by
  obtain ⟨hi, e⟩ := List.getElem?_eq_some_iff.1 h
  unfold leftZ
  rw [List.take_succ_eq_append_getElem hi, List.filter_append, e]
  by_cases hz : z ∈ l <;> simp [hz]
theorem leftZ_le (l of : List Int) (i : Nat) : (leftZ l (of.take i)).length ≤ i := by
  unfold leftZ
  have h1 := List.length_filter_le (fun x => !decide (x ∈ l)) (of.take i)
  have h2 := List.length_take_le i of
  omega

end

section
/-
  EquationHolds.
-/
open Go.RowKit
set_option linter.unusedVariables false

theorem Qs.lit1 (w : World) (a : Qe) (q : Nat) (hq : q = w.heap.size) (ha : QeP w a) : Qs (w.alloc (.cells #[a.ov, a.vv] 43)) (.slice (some ⟨q, 0, none⟩) 1 1) [a] := by
  subst hq
  refine ⟨⟨rfl, _, _, rfl, Nat.le_refl _, by simp [maxLen], fun h => by simp at h, .inr ⟨_, _, rfl, fun j u hj => ?_⟩⟩, fun e he => ?_⟩
  · rw [Nat.zero_add, World.cell?_alloc_new]
    have hj2 : j < 2 := by have := (List.getElem?_eq_some_iff.1 hj).1; simpa [Qe.cells] using this
    match j, hj2 with
    | 0, _ => simpa [Qe.cells] using hj
    | 1, _ => simpa [Qe.cells] using hj
  · have : e = a := by simpa using he
    subst this
    exact ha.below (below_alloc _ _)

theorem big_one {a : Qe} (h : (ofsQ [a]).length + [a].length ≤ 300 ∧ ∀ e ∈ [a], e.va.length ≤ 60) : a.of.length + 1 ≤ 300 ∧ a.va.length ≤ 60 := by
  have h1 : ofsQ [a] = a.of := by simp [ofsQ]
  obtain ⟨h2, h3⟩ := h
  rw [h1] at h2
  exact ⟨h2, h3 a (List.mem_singleton.2 rfl)⟩

end

section
/-
  Slices of equations of one's own; 'append' onto them.
-/
open Go.RowKit
set_option linter.unusedVariables false

theorem Try.infoE : (Try.prog.info? 43).map (fun i => (i.zero, i.size, i.bytes)) = some (some (.agg #[.slice none 0 0, .slice none 0 0]), 2, 48) := by kernel_rfl
theorem infoE_parts : ∃ i, Try.prog.info? 43 = some i ∧ i.zero = some (.agg #[.slice none 0 0, .slice none 0 0]) ∧ i.size = 2 ∧ i.bytes = 48 := by
  obtain ⟨i, a, b, c, d⟩ := info_parts Try.infoE
  exact ⟨i, a, b, c, d⟩

/-- A row of equations of one's own. -/
def OwnE (B : Nat) (w : World) (v : Value) (n : Nat) (l : List Qe) : Prop := w.ownsRow B 43 2 v n (l.flatMap Qe.cells)
theorem OwnE.len {B : Nat} {w : World} {v : Value} {n : Nat} {l : List Qe} (h : OwnE B w v n l) : l.length = n := by
  have := h.1
  rw [length_qs] at this
  omega
theorem OwnE.lt {B : Nat} {w : World} {v : Value} {n : Nat} {l : List Qe} (h : OwnE B w v n l) : ∀ q, v.ownBlock = some q → B ≤ q ∧ q < w.heap.size := fun q hq => World.ownsRow.lt h q hq
theorem OwnE.kept {B : Nat} {w w' : World} {v : Value} {n : Nat} {l : List Qe} (h : OwnE B w v n l) (hk : ∀ q, v.ownBlock = some q → w'.heap[q]? = w.heap[q]?) : OwnE B w' v n l := owns_kept h hk
theorem OwnE.below {B : Nat} {w w' : World} {v : Value} {n : Nat} {l : List Qe} (h : OwnE B w v n l) (hb : Below w.heap.size w w') : OwnE B w' v n l := h.kept (fun q hq => hb.block q (h.lt q hq).2)
theorem OwnE.mono {B B' : Nat} {w : World} {v : Value} {n : Nat} {l : List Qe} (h : OwnE B w v n l) (hB : B' ≤ B) : OwnE B' w v n l := by
  refine ⟨h.1, ?_⟩
  rcases h.2 with h' | ⟨g, cap, cur, hv, hg, hh, hx⟩
  · exact .inl h'
  · exact .inr ⟨g, cap, cur, hv, Nat.le_trans hB hg, hh, hx⟩
theorem OwnE.nil (B : Nat) (w : World) : OwnE B w (.slice none 0 0) 0 [] := ⟨rfl, .inl ⟨rfl, rfl⟩⟩
theorem OwnE.new {B : Nat} (w : World) (h : B ≤ w.heap.size) (e : Qe) : OwnE B (w.alloc (.cells #[e.ov, e.vv] 43)) (.slice (some ⟨w.heap.size, 0, none⟩) 1 1) 1 [e] := World.ownsRow_lit w #[e.ov, e.vv] 1 h (by simp [maxLen]) rfl
theorem OwnE.qs {B : Nat} {w : World} {v : Value} {n : Nat} {l : List Qe} (h : OwnE B w v n l) (hq : ∀ e ∈ l, QeP w e) : Qs w v l := by
  refine ⟨?_, hq⟩
  rw [h.len]
  exact owned_slN h

theorem e_oneCell {w : World} {l : List Qe} (h : ∀ e ∈ l, QeP w e) : ∀ u ∈ l.flatMap Qe.cells, u.oneCell' = true := by
  intro u hu
  obtain ⟨e, he, hu⟩ := List.mem_flatMap.1 hu
  obtain ⟨a, c, h1, -, -⟩ := zs_shape (h e he).1
  obtain ⟨a', c', h2, -, -⟩ := bs_shape (h e he).2
  have : u = e.ov ∨ u = e.vv := by simpa [Qe.cells] using hu
  rcases this with rfl | rfl
  · rw [h1]; rfl
  · rw [h2]; rfl
theorem one_src {w : World} {e : Qe} : Sl 2 (w.alloc (.cells #[e.ov, e.vv] 43)) (.slice (some ⟨w.heap.size, 0, none⟩) 1 1) 1 ([e].flatMap Qe.cells) := owned_slN (World.ownsRow_lit (base := 0) w #[e.ov, e.vv] 1 (Nat.zero_le _) (by simp [maxLen]) rfl)

/-- Equations behind a row of one's own. -/
theorem wpList_addE (w : World) {ops : Array Oper} {rest : List Oper} {o : Oper} {a : Act} {Q : Exit → Act → World → Prop} (hgd : o.guard = none) (s x : Operand)
    (ho : o.op = .call { callee := .builtin .append, args := #[s, x], argTypes := #[28, 28] })
    (B : Nat) (v : Value) (n : Nat) (l : List Qe) (hs : a.eval s = v) (hown : OwnE B w v n l)
    (xv : Value) (m : Nat) (news : List Qe) (hx : a.eval x = xv) (hsrc : Sl 2 w xv m (news.flatMap Qe.cells)) (hone : ∀ u ∈ news.flatMap Qe.cells, u.oneCell' = true)
    (hlen : n + m ≤ 1000000000) (hbase : B ≤ w.heap.size)
    (h : ∀ ao cap w', OwnE B w' (.slice ao (n + m) cap) (n + m) (l ++ news) → w.grownBy w' v.ownBlock → wpList Try.prog ops Q rest (a.put o.dst (.slice ao (n + m) cap)) w') : wpList Try.prog ops Q (o :: rest) a w := by
  obtain ⟨i, hi, hz, h1, h8⟩ := infoE_parts
  refine wpList_app w hgd s x 28 ho B 43 i (.agg #[.slice none 0 0, .slice none 0 0]) 2 48 Try.underlying28 hi hz h1 h8 rfl (by decide) v n _ hs hown xv m _ hx hsrc hone (by unfold maxLen; omega) (by omega) hbase ?_
  intro ao cap w' h2 h3 h4 h5 h6 h7
  refine h ao cap w' ?_ h3
  unfold OwnE
  rw [List.flatMap_append]
  exact h2
theorem step_addE (w : World) {ops : Array Oper} {o : Oper} {a : Act} {K : Act → World → Prop} {Q : Exit → Act → World → Prop} {E : Prop} (hgd : o.guard = none) (s x : Operand)
    (ho : o.op = .call { callee := .builtin .append, args := #[s, x], argTypes := #[28, 28] })
    (B : Nat) (v : Value) (n : Nat) (l : List Qe) (hs : a.eval s = v) (hown : OwnE B w v n l)
    (xv : Value) (m : Nat) (news : List Qe) (hx : a.eval x = xv) (hsrc : Sl 2 w xv m (news.flatMap Qe.cells)) (hone : ∀ u ∈ news.flatMap Qe.cells, u.oneCell' = true)
    (hlen : n + m ≤ 1000000000) (hbase : B ≤ w.heap.size)
    (h : ∀ ao cap w', OwnE B w' (.slice ao (n + m) cap) (n + m) (l ++ news) → w.grownBy w' v.ownBlock → K (a.put o.dst (.slice ao (n + m) cap)) w') :
    if Region.wanted o (yielded ops a.tmps) = true then Oper.wp Try.prog o a w K Q else E := by
  obtain ⟨i, hi, hz, h1, h8⟩ := infoE_parts
  refine step_app w hgd s x 28 ho B 43 i (.agg #[.slice none 0 0, .slice none 0 0]) 2 48 Try.underlying28 hi hz h1 h8 rfl (by decide) v n _ hs hown xv m _ hx hsrc hone (by unfold maxLen; omega) (by omega) hbase ?_
  intro ao cap w' h2 h3 h4 h5 h6 h7
  refine h ao cap w' ?_ h3
  unfold OwnE
  rw [List.flatMap_append]
  exact h2

set_option maxRecDepth 100000 in
/-- 'append' onto a row of one's own that is full: nothing that was there turns. -/
theorem run_fullE (w : World) (ty : TypeId) (B : Nat) (v : Value) (l : List Qe) (n : Nat) (hown : OwnE B w v n l) (hfull : ∃ g, v = .slice (some ⟨g, 0, none⟩) n n) (xv : Value) (news : List Qe) (hsrc : Qs w xv news) (hlen : n + news.length ≤ 1000000000) (hbase : B ≤ w.heap.size) :
    ∃ ao cap w', (Builtin.append_ #[28, 28] ty #[v, xv]).run Try.prog w = .ok (.slice ao (n + news.length) cap) w' ∧ OwnE B w' (.slice ao (n + news.length) cap) (n + news.length) (l ++ news) ∧ Below w.heap.size w w' := by
  obtain ⟨g, rfl⟩ := hfull
  obtain ⟨i, hi, hz, h1, h8⟩ := infoE_parts
  obtain ⟨-, ao, c, rfl, hmc, hcm, hnone, hc⟩ := hsrc.1
  have hle := hsrc.2
  by_cases h0 : news.length = 0
  · have hn : news = [] := List.eq_nil_of_length_eq_zero h0
    subst hn
    refine ⟨some ⟨g, 0, none⟩, n, w, ?_, by simpa using hown, Below.refl _ _⟩
    refine run_append_nothing w 28 28 ty 43 i Try.underlying28 hi (some ⟨g, 0, none⟩) n n (Nat.le_refl _) _ ?_
    rw [h1]
    cases ao with
    | none =>
      have hc0 := hnone rfl
      subst hc0
      exact Src.ofNil w Try.underlying28 0
    | some ad => exact Src.ofSlice w Try.underlying28 ad 0 c [] rfl (by simp) (by simp)
  · obtain ⟨b, off, rfl, hcs⟩ := hc.resolve_left h0
    have hnl : (news.flatMap Qe.cells).length = news.length * 2 := length_qs _
    have hlo := hown.1
    obtain ⟨-, a2, c2, e2, -, -, -, hold⟩ := owned_slN hown
    injection e2 with e2 _ _
    subst e2
    have holds : ∀ j u, (l.flatMap Qe.cells)[j]? = some u → w.cell? ((⟨g, 0, none⟩ : Addr).add j) = some u := by
      intro j u hj
      rcases hold with h | ⟨b', off', e, hc'⟩
      · have h3 := (List.getElem?_eq_some_iff.1 hj).1
        rw [hlo, h] at h3
        simp at h3
      · injection e with e
        injection e with e1 e2 _
        subst e1
        subst e2
        rw [Addr.add_lit]
        exact hc' j u hj
    obtain ⟨v', w', hr, ho, hg⟩ := run_append_arg_grows (P := Try.prog) w 28 ty 43 i _ 2 48 Try.underlying28 hi hz h1 h8 rfl (by decide) ⟨g, 0, none⟩ n n _ hlo holds ⟨b, off, none⟩ news.length c _ hnl (fun j u hj => by rw [Addr.add_lit]; exact hcs j u hj) (by omega) (by unfold maxLen; omega) (by omega)
    obtain ⟨a3, c3, rfl, -, -, -⟩ := owned_slice ho
    refine ⟨a3, c3, w', hr, ?_, below_fresh hg⟩
    refine OwnE.mono ?_ hbase
    unfold OwnE
    rw [List.flatMap_append]
    exact ho
theorem step_fullE (w : World) {ops : Array Oper} {o : Oper} {a : Act} {K : Act → World → Prop} {Q : Exit → Act → World → Prop} {E : Prop} (hgd : o.guard = none) (s x : Operand)
    (ho : o.op = .call { callee := .builtin .append, args := #[s, x], argTypes := #[28, 28] })
    (B : Nat) (v : Value) (n : Nat) (l : List Qe) (hs : a.eval s = v) (hown : OwnE B w v n l) (hfull : ∃ g, v = .slice (some ⟨g, 0, none⟩) n n)
    (xv : Value) (news : List Qe) (hx : a.eval x = xv) (hsrc : Qs w xv news)
    (hlen : n + news.length ≤ 1000000000) (hbase : B ≤ w.heap.size)
    (h : ∀ ao cap w', OwnE B w' (.slice ao (n + news.length) cap) (n + news.length) (l ++ news) → Below w.heap.size w w' → K (a.put o.dst (.slice ao (n + news.length) cap)) w') :
    if Region.wanted o (yielded ops a.tmps) = true then Oper.wp Try.prog o a w K Q else E := by
  have hw : Region.wanted o (yielded ops a.tmps) = true := by simp [Region.wanted, hgd]
  rw [if_pos hw]
  obtain ⟨ao, cap, w', hr, h2, h3⟩ := run_fullE w o.type B v l n hown hfull xv news hsrc hlen hbase
  unfold Oper.wp execOp
  simp only [ho, resolve, invoke, builtin, Sem.run_bind, Sem.run_pure, Result.andThen_ok, List.map_toArray, List.map_cons, List.map_nil, hs, hx, hr]
  exact h ao cap w' h2 h3

end

section
/-
  Add, in one form; in which order equations are put upon each other is of no matter.
-/
open Go.RowKit
set_option linter.unusedVariables false

/-- What Add answers. -/
def addB (n : Nat) (es : List Qe) : Bool := fitB n (vasQ es)
def addL (n : Nat) (es : List Qe) : List Int := if addB n es then oddD (ofsQ es) else []
def addX (n : Nat) (es : List Qe) : List UInt8 := if addB n es then xorAll (zeros n) (vasQ es) else []

theorem fitB_perm {n : Nat} {l m : List (List UInt8)} (h : l.Perm m) : fitB n l = fitB n m := by
  rw [Bool.eq_iff_iff]
  exact ⟨fun k => fitB_of fun x hx => fitB_mem k (h.mem_iff.2 hx), fun k => fitB_of fun x hx => fitB_mem k (h.mem_iff.1 hx)⟩
theorem addB_perm {n : Nat} {es fs : List Qe} (h : es.Perm fs) : addB n es = addB n fs := fitB_perm (h.map _)
theorem addL_perm {n : Nat} {es fs : List Qe} (h : es.Perm fs) : addL n es = addL n fs := by
  unfold addL
  rw [addB_perm h, oddD_perm (show (ofsQ es).Perm (ofsQ fs) from (h.map _).flatten)]
theorem addX_perm {n : Nat} {es fs : List Qe} (h : es.Perm fs) : addX n es = addX n fs := by
  unfold addX
  rw [addB_perm h, xorAll_perm _ (show (vasQ es).Perm (vasQ fs) from h.map _)]
theorem twice_perm (x : Qe) (es : List Qe) : ([x] ++ es ++ [x]).Perm (x :: x :: es) := by
  simp only [List.cons_append]
  refine List.Perm.cons _ ?_
  exact (List.perm_append_comm (l₁ := es) (l₂ := [x])).trans (by simp)
theorem addB_two (n : Nat) (x : Qe) (es : List Qe) : addB n (x :: x :: es) = (addB n es && decide (x.va.length = n)) := by
  show fitB n (x.va :: x.va :: vasQ es) = _
  rw [fitB_cons, fitB_cons]
  unfold addB
  by_cases h : x.va.length = n
  · simp [h]
  · simp [h]
theorem addB_twice (n : Nat) (x : Qe) (es : List Qe) : addB n ([x] ++ es ++ [x]) = (addB n es && decide (x.va.length = n)) := (addB_perm (twice_perm x es)).trans (addB_two n x es)
theorem addL_twice {n : Nat} {x : Qe} {es : List Qe} (h : addB n ([x] ++ es ++ [x]) = true) : addL n ([x] ++ es ++ [x]) = addL n es := by
  have h2 := (addB_twice n x es).symm.trans h
  rw [Bool.and_eq_true] at h2
  unfold addL
  rw [h, h2.1]
  have h3 : ofsQ ([x] ++ es ++ [x]) = x.of ++ (ofsQ es ++ x.of) := by simp [ofsQ]
  rw [h3, oddD_twice]
theorem addX_twice {n : Nat} {x : Qe} {es : List Qe} (h : addB n ([x] ++ es ++ [x]) = true) : addX n ([x] ++ es ++ [x]) = addX n es := by
  have h2 := (addB_twice n x es).symm.trans h
  rw [Bool.and_eq_true, decide_eq_true_eq] at h2
  unfold addX
  rw [h, h2.1]
  have h3 : xorAll (zeros n) (vasQ ([x] ++ es ++ [x])) = xorAll (zeros n) (x.va :: x.va :: vasQ es) := xorAll_perm _ (show (vasQ ([x] ++ es ++ [x])).Perm (vasQ (x :: x :: es)) from (twice_perm x es).map _)
  rw [h3]
  show xorAll (xorL (xorL (zeros n) x.va) x.va) (vasQ es) = xorAll (zeros n) (vasQ es)
  rw [xorL_twice (by rw [zeros_length]; exact h2.2)]
theorem addX_length {n : Nat} {es : List Qe} (h : addB n es = true) : (addX n es).length = n := by
  unfold addX
  rw [h]
  show (xorAll (zeros n) (vasQ es)).length = n
  rw [xorAll_length (by rw [zeros_length]; intro y hy; exact fitB_mem h hy), zeros_length]

/-- Once i is listed, its value is a's. -/
def Rel4 (listed : Array Bool) (xv : Nat → Value) (i a : Nat) : Prop := listed.getD i false = true → xv i = xv a
theorem Rel4.start (n : Nat) (xv : Nat → Value) (i a : Nat) : Rel4 (Array.replicate n false) xv i a := by
  intro h
  exfalso
  rw [Array.getD_eq_getD_getElem?, Array.getElem?_replicate] at h
  split at h <;> simp at h
theorem Rel4.new {listed : Array Bool} {xv : Nat → Value} {i a : Nat} (h : i ≠ a) : Rel4 (listed.setIfInBounds i true) (updV xv i (xv a)) i a := by
  intro _
  unfold updV
  rw [if_pos rfl, if_neg (fun e => h e.symm)]
theorem Rel4.yet {listed : Array Bool} {xv : Nat → Value} {i a o : Nat} {v : Value} (h : listed.getD i false = false) (hi : i ≠ o) : Rel4 (listed.setIfInBounds o true) (updV xv o v) i a := by
  intro k
  rw [getD_set_other hi, h] at k
  cases k
theorem Rel4.step {listed : Array Bool} {xv : Nat → Value} {i a o : Nat} {v : Value} (h : Rel4 listed xv i a) (hi : i ≠ o) (ha : a ≠ o) : Rel4 (listed.setIfInBounds o true) (updV xv o v) i a := by
  intro k
  rw [getD_set_other hi] at k
  unfold updV
  rw [if_neg hi, if_neg ha]
  exact h k

/-- A value's block, if it has one, is no equation's. -/
def NotE (W : World) (v : Value) : Prop := ∀ q, v.ownBlock = some q → ∃ cs t fz, W.heap[q]? = some (.cells cs t fz) ∧ t ≠ 43
theorem NotE.below {W W' : World} {v : Value} (h : NotE W v) (hb : Below W.heap.size W W') : NotE W' v := by
  intro q hq
  obtain ⟨cs, t, fz, h1, h2⟩ := h q hq
  exact ⟨cs, t, fz, (hb.block q (Array.getElem?_eq_some_iff.1 h1).1).trans h1, h2⟩
theorem NotE.ne {W : World} {v : Value} (h : NotE W v) {b : Nat} {ov vv : Value} (hE : EqX W b ov vv) : v.ownBlock ≠ some b := by
  intro e
  obtain ⟨cs, t, fz, h1, h2⟩ := h b e
  rw [show W.heap[b]? = _ from hE] at h1
  injection h1 with h1
  injection h1 with _ h3 _
  exact h2 h3.symm
theorem NotE.set {W : World} {v : Value} (h : NotE W v) {b : Nat} {ov vv : Value} (hE : EqX W b ov vv) (j : Nat) (u : Value) : NotE (W.setCell ⟨b, j, none⟩ u) v := by
  intro q hq
  obtain ⟨cs, t, fz, h1, h2⟩ := h q hq
  refine ⟨cs, t, fz, ?_, h2⟩
  rw [Below.heap_setCell _ _ _ _ (fun e => h.ne hE (by rw [hq, e]))]
  exact h1
theorem sl_set {size n : Nat} {W : World} {v : Value} {cs : List Value} (h : Sl size W v n cs) {b : Nat} (hv : v.ownBlock ≠ some b) (j : Nat) (u : Value) : Sl size (W.setCell ⟨b, j, none⟩ u) v n cs := by
  obtain ⟨h1, ao, cap, rfl, h2, h3, h4, h5⟩ := h
  refine ⟨h1, ao, cap, rfl, h2, h3, h4, ?_⟩
  rcases h5 with h5 | ⟨b', off, rfl, hc⟩
  · exact .inl h5
  · refine .inr ⟨b', off, rfl, fun k x hx => ?_⟩
    rw [World.cell?_of_block (w := W) (Below.heap_setCell _ _ _ _ (fun e => hv (by show some b' = some b; rw [show b' = b from e])))]
    exact hc k x hx

/-- An equation that is read, in no equation's block. -/
def QeN (W : World) (e : Qe) : Prop := QeP W e ∧ NotE W e.ov ∧ NotE W e.vv
theorem QeN.below {W W' : World} {e : Qe} (h : QeN W e) (hb : Below W.heap.size W W') : QeN W' e := ⟨h.1.below hb, h.2.1.below hb, h.2.2.below hb⟩
theorem QeN.set {W : World} {e : Qe} (h : QeN W e) {b : Nat} {ov vv : Value} (hE : EqX W b ov vv) (j : Nat) (u : Value) : QeN (W.setCell ⟨b, j, none⟩ u) e :=
  ⟨⟨sl_set h.1.1 (h.2.1.ne hE) j u, sl_set h.1.2 (h.2.2.ne hE) j u⟩, h.2.1.set hE j u, h.2.2.set hE j u⟩

/-- 'append' onto a row of one's own that isn't empty: what a box holds stays. -/
theorem run_keepE (w : World) (ty : TypeId) (B : Nat) (v : Value) (l : List Qe) (n : Nat) (hn : 0 < n) (hown : OwnE B w v n l) (xv : Value) (news : List Qe) (hsrc : Qs w xv news) (hlen : n + news.length ≤ 1000000000) (hbase : B ≤ w.heap.size) :
    ∃ ao cap w', (Builtin.append_ #[28, 28] ty #[v, xv]).run Try.prog w = .ok (.slice ao (n + news.length) cap) w' ∧ OwnE B w' (.slice ao (n + news.length) cap) (n + news.length) (l ++ news) ∧ w.grownBy w' v.ownBlock ∧ ∀ b ov vv, EqX w b ov vv → EqX w' b ov vv := by
  by_cases hfull : ∃ g, v = .slice (some ⟨g, 0, none⟩) n n
  · obtain ⟨ao, cap, w', hr, h2, h3⟩ := run_fullE w ty B v l n hown hfull xv news hsrc hlen hbase
    exact ⟨ao, cap, w', hr, h2, ⟨h3.os, h3.tape, h3.output, h3.size, fun k hk _ => h3.block k hk⟩, fun b ov vv h => h.below h3⟩
  · obtain ⟨i, hi, hz, h1, h8⟩ := infoE_parts
    obtain ⟨ao, cap, w', hr, h2, h3, -⟩ := run_app (P := Try.prog) w B 28 ty 43 i (.agg #[.slice none 0 0, .slice none 0 0]) 2 48 Try.underlying28 hi hz h1 h8 rfl (by decide) v n _ hown xv news.length _ hsrc.1 (e_oneCell hsrc.2) (by unfold maxLen; omega) (by omega) hbase
    refine ⟨ao, cap, w', hr, ?_, h3, fun b ov vv h => h.kept (h3.block b h.lt (fun e => ?_))⟩
    · unfold OwnE
      rw [List.flatMap_append]
      exact h2
    · rcases hown.2 with ⟨-, h0⟩ | ⟨g, c, cur, rfl, hg, hh, hnc, hcm, hcs, ht⟩
      · omega
      · have e1 : b = g := Option.some.inj e
        subst e1
        rw [show w.heap[b]? = _ from h] at hh
        injection hh with hh
        injection hh with hh _ _
        rw [← hh] at hcs
        simp at hcs
        have hc1 : c = n := by omega
        subst hc1
        exact hfull ⟨_, rfl⟩
theorem step_keepE (w : World) {ops : Array Oper} {o : Oper} {a : Act} {K : Act → World → Prop} {Q : Exit → Act → World → Prop} {E : Prop} (hgd : o.guard = none) (s x : Operand)
    (ho : o.op = .call { callee := .builtin .append, args := #[s, x], argTypes := #[28, 28] })
    (B : Nat) (v : Value) (n : Nat) (hn : 0 < n) (l : List Qe) (hs : a.eval s = v) (hown : OwnE B w v n l)
    (xv : Value) (news : List Qe) (hx : a.eval x = xv) (hsrc : Qs w xv news)
    (hlen : n + news.length ≤ 1000000000) (hbase : B ≤ w.heap.size)
    (h : ∀ ao cap w', OwnE B w' (.slice ao (n + news.length) cap) (n + news.length) (l ++ news) → w.grownBy w' v.ownBlock → (∀ b ov vv, EqX w b ov vv → EqX w' b ov vv) → K (a.put o.dst (.slice ao (n + news.length) cap)) w') :
    if Region.wanted o (yielded ops a.tmps) = true then Oper.wp Try.prog o a w K Q else E := by
  have hw : Region.wanted o (yielded ops a.tmps) = true := by simp [Region.wanted, hgd]
  rw [if_pos hw]
  obtain ⟨ao, cap, w', hr, h2, h3, h4⟩ := run_keepE w o.type B v l n hn hown xv news hsrc hlen hbase
  unfold Oper.wp execOp
  simp only [ho, resolve, invoke, builtin, Sem.run_bind, Sem.run_pure, Result.andThen_ok, List.map_toArray, List.map_cons, List.map_nil, hs, hx, hr]
  exact h ao cap w' h2 h3 h4

/-- What is in a drawn region's slots. -/
def IsX1 (B : Nat) (x : Qe) : Value → World → Prop := fun v W => OwnE B W v 1 [x] ∧ ∃ g, v = .slice (some ⟨g, 0, none⟩) 1 1
theorem stays_x1 (B : Nat) (x : Qe) : Stays (IsX1 B x) := fun _ _ _ hb h => ⟨h.1.below hb, h.2⟩
def IsOwE (B n : Nat) (l : List Qe) : Value → World → Prop := fun v W => OwnE B W v n l
theorem stays_owe (B n : Nat) (l : List Qe) : Stays (IsOwE B n l) := fun _ _ _ hb h => OwnE.below h hb
def IsAdd (r : Bool) (L : List Int) (X : List UInt8) : Value → World → Prop := fun v W => ∃ ov vv, v = .tuple #[.agg #[ov, vv], .bool r] ∧ QeN W ⟨ov, vv, L, X⟩
theorem stays_add (r : Bool) (L : List Int) (X : List UInt8) : Stays (IsAdd r L X) := fun _ _ _ hb ⟨a, b, h1, h2⟩ => ⟨a, b, h1, h2.below hb⟩
def IsEqN (L : List Int) (X : List UInt8) : Value → World → Prop := fun v W => ∃ ov vv, v = .agg #[ov, vv] ∧ QeN W ⟨ov, vv, L, X⟩
theorem stays_eqn (L : List Int) (X : List UInt8) : Stays (IsEqN L X) := fun _ _ _ hb ⟨a, b, h1, h2⟩ => ⟨a, b, h1, h2.below hb⟩
def IsBx0 (B : Nat) : Value → World → Prop := fun v W => ∃ q, v = .pointer (some ⟨q, 0, none⟩) ∧ B ≤ q ∧ EqX W q (.slice none 0 0) (.slice none 0 0)
theorem stays_bx0 (B : Nat) : Stays (IsBx0 B) := fun _ _ _ hb ⟨q, h1, h2, h3⟩ => ⟨q, h1, h2, h3.below hb⟩
def IsBxE (L : List Int) (X : List UInt8) : Value → World → Prop := fun v W => ∃ q ov vv, v = .pointer (some ⟨q, 0, none⟩) ∧ EqX W q ov vv ∧ QeP W ⟨ov, vv, L, X⟩
theorem bx0_keep {B : Nat} {v : Value} {W W' : World} (h : IsBx0 B v W) (hk : ∀ b ov vv, EqX W b ov vv → EqX W' b ov vv) : IsBx0 B v W' := by
  obtain ⟨q, h1, h2, h3⟩ := h
  exact ⟨q, h1, h2, hk _ _ _ h3⟩
theorem add_set {r : Bool} {L : List Int} {X : List UInt8} {v : Value} {W : World} (h : IsAdd r L X v W) {b : Nat} {ov vv : Value} (hE : EqX W b ov vv) (u u' : Value) : IsAdd r L X v ((W.setCell ⟨b, 0, none⟩ u).setCell ⟨b, 1, none⟩ u') := by
  obtain ⟨x, y, h1, h2⟩ := h
  exact ⟨x, y, h1, (h2.set hE 0 u).set (hE.set0 u) 1 u'⟩
theorem eqn_set {L : List Int} {X : List UInt8} {v : Value} {W : World} (h : IsEqN L X v W) {b : Nat} {ov vv : Value} (hE : EqX W b ov vv) (u u' : Value) : IsEqN L X v ((W.setCell ⟨b, 0, none⟩ u).setCell ⟨b, 1, none⟩ u') := by
  obtain ⟨x, y, h1, h2⟩ := h
  exact ⟨x, y, h1, (h2.set hE 0 u).set (hE.set0 u) 1 u'⟩
theorem stays_bxe (L : List Int) (X : List UInt8) : Stays (IsBxE L X) := fun _ _ _ hb ⟨q, a, b, h1, h2, h3⟩ => ⟨q, a, b, h1, h2.below hb, h3.below hb⟩

end

section
/-
  Equations that hold of blocks, put upon each other, hold of them, too.
-/
open Go.RowKit
set_option linter.unusedVariables false

theorem xorAll_xorLQ (a b : List UInt8) (ls : List (List UInt8)) : xorAll (xorL a b) ls = xorL a (xorAll b ls) := by
  induction ls generalizing b with
  | nil => rfl
  | cons x ls ih =>
    show xorAll (xorL (xorL a b) x) ls = xorL a (xorAll (xorL b x) ls)
    rw [xorL_assoc]
    exact ih _
theorem xorAll_fromQ {n : Nat} {a : List UInt8} (h : a.length = n) (ls : List (List UInt8)) : xorAll a ls = xorL a (xorAll (zeros n) ls) := by
  rw [← xorAll_xorLQ, xorL_zeros_right h]
/-- A check block, and all that it is made of: nothing. -/
theorem sum_chk {n : Nat} {D : List (List UInt8)} {of : List Int} {x : List UInt8} (hok : OkOf n D of) (hx : chkD n D of = x) : fitB n (x :: pkD D of) = true ∧ xorAll (zeros n) (x :: pkD D of) = zeros n := by
  have hl : x.length = n := by rw [← hx]; exact chkD_length hok
  refine ⟨fitB_of (by intro y hy; rcases List.mem_cons.1 hy with rfl | hy; exact hl; exact pkD_fit hok y hy), ?_⟩
  rw [xorAll_first hl, xorAll_fromQ hl]
  have : xorAll (zeros n) (pkD D of) = x := hx
  rw [this, xorL_self, hl]
theorem pkD_next {D : List (List UInt8)} {of : List Int} {j m : Nat} {y : List UInt8} (hj : j < of.length) (hm : of[j] = (m : Int)) (hy : D[m]? = some y) : pkD D (of.take (j + 1)) = pkD D (of.take j) ++ [y] := by
  unfold pkD
  rw [List.take_succ_eq_append_getElem hj, List.map_append]
  simp [hm, List.getD, hy]

theorem chkD_append {n : Nat} {xs : List (List UInt8)} {a b : List Int} (ha : OkOf n xs a) : chkD n xs (a ++ b) = xorL (chkD n xs a) (chkD n xs b) := by
  unfold chkD
  have h1 : pkD xs (a ++ b) = pkD xs a ++ pkD xs b := by simp [pkD]
  rw [h1, xorAll_append]
  exact xorAll_fromQ (chkD_length ha) _
/-- An equation that is made of blocks. -/
def MadeOf (n : Nat) (xs : List (List UInt8)) (e : Qe) : Prop := OkOf n xs e.of ∧ e.va = chkD n xs e.of ∧ e.of.length ≤ 20
theorem made_fit {n : Nat} {xs : List (List UInt8)} {es : List Qe} (h : ∀ e ∈ es, MadeOf n xs e) : addB n es = true := by
  unfold addB
  refine fitB_of fun x hx => ?_
  obtain ⟨e, he, rfl⟩ := List.mem_map.1 hx
  rw [(h e he).2.1]
  exact chkD_length (h e he).1
theorem made_ok {n : Nat} {xs : List (List UInt8)} {es : List Qe} (h : ∀ e ∈ es, MadeOf n xs e) : OkOf n xs (ofsQ es) := by
  intro i hi
  obtain ⟨l, hl, hi⟩ := List.mem_flatten.1 hi
  obtain ⟨e, he, rfl⟩ := List.mem_map.1 hl
  exact (h e he).1 i hi
theorem made_sum {n : Nat} {xs : List (List UInt8)} : ∀ {es : List Qe}, (∀ e ∈ es, MadeOf n xs e) → xorAll (zeros n) (vasQ es) = chkD n xs (ofsQ es)
  | [], _ => rfl
  | e :: es, h => by
    have h1 := made_sum (es := es) (fun x hx => h x (List.mem_cons_of_mem _ hx))
    obtain ⟨h2, h3, -⟩ := h e (List.mem_cons_self ..)
    have h4 : ofsQ (e :: es) = e.of ++ ofsQ es := by simp [ofsQ]
    rw [h4, chkD_append h2, ← h1, ← h3]
    have h5 : e.va.length = n := by rw [h3]; exact chkD_length h2
    show xorAll (xorL (zeros n) e.va) (vasQ es) = _
    have h6 : xorL (zeros n) e.va = e.va := by rw [← h5]; exact xorL_zeros _
    rw [h6]
    exact xorAll_fromQ h5 _
theorem made_len {n : Nat} {xs : List (List UInt8)} : ∀ {es : List Qe}, (∀ e ∈ es, MadeOf n xs e) → (ofsQ es).length ≤ es.length * 20
  | [], _ => by simp [ofsQ]
  | e :: es, h => by
    have h1 := made_len (es := es) (fun x hx => h x (List.mem_cons_of_mem _ hx))
    obtain ⟨-, -, h3⟩ := h e (List.mem_cons_self ..)
    have h4 : ofsQ (e :: es) = e.of ++ ofsQ es := by simp [ofsQ]
    rw [h4, List.length_append, List.length_cons]
    omega
theorem made_holds {n : Nat} {xs : List (List UInt8)} {e : Qe} (h : MadeOf n xs e) : HoldsP e.of e.va xs := by
  have h1 : e.va.length = n := by rw [h.2.1]; exact chkD_length h.1
  rw [holds_iff, h1]
  exact ⟨h.1, h.2.1⟩
theorem odd_ok {n : Nat} {xs : List (List UInt8)} {of : List Int} (h : OkOf n xs of) : OkOf n xs (oddD of) := fun i hi => h i (mem_oddD hi)
theorem made_all {n : Nat} {xs : List (List UInt8)} {es : List Qe} (h : ∀ e ∈ es, MadeOf n xs e) : HoldsP (addL n es) (addX n es) xs := by
  have h0 := made_fit h
  have h1 : (addX n es).length = n := addX_length h0
  rw [holds_iff, h1]
  unfold addL addX
  rw [h0]
  refine ⟨odd_ok (made_ok h), ?_⟩
  show xorAll (zeros n) (vasQ es) = chkD n xs (oddD (ofsQ es))
  rw [made_sum h]
  unfold chkD
  rw [xor_odd (zeros_length n) (made_ok h)]
theorem twiceL {n : Nat} {e : Qe} (h : e.va.length = n) : addB n [e, e] = true ∧ addL n [e, e] = [] ∧ addX n [e, e] = zeros n := by
  have h1 : addB n [e, e] = true := by
    unfold addB
    refine fitB_of fun x hx => ?_
    have : x = e.va := by simpa [vasQ] using hx
    rw [this]
    exact h
  have h2 : ofsQ [e, e] = e.of ++ e.of := by simp [ofsQ]
  refine ⟨h1, ?_, ?_⟩
  · unfold addL
    rw [h1, h2, oddD_both]
    rfl
  · unfold addX
    rw [h1]
    show xorL (xorL (zeros n) e.va) e.va = zeros n
    exact xorL_twice (by rw [zeros_length]; exact h)

/-- Those of some numbers that are numbers of blocks. -/
def inZ (M : Nat) (of : List Int) : List Int := of.filter fun x => decide (0 ≤ x) && decide (x < (M : Int))
theorem inZ_take {M : Nat} {of : List Int} {i : Nat} {z : Int} (h : of[i]? = some z) : inZ M (of.take (i + 1)) = inZ M (of.take i) ++ (if 0 ≤ z ∧ z < (M : Int) then [z] else []) := by
  obtain ⟨hi, e⟩ := List.getElem?_eq_some_iff.1 h
  unfold inZ
  rw [List.take_succ_eq_append_getElem hi, List.filter_append, e]
  by_cases hz : 0 ≤ z ∧ z < (M : Int)
  · simp [hz]
  · rw [if_neg hz]
    have : (decide (0 ≤ z) && decide (z < (M : Int))) = false := by
      rw [Bool.and_eq_false_iff]
      by_cases h0 : 0 ≤ z
      · right; simpa using fun h => hz ⟨h0, h⟩
      · left; simpa using h0
    simp [this]
theorem inZ_le (M : Nat) (of : List Int) (i : Nat) : (inZ M (of.take i)).length ≤ i := by
  unfold inZ
  have h1 := List.length_filter_le (fun x => decide (0 ≤ x) && decide (x < (M : Int))) (of.take i)
  have h2 := List.length_take_le i of
  omega
theorem inZ_mem {M : Nat} {of : List Int} {z : Int} (h : z ∈ inZ M of) : 0 ≤ z ∧ z < (M : Int) := by
  have := (List.mem_filter.1 h).2
  simpa using this
theorem inZ_ok {n M : Nat} {xs : List (List UInt8)} (hM : xs.length = M) (hn : ∀ x ∈ xs, x.length = n) (of : List Int) : OkOf n xs (inZ M of) := by
  intro z hz
  obtain ⟨h0, h1⟩ := inZ_mem hz
  obtain ⟨k, rfl⟩ := Int.eq_ofNat_of_zero_le h0
  have hk : k < xs.length := by omega
  exact ⟨k, xs[k], rfl, List.getElem?_eq_getElem hk, hn _ (List.getElem_mem hk)⟩

/-- Values that are blocks of their own. -/
def PartsB (B : Nat) (W : World) (us : List Value) (xs : List (List UInt8)) : Prop := us.length = xs.length ∧ ∀ (j : Nat) (u : Value) (x : List UInt8), us[j]? = some u → xs[j]? = some x → ∃ q, u = .slice (some ⟨q, 0, none⟩) x.length x.length ∧ Blk W q [] x [] ∧ x.length ≤ 1000 ∧ B ≤ q
theorem PartsB.kept {B : Nat} {W W' : World} {us : List Value} {xs : List (List UInt8)} (h : PartsB B W us xs) (hk : ∀ q x, Blk W q [] x [] → W'.heap[q]? = W.heap[q]?) : PartsB B W' us xs := by
  refine ⟨h.1, fun j u x hu hx => ?_⟩
  obtain ⟨q, h1, h2, h3, h4⟩ := h.2 j u x hu hx
  exact ⟨q, h1, h2.kept (hk q x h2), h3, h4⟩
theorem PartsB.below {B : Nat} {W W' : World} {us : List Value} {xs : List (List UInt8)} (h : PartsB B W us xs) (hb : Below W.heap.size W W') : PartsB B W' us xs := h.kept fun q x hB => hb.block q hB.lt
theorem PartsB.grownR {B B1 n : Nat} {w w' : World} {v : Value} {vs us : List Value} {xs : List (List UInt8)} (h : PartsB B w us xs) (ho : w.ownsRow B1 38 1 v n vs) (hg : w.grownBy w' v.ownBlock) : PartsB B w' us xs := h.kept fun q x hB => grown_kindR ho hg hB (by decide)
theorem PartsB.parts {B : Nat} {W : World} {us : List Value} {xs : List (List UInt8)} (h : PartsB B W us xs) : Parts W us xs := by
  refine ⟨h.1, fun j u x hu hx => ?_⟩
  obtain ⟨q, rfl, h2, h3, -⟩ := h.2 j u x hu hx
  exact h2.bs0 _ _ rfl (Nat.le_refl _) (by unfold maxLen; omega)
theorem PartsB.nil (B : Nat) (W : World) : PartsB B W [] [] := ⟨rfl, fun j u x hu => by simp at hu⟩
theorem PartsB.snoc {B : Nat} {W : World} {us : List Value} {xs : List (List UInt8)} (h : PartsB B W us xs) {q : Nat} {x : List UInt8} (hx : Blk W q [] x []) (hl : x.length ≤ 1000) (hq : B ≤ q) : PartsB B W (us ++ [.slice (some ⟨q, 0, none⟩) x.length x.length]) (xs ++ [x]) := by
  refine ⟨by rw [List.length_append, List.length_append, h.1]; rfl, fun j u y hu hy => ?_⟩
  by_cases hj : j < us.length
  · rw [List.getElem?_append_left hj] at hu
    rw [List.getElem?_append_left (by rw [← h.1]; exact hj)] at hy
    exact h.2 j u y hu hy
  · have hj' : j = us.length := by
      have := (List.getElem?_eq_some_iff.1 hu).1
      rw [List.length_append, List.length_singleton] at this
      omega
    subst hj'
    rw [List.getElem?_append_right (Nat.le_refl _)] at hu
    rw [List.getElem?_append_right (by rw [← h.1]; exact Nat.le_refl _), h.1] at hy
    simp at hu hy
    subst hu
    subst hy
    exact ⟨q, rfl, hx, hl, hq⟩

theorem grown_kindE {B n : Nat} {w w' : World} {v : Value} {l : List Qe} (ho : OwnE B w v n l) (hg : w.grownBy w' v.ownBlock) {q : Nat} {cs : Array Value} {t : TypeId} {fr : Nat × Nat} (hq : w.heap[q]? = some (.cells cs t fr)) (ht : t ≠ 43) : w'.heap[q]? = w.heap[q]? := by
  have hlt : q < w.heap.size := (Array.getElem?_eq_some_iff.1 hq).1
  refine hg.block q hlt (fun e => ?_)
  obtain ⟨c1, e1⟩ := owns_type' ho q e.symm
  rw [e1] at hq
  injection hq with hq
  injection hq with _ h2 _
  exact ht h2.symm
theorem sl_keptBlock {size n : Nat} {W W' : World} {v : Value} {cs : List Value} (h : Sl size W v n cs) (hk : ∀ q, v.ownBlock = some q → W'.heap[q]? = W.heap[q]?) : Sl size W' v n cs := by
  obtain ⟨h1, ao, cap, rfl, h2, h3, h4, h5⟩ := h
  refine ⟨h1, ao, cap, rfl, h2, h3, h4, ?_⟩
  rcases h5 with h5 | ⟨b', off, rfl, hc⟩
  · exact .inl h5
  · refine .inr ⟨b', off, rfl, fun k x hx => ?_⟩
    rw [World.cell?_of_block (w := W) (hk b' rfl)]
    exact hc k x hx
theorem QeN.grownE {B n : Nat} {w w' : World} {v : Value} {l : List Qe} {e : Qe} (h : QeN w e) (ho : OwnE B w v n l) (hg : w.grownBy w' v.ownBlock) : QeN w' e := by
  obtain ⟨⟨h1, h2⟩, h3, h4⟩ := h
  have k1 : ∀ q, e.ov.ownBlock = some q → w'.heap[q]? = w.heap[q]? := fun q hq => by
    obtain ⟨cs, t, fz, a1, a2⟩ := h3 q hq
    exact grown_kindE ho hg a1 a2
  have k2 : ∀ q, e.vv.ownBlock = some q → w'.heap[q]? = w.heap[q]? := fun q hq => by
    obtain ⟨cs, t, fz, a1, a2⟩ := h4 q hq
    exact grown_kindE ho hg a1 a2
  refine ⟨⟨sl_keptBlock h1 k1, sl_keptBlock h2 k2⟩, fun q hq => ?_, fun q hq => ?_⟩
  · obtain ⟨cs, t, fz, a1, a2⟩ := h3 q hq
    exact ⟨cs, t, fz, (k1 q hq).trans a1, a2⟩
  · obtain ⟨cs, t, fz, a1, a2⟩ := h4 q hq
    exact ⟨cs, t, fz, (k2 q hq).trans a1, a2⟩

end

end Go.Proofs.Ytkckbeekehecnaa
