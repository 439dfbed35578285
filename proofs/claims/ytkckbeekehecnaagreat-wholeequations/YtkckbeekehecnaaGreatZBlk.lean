/-
  Texts that lie together: BlkR BlkS CoM.
-/
import Derived.Test.YtkckbeekehecnaaGreatZBase
import Derived.RegionTactic
namespace Go.Proofs.YtkckbeekehecnaaGreat

section
/-
  The walks of the document's own answers for block: Fits, Sum, Zero; and of the statements' first look.
-/
open Go.RowKit
set_option linter.unusedVariables false

/-- One byte of the sum of the first blocks. -/
def byteOf (ls : List (List UInt8)) (k : Nat) : UInt8 := ls.foldl (fun a x => a ^^^ x.getD k 0) 0

/-- The sum, its first k bytes, and j blocks of the next. -/
def sumTo (n : Nat) (ls : List (List UInt8)) (k j : Nat) : List UInt8 := (List.range n).map fun i => if i < k then byteOf ls i else if i = k then byteOf (ls.take j) i else 0

theorem sumTo_length (n : Nat) (ls : List (List UInt8)) (k j : Nat) : (sumTo n ls k j).length = n := by simp [sumTo]
theorem sumTo_start (n : Nat) (ls : List (List UInt8)) : sumTo n ls 0 0 = zeros n := by
  apply List.ext_getElem
  · simp [sumTo, zeros]
  · intro i h1 h2
    simp only [sumTo, List.getElem_map, List.getElem_range, zeros, List.getElem_replicate]
    by_cases h : i = 0 <;> simp [h, byteOf]
theorem sumTo_end (n : Nat) (ls : List (List UInt8)) (k j : Nat) (hj : ls.length ≤ j) : sumTo n ls k j = sumTo n ls (k + 1) 0 := by
  unfold sumTo
  apply List.map_congr_left
  intro i hi
  by_cases h1 : i < k
  · simp [h1, show i < k + 1 by omega]
  · by_cases h2 : i = k
    · subst h2
      simp [List.take_of_length_le hj]
    · simp only [h1, h2, if_false, show ¬ i < k + 1 by omega]
      by_cases h3 : i = k + 1 <;> simp [h3, byteOf]
theorem sumTo_at (n : Nat) (ls : List (List UInt8)) (k j : Nat) (hk : k < n) : (sumTo n ls k j)[k]? = some (byteOf (ls.take j) k) := by
  simp [sumTo, hk]
theorem sumTo_next (n : Nat) (ls : List (List UInt8)) (k j : Nat) (hj : j < ls.length) : (sumTo n ls k j).set k (byteOf (ls.take j) k ^^^ ls[j].getD k 0) = sumTo n ls k (j + 1) := by
  apply List.ext_getElem
  · simp [sumTo]
  · intro i h1 h2
    rw [List.getElem_set]
    by_cases h : k = i
    · subst h
      simp only [if_true, sumTo, List.getElem_map, List.getElem_range, Nat.lt_irrefl, if_false]
      rw [List.take_succ_eq_append_getElem hj, byteOf, byteOf, List.foldl_append]
      rfl
    · simp [sumTo, h, show ¬ i = k from fun e => h e.symm]
theorem sumTo_all (n : Nat) (ls : List (List UInt8)) (k : Nat) (hk : n ≤ k) (hf : fitB n ls = true) : sumTo n ls k 0 = xorAll (zeros n) ls := by
  have hf' : ∀ x ∈ ls, x.length = (zeros n).length := fun x hx => by rw [zeros_length]; exact fitB_mem hf hx
  apply ext_getD
  · rw [sumTo_length, xorAll_length hf', zeros_length]
  · intro i hi
    rw [sumTo_length] at hi
    rw [getD_xorAll hf' i (by rw [zeros_length]; exact hi), getD_zeros]
    simp [sumTo, List.getD, hi, show i < k by omega, byteOf]

end

section
/-
  One block put upon another one; the walks of the block statements' first look, and of 'big'.
-/
open Go.RowKit
set_option linter.unusedVariables false

/-- A row of one. -/
theorem Sl.one {w : World} {p : Nat} {v : Value} (hc : w.cell? ⟨p, 0, none⟩ = some v) : Sl 1 w (.slice (some ⟨p, 0, none⟩) 1 1) [v].length [v] := by
  refine ⟨rfl, _, _, rfl, Nat.le_refl _, by simp [maxLen], fun h => by simp at h, .inr ⟨_, _, rfl, ?_⟩⟩
  intro j u hj
  have : j = 0 := by have := (List.getElem?_eq_some_iff.1 hj).1; simp at this; omega
  subst this
  simp at hj
  subst hj
  exact hc

theorem off_mem1 {q : Nat} {v : Value} (h : Off q v) : ∀ u ∈ [v], Off q u := by
  intro u hu
  simp at hu
  subst hu
  exact h

theorem fit_one {n : Nat} {b : List UInt8} (h : b.length = n) : fitB n [b] = true := by simp [fitB, h]
theorem fit_one_no {n : Nat} {b : List UInt8} (h : b.length ≠ n) : fitB n [b] = false := by simp [fitB, h]

/-- One block, as long, that lies in a row of one. -/
theorem xor_one (q cap p : Nat) (pre post : List Value) (l b : List UInt8) (vb : Value) (w : World) (hB : Blk w q pre l post) (hc : l.length ≤ cap) (hm : cap ≤ maxLen)
    (hp : w.cell? ⟨p, 0, none⟩ = some vb) (hb : Bs w vb b) (hpq : p ≠ q) (ho : Off q vb) (hlen : b.length = l.length) (n off : Nat) (hn : n = l.length) (hoff : off = pre.length) :
    Calls Tryz.prog 34 #[.slice (some ⟨q, off, none⟩) n cap, .slice (some ⟨p, 0, none⟩) 1 1] w fun e w' => e = .returned (.bool true) ∧ Blk w' q pre (xorL l b) post ∧ w.grownBy w' (some q) ∧ w'.heap.size = w.heap.size := by
  subst hn; subst hoff
  exact xor_yes q cap pre post l _ [vb] [b] w hB hc hm (Sl.one hp) (parts_one hb) (off_at hpq) (off_mem1 ho) (fit_one hlen)

/-- One block, as long, whose row was just laid. -/
theorem xor_top (q cap : Nat) (pre post : List Value) (l b : List UInt8) (vb : Value) (w : World) (hB : Blk w q pre l post) (hc : l.length ≤ cap) (hm : cap ≤ maxLen)
    (hb : Bs w vb b) (ho : Off q vb) (hlen : b.length = l.length) (n off r : Nat) (hn : n = l.length) (hoff : off = pre.length) (hr : r = w.heap.size) :
    Calls Tryz.prog 34 #[.slice (some ⟨q, off, none⟩) n cap, .slice (some ⟨r, 0, none⟩) 1 1] (w.alloc (.cells #[vb] 25)) fun e w' => e = .returned (.bool true) ∧ Blk w' q pre (xorL l b) post ∧ w.grownBy w' (some q) ∧ w'.heap.size = w.heap.size + 1 := by
  subst hr
  have hlt := hB.lt
  refine (xor_one q cap w.heap.size pre post l b vb _ (hB.below (below_alloc _ _)) hc hm (by rw [World.cell?_alloc_new]; rfl) (hb.below (below_alloc _ _)) (by omega) ho hlen n off hn hoff).mono ?_
  rintro e w' ⟨rfl, h1, h2, h3⟩
  exact ⟨rfl, h1, (World.grownBy_alloc _ _ _).trans h2, by rw [h3]; simp⟩

/-- Xor of one that isn't as long, whose row was just laid. -/
theorem xor_top_no (a0 : Option Addr) (n cap : Nat) (b : List UInt8) (vb : Value) (w : World) (hb : Bs w vb b) (hlen : b.length ≠ n) (r : Nat) (hr : r = w.heap.size) :
    Calls Tryz.prog 34 #[.slice a0 n cap, .slice (some ⟨r, 0, none⟩) 1 1] (w.alloc (.cells #[vb] 25)) fun e w' => e = .returned (.bool false) ∧ Below w.heap.size w w' := by
  subst hr
  refine (xor_no a0 n cap _ [vb] [b] _ (Sl.one (by rw [World.cell?_alloc_new]; rfl)) (parts_one (hb.below (below_alloc _ _))) (fit_one_no hlen)).mono ?_
  rintro e w' ⟨rfl, rfl⟩
  exact ⟨rfl, below_alloc _ _⟩


end

section
/-
  compose: which blocks are put upon each other, and what that is: mathematics.
-/
open Go.RowKit
set_option linter.unusedVariables false

/-- Blocks by their numbers. -/
def pkD (ls : List (List UInt8)) (of : List Int) : List (List UInt8) := of.map fun i => ls.getD i.toNat []
/-- They, put upon each other. -/
def chkD (n : Nat) (ls : List (List UInt8)) (of : List Int) : List UInt8 := xorAll (zeros n) (pkD ls of)
/-- There is such a block, and it is as long. -/
def OkAt (n : Nat) (ls : List (List UInt8)) (i : Int) : Prop := ∃ (k : Nat) (x : List UInt8), i = (k : Int) ∧ ls[k]? = some x ∧ x.length = n
def OkOf (n : Nat) (ls : List (List UInt8)) (of : List Int) : Prop := ∀ i ∈ of, OkAt n ls i

theorem pkD_length (ls : List (List UInt8)) (of : List Int) : (pkD ls of).length = of.length := by simp [pkD]
theorem pkD_fit {n : Nat} {ls : List (List UInt8)} {of : List Int} (h : OkOf n ls of) : ∀ x ∈ pkD ls of, x.length = n := by
  intro x hx
  obtain ⟨i, hi, rfl⟩ := List.mem_map.1 hx
  obtain ⟨k, y, rfl, hy, hl⟩ := h i hi
  simp [List.getD, hy, hl]
theorem pkD_fitB {n : Nat} {ls : List (List UInt8)} {of : List Int} (h : OkOf n ls of) : fitB n (pkD ls of) = true := fitB_of (pkD_fit h)
theorem chkD_length {n : Nat} {ls : List (List UInt8)} {of : List Int} (h : OkOf n ls of) : (chkD n ls of).length = n := by
  unfold chkD
  rw [xorAll_length (by rw [zeros_length]; exact pkD_fit h), zeros_length]
theorem chkD_nil (n : Nat) (ls : List (List UInt8)) : chkD n ls [] = zeros n := rfl
theorem chkD_next {n : Nat} {ls : List (List UInt8)} {of : List Int} {i k : Nat} {x : List UInt8} (hi : i < of.length) (hk : of[i] = (k : Int)) (hx : ls[k]? = some x) : chkD n ls (of.take (i + 1)) = xorL (chkD n ls (of.take i)) x := by
  unfold chkD pkD
  rw [List.take_succ_eq_append_getElem hi, List.map_append, xorAll_append]
  simp [xorAll, hk, List.getD, hx]
theorem OkOf.take {n : Nat} {ls : List (List UInt8)} {of : List Int} (h : OkOf n ls of) (k : Nat) : OkOf n ls (of.take k) := fun i hi => h i (List.mem_of_mem_take hi)
theorem pkD_append {ls ms : List (List UInt8)} {of : List Int} (h : ∀ i ∈ of, 0 ≤ i ∧ i < (ls.length : Int)) : pkD (ls ++ ms) of = pkD ls of := by
  unfold pkD
  refine List.map_congr_left fun i hi => ?_
  have := h i hi
  simp only [List.getD]
  rw [List.getElem?_append_left (by omega)]
theorem okOf_append {n : Nat} {ls ms : List (List UInt8)} {of : List Int} (h : OkOf n ls of) : OkOf n (ls ++ ms) of := by
  intro i hi
  obtain ⟨k, x, rfl, hx, hl⟩ := h i hi
  exact ⟨k, x, rfl, by rw [List.getElem?_append_left (List.getElem?_eq_some_iff.1 hx).1]; exact hx, hl⟩
theorem okOf_below {n : Nat} {ls : List (List UInt8)} {of : List Int} (hl : ∀ x ∈ ls, x.length = n) (h : ∀ i ∈ of, 0 ≤ i ∧ i < (ls.length : Int)) : OkOf n ls of := by
  intro i hi
  have h1 := h i hi
  have h2 : i.toNat < ls.length := by omega
  exact ⟨i.toNat, ls[i.toNat], by omega, List.getElem?_eq_getElem h2, hl _ (List.getElem_mem h2)⟩

/-- The first that can't be, if there is one. -/
theorem first_bad {n : Nat} {ls : List (List UInt8)} : ∀ {of : List Int}, ¬ OkOf n ls of → ∃ (j : Nat) (hj : j < of.length), OkOf n ls (of.take j) ∧ ¬ OkAt n ls of[j]
  | [], h => absurd (fun i hi => by simp at hi) h
  | i :: r, h => by
    by_cases hi : OkAt n ls i
    · have : ¬ OkOf n ls r := fun hr => h (by
        intro k hk
        rcases List.mem_cons.1 hk with rfl | hk
        · exact hi
        · exact hr k hk)
      obtain ⟨j, hj, h1, h2⟩ := first_bad this
      refine ⟨j + 1, by simp; omega, ?_, by simpa using h2⟩
      intro k hk
      rw [List.take_succ_cons] at hk
      rcases List.mem_cons.1 hk with rfl | hk
      · exact hi
      · exact h1 k hk
    · exact ⟨0, by simp, fun k hk => by simp at hk, by simpa using hi⟩

end

end Go.Proofs.YtkckbeekehecnaaGreat
