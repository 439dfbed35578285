/-
  The walks of package wire, first part: sizeMayBe, fresh, the Reader.
-/
import Derived.Test.YtecohgmllmddhaaCSeal
import Derived.Test.YtecohgmllmddhaaLApp
namespace Go.Proofs.Ytecohgmllmddhaa
open Go.RowKit
set_option linter.unusedVariables false

/-- A row of bytes at the head of block q, which may be written. -/
def Own (w : World) (q : Nat) (l : List UInt8) : Prop :=
  ∃ cur : Array Value, w.heap[q]? = some (.cells cur 5 (0, 0)) ∧ l.length ≤ cur.size ∧ cur.toList.take l.length = l.map bv

theorem Own.cell {w : World} {q : Nat} {l : List UInt8} (h : Own w q l) (j : Nat) (u : Value) (hj : (l.map bv)[j]? = some u) : w.cell? ⟨q, j, none⟩ = some u := by
  obtain ⟨cur, hh, hl, ht⟩ := h
  have hjl : j < l.length := by have := (List.getElem?_eq_some_iff.1 hj).1; simpa using this
  rw [cell_of_row w q j cur 5 (0, 0) hh]
  rw [← ht, List.getElem?_take, if_pos hjl] at hj
  simpa using hj

theorem Own.frozen {w : World} {q : Nat} {l : List UInt8} (h : Own w q l) (j : Nat) : w.frozen? ⟨q, j, none⟩ = false := by
  obtain ⟨cur, hh, _, _⟩ := h
  exact frozen_of_row w q j cur 5 hh

theorem Own.bs {w : World} {q : Nat} {l : List UInt8} (h : Own w q l) (hl : l.length ≤ 1000000) : Bs w (.slice (some ⟨q, 0, none⟩) l.length l.length) l := by
  refine ⟨by simp, _, _, rfl, Nat.le_refl _, by unfold maxLen; omega, fun h => by simp at h, .inr ⟨q, 0, rfl, ?_⟩⟩
  intro j u hj
  rw [Nat.zero_add]
  exact h.cell j u hj

theorem Own.kept {w w' : World} {q : Nat} {l : List UInt8} (h : Own w q l) (hk : w'.heap[q]? = w.heap[q]?) : Own w' q l := by
  obtain ⟨cur, hh, hl, ht⟩ := h
  exact ⟨cur, by rw [hk]; exact hh, hl, ht⟩

theorem Own.lt {w : World} {q : Nat} {l : List UInt8} (h : Own w q l) : q < w.heap.size := by
  obtain ⟨cur, hh, _, _⟩ := h
  exact (Array.getElem?_eq_some_iff.1 hh).1

theorem owned_own {w : World} {base q n cap : Nat} {l : List UInt8} (h : w.ownsRow base 5 1 (.slice (some ⟨q, 0, none⟩) n cap) n (l.map bv)) (hn : n = l.length) : Own w q l := by
  rcases h.2 with ⟨h', _⟩ | ⟨g, cap', cur, hv, _, hh, hnc, _, hcs, ht⟩
  · simp at h'
  · simp only [Value.slice.injEq, Option.some.injEq, Addr.mk.injEq, and_true, true_and] at hv
    obtain ⟨rfl, rfl⟩ := hv
    subst hn
    exact ⟨cur, hh, by omega, by simpa using ht⟩

set_option maxHeartbeats 400000 in
/-- sizeMayBe. -/
theorem size_any (s : Int) (w : World) : Calls Try.prog 68 #[.int .i64 s] w fun e w' => e = .returned (.bool (decide (1 ≤ s ∧ s ≤ 8))) ∧ w' = w := by
  by_cases h1 : 1 ≤ s
  · by_cases h2 : s ≤ 8
    · have hd : decide (1 ≤ s ∧ s ≤ 8) = true := by simp [h1, h2]
      rw [hd]
      go_enter Try.func68, Try.ntmps68
      go_wp2
      go_ret
      exact ⟨rfl, rfl⟩
    · have hd : decide (1 ≤ s ∧ s ≤ 8) = false := by simp [h2]
      rw [hd]
      go_enter Try.func68, Try.ntmps68
      go_wp2
      go_ret
      exact ⟨rfl, rfl⟩
  · have hd : decide (1 ≤ s ∧ s ≤ 8) = false := by simp [h1]
    rw [hd]
    go_enter Try.func68, Try.ntmps68
    go_wp2
    go_ret
    exact ⟨rfl, rfl⟩

set_option maxRecDepth 100000 in
set_option maxHeartbeats 1000000 in
/-- fresh: the same bytes as new memory. -/
theorem fresh_any (v : Value) (l : List UInt8) (w : World) (hl : Bs w v l) (hl2 : l.length ≤ 1000000) :
    Calls Try.prog 66 #[v] w fun e w' => ∃ q, e = .returned (.slice (some ⟨q, 0, none⟩) l.length l.length) ∧ w.heap.size ≤ q ∧ Own w' q l ∧ Below w.heap.size w w' := by
  obtain ⟨i0, hi, hz0, hz1, hz2⟩ := info_parts Try.info5
  have hB := hl
  obtain ⟨hll, ao, cap0, rfl, hnc, hcm, hn0, hcells⟩ := hl
  clear hcells hll
  unfold maxLen at hcm
  have hb0 : Below w.heap.size w (w.alloc (Obj.cells #[] 5)) := (Below.refl _ _).alloc (Nat.le_refl _) _
  have hO : (w.alloc (.cells #[] 5)).ownsRow w.heap.size 5 1 (.slice (some ⟨w.heap.size, 0, none⟩) 0 0) 0 [] := World.ownsRow_lit w #[] 0 (Nat.le_refl _) (by simp [maxLen]) rfl
  have HB : Hid (Bs (w.alloc (.cells #[] 5)) (.slice ao l.length cap0) l) := hB.below hb0
  have X0 : Hid (Below w.heap.size w (w.alloc (Obj.cells #[] 5))) := hb0
  clear hb0 hB
  go_enter Try.func66, Try.ntmps66
  go_wp2_with (at_builtin; refine wpList_app _ rfl (.tmp 4) (.tmp 5) 27 rfl w.heap.size 5 i0 (.int .u8 0) 1 1 Try.underlying27 hi hz0 hz1 hz2 rfl (by decide) _ _ _ rfl hO _ _ _ rfl HB.out (bv_oneCell _) (by unfold maxLen; omega) (by omega) (by simp) ?_; intro a1 c1 w3 ho hgrow hat hne hnc1 hcm1; simp only [Nat.zero_add, List.nil_append] at ho hat hnc1; unfold maxLen at hcm1)
  go_ret
  cases a1 with
  | none => have h' := hne rfl; injection h' with h' _ _; cases h'
  | some ad =>
    have h0 := ho
    rcases h0.2 with ⟨h', _⟩ | ⟨g, cap', cur, hv, hb, _⟩
    · simp at h'
    · injection hv with e1 _ _
      obtain rfl := Option.some.inj e1
      refine ⟨g, rfl, hb, owned_own ho rfl, X0.out.grown hgrow (by simp) (fun k hk => (hO.lt k hk).1)⟩

/-- Bytes that lie in block q from 'off' on. -/
def Row (w : World) (q off : Nat) (l : List UInt8) : Prop := ∀ j u, (l.map bv)[j]? = some u → w.cell? ⟨q, off + j, none⟩ = some u

theorem Row.kept {w w' : World} {q off : Nat} {l : List UInt8} (h : Row w q off l) (hq : w'.heap[q]? = w.heap[q]?) : Row w' q off l :=
  fun j u hj => (World.cell?_of_block (a := ⟨q, off + j, none⟩) hq).trans (h j u hj)

theorem Row.drop {w : World} {q off : Nat} {l : List UInt8} (h : Row w q off l) (n : Nat) : Row w q (off + n) (l.drop n) := by
  intro j u hj
  rw [List.map_drop, List.getElem?_drop] at hj
  rw [Nat.add_assoc]
  exact h (n + j) u hj

theorem Row.take {w : World} {q off : Nat} {l : List UInt8} (h : Row w q off l) (n : Nat) : Row w q off (l.take n) := by
  intro j u hj
  have hjn : j < n := by have := (List.getElem?_eq_some_iff.1 hj).1; simp at this; omega
  rw [List.map_take, List.getElem?_take, if_pos hjn] at hj
  exact h j u hj

theorem Row.bs {w : World} {q off : Nat} {l : List UInt8} (h : Row w q off l) (n cap : Nat) (hn : n = l.length) (hc : n ≤ cap) (hm : cap ≤ 1000000) : Bs w (.slice (some ⟨q, off, none⟩) n cap) l := by
  subst hn
  exact ⟨by simp, _, _, rfl, hc, by unfold maxLen; omega, fun h => by simp at h, .inr ⟨q, off, rfl, h⟩⟩

/-- A Reader at block r: what is unread lies in block q. -/
def IsRd (w : World) (r q : Nat) (l : List UInt8) : Prop :=
  q ≠ r ∧ w.frozen? ⟨r, 0, none⟩ = false ∧ l.length ≤ 1000000 ∧ ∃ off, w.cell? ⟨r, 0, none⟩ = some (.slice (some ⟨q, off, none⟩) l.length l.length) ∧ Row w q off l

theorem IsRd.kept {w w' : World} {r q : Nat} {l : List UInt8} (h : IsRd w r q l) (hr : w'.heap[r]? = w.heap[r]?) (hq : w'.heap[q]? = w.heap[q]?) : IsRd w' r q l := by
  obtain ⟨h1, h2, h3, off, h4, h5⟩ := h
  exact ⟨h1, (World.frozen?_of_block (a := ⟨r, 0, none⟩) hr).trans h2, h3, off, (World.cell?_of_block (a := ⟨r, 0, none⟩) hr).trans h4, h5.kept hq⟩

theorem IsRd.lt {w : World} {r q : Nat} {l : List UInt8} (h : IsRd w r q l) : r < w.heap.size := by
  obtain ⟨h1, h2, h3, off, h4, h5⟩ := h
  exact cell_block_lt h4

/-- What the Reader is behind 'next'. -/
theorem rd_step {w : World} {r q off off' n : Nat} {l : List UInt8} (h1 : q ≠ r) (h2 : w.frozen? ⟨r, 0, none⟩ = false) (h3 : l.length ≤ 1000000) (h4 : w.cell? ⟨r, 0, none⟩ = some (.slice (some ⟨q, off, none⟩) l.length l.length)) (h5 : Row w q off l)
    (ho : off' = off + n ∨ l.length = n) (u : Value) (hu : u = .slice (some ⟨q, off', none⟩) (l.length - n) (l.length - n)) :
    IsRd (w.setCell ⟨r, 0, none⟩ u) r q (l.drop n) ∧ Row (w.setCell ⟨r, 0, none⟩ u) q off l ∧ w.grownBy (w.setCell ⟨r, 0, none⟩ u) (some r) ∧ (w.setCell ⟨r, 0, none⟩ u).heap.size = w.heap.size := by
  have hq : (w.setCell ⟨r, 0, none⟩ u).heap[q]? = w.heap[q]? := Below.heap_setCell w ⟨r, 0, none⟩ u q h1
  refine ⟨⟨h1, ?_, by simp; omega, off', ?_, ?_⟩, h5.kept hq, grown_setCell w r 0 u, by simp [World.setCell]⟩
  · simpa using h2
  · rw [World.cell?_setCell_same w _ _ h4, hu]
    simp
  · rcases ho with ho | ho
    · rw [ho]
      exact (h5.kept hq).drop n
    · intro j v hj
      have := (List.getElem?_eq_some_iff.1 hj).1
      simp at this
      omega

set_option maxRecDepth 100000 in
set_option maxHeartbeats 1000000 in
/-- next, refused. -/
theorem next_no (r q : Nat) (l : List UInt8) (n : Int) (w : World) (h : IsRd w r q l) (hn : n < 0 ∨ (l.length : Int) < n) :
    Calls Try.prog 69 #[.pointer (some ⟨r, 0, none⟩), .int .i64 n] w fun e w' => e = .returned (.tuple #[.slice none 0 0, .bool false]) ∧ w' = w := by
  obtain ⟨h1, h2, h3, off, h4, h5⟩ := h
  clear h5
  rcases hn with hn | hn
  · go_enter Try.func69, Try.ntmps69
    go_wp2
    go_ret2
    exact ⟨rfl, rfl⟩
  · have hn' : ¬ n < 0 := by omega
    go_enter Try.func69, Try.ntmps69
    go_wp2
    go_ret2
    exact ⟨rfl, rfl⟩

set_option maxRecDepth 100000 in
set_option maxHeartbeats 1000000 in
/-- next: the front is handed out, the rest stays. -/
theorem next_yes (r q : Nat) (l : List UInt8) (n : Nat) (w : World) (h : IsRd w r q l) (hn : n ≤ l.length) :
    Calls Try.prog 69 #[.pointer (some ⟨r, 0, none⟩), .int .i64 n] w fun e w' => ∃ off, e = .returned (.tuple #[.slice (some ⟨q, off, none⟩) n l.length, .bool true]) ∧
      IsRd w' r q (l.drop n) ∧ Row w' q off l ∧ w.grownBy w' (some r) ∧ w'.heap.size = w.heap.size := by
  obtain ⟨h1, h2, h3, off, h4, h5⟩ := h
  have HC : Hid (Row w q off l) := h5
  clear h5
  go_enter Try.func69, Try.ntmps69
  go_wp2
  · have e : l.length = n := by assumption
    go_ret2
    exact ⟨off, rfl, rd_step h1 h2 h3 h4 HC.out (off' := off) (.inr e) _ (by simp [e])⟩
  · go_ret2
    exact ⟨off, rfl, rd_step h1 h2 h3 h4 HC.out (.inl rfl) _ rfl⟩

end Go.Proofs.Ytecohgmllmddhaa
