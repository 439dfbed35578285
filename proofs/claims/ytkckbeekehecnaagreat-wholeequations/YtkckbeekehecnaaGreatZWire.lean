/-
  Texts that lie together: WireA WireB WireC WireM WireD WireS CRefB.
-/
import Derived.Test.YtkckbeekehecnaaGreatZCrc
import Derived.Test.YtkckbeekehecnaaGreatZBase
import Derived.Deep.RegionHeld3
import Derived.Deep.AppendLies
namespace Go.Proofs.YtkckbeekehecnaaGreat

section
/-
  The walks of package wire, first part: sizeMayBe, fresh, the Reader.
-/
open Go.RowKit
set_option linter.unusedVariables false

/-- A row of bytes at the head of block q, which may be written. -/
def Own (w : World) (q : Nat) (l : List UInt8) : Prop :=
  ∃ cur : Array Value, w.heap[q]? = some (.cells cur 5 (0, 0)) ∧ l.length ≤ cur.size ∧ cur.toList.take l.length = l.map bv

theorem Own.cell {w : World} {q : Nat} {l : List UInt8} (h : Own w q l) (j : Nat) (u : Value) (hj : (l.map bv)[j]? = some u) : w.cell? ⟨q, j, none⟩ = some u := by
  obtain ⟨cur, hh, hl, ht⟩ := h
  have hjl : j < l.length := by have := (List.getElem?_eq_some_iff.1 hj).1; simpa using this
  rw [cell_of_row w q j cur 5 (0, 0) hh]
  rw [← ht, List.getElem?_take, if_pos hjl] at hj
  simpa using hj

theorem Own.frozen {w : World} {q : Nat} {l : List UInt8} (h : Own w q l) (j : Nat) : w.frozen? ⟨q, j, none⟩ = false := by
  obtain ⟨cur, hh, _, _⟩ := h
  exact frozen_of_row w q j cur 5 hh

theorem Own.bs {w : World} {q : Nat} {l : List UInt8} (h : Own w q l) (hl : l.length ≤ 1000000) : Bs w (.slice (some ⟨q, 0, none⟩) l.length l.length) l := by
  refine ⟨by simp, _, _, rfl, Nat.le_refl _, by unfold maxLen; omega, fun h => by simp at h, .inr ⟨q, 0, rfl, ?_⟩⟩
  intro j u hj
  rw [Nat.zero_add]
  exact h.cell j u hj

theorem Own.kept {w w' : World} {q : Nat} {l : List UInt8} (h : Own w q l) (hk : w'.heap[q]? = w.heap[q]?) : Own w' q l := by
  obtain ⟨cur, hh, hl, ht⟩ := h
  exact ⟨cur, by rw [hk]; exact hh, hl, ht⟩

theorem Own.lt {w : World} {q : Nat} {l : List UInt8} (h : Own w q l) : q < w.heap.size := by
  obtain ⟨cur, hh, _, _⟩ := h
  exact (Array.getElem?_eq_some_iff.1 hh).1

theorem owned_own {w : World} {base q n cap : Nat} {l : List UInt8} (h : w.ownsRow base 5 1 (.slice (some ⟨q, 0, none⟩) n cap) n (l.map bv)) (hn : n = l.length) : Own w q l := by
  rcases h.2 with ⟨h', _⟩ | ⟨g, cap', cur, hv, _, hh, hnc, _, hcs, ht⟩
  · simp at h'
  · simp only [Value.slice.injEq, Option.some.injEq, Addr.mk.injEq, and_true, true_and] at hv
    obtain ⟨rfl, rfl⟩ := hv
    subst hn
    exact ⟨cur, hh, by omega, by simpa using ht⟩

/-- Bytes that lie in block q from 'off' on. -/
def Row (w : World) (q off : Nat) (l : List UInt8) : Prop := ∀ j u, (l.map bv)[j]? = some u → w.cell? ⟨q, off + j, none⟩ = some u

theorem Row.kept {w w' : World} {q off : Nat} {l : List UInt8} (h : Row w q off l) (hq : w'.heap[q]? = w.heap[q]?) : Row w' q off l :=
  fun j u hj => (World.cell?_of_block (a := ⟨q, off + j, none⟩) hq).trans (h j u hj)

theorem Row.drop {w : World} {q off : Nat} {l : List UInt8} (h : Row w q off l) (n : Nat) : Row w q (off + n) (l.drop n) := by
  intro j u hj
  rw [List.map_drop, List.getElem?_drop] at hj
  rw [Nat.add_assoc]
  exact h (n + j) u hj

theorem Row.take {w : World} {q off : Nat} {l : List UInt8} (h : Row w q off l) (n : Nat) : Row w q off (l.take n) := by
  intro j u hj
  have hjn : j < n := by have := (List.getElem?_eq_some_iff.1 hj).1; simp at this; omega
  rw [List.map_take, List.getElem?_take, if_pos hjn] at hj
  exact h j u hj

theorem Row.bs {w : World} {q off : Nat} {l : List UInt8} (h : Row w q off l) (n cap : Nat) (hn : n = l.length) (hc : n ≤ cap) (hm : cap ≤ 1000000) : Bs w (.slice (some ⟨q, off, none⟩) n cap) l := by
  subst hn
  exact ⟨by simp, _, _, rfl, hc, by unfold maxLen; omega, fun h => by simp at h, .inr ⟨q, off, rfl, h⟩⟩

/-- A Reader at block r: what is unread lies in block q. -/
def IsRdW (w : World) (r q : Nat) (l : List UInt8) : Prop :=
  q ≠ r ∧ w.frozen? ⟨r, 0, none⟩ = false ∧ l.length ≤ 1000000 ∧ ∃ off, w.cell? ⟨r, 0, none⟩ = some (.slice (some ⟨q, off, none⟩) l.length l.length) ∧ Row w q off l

theorem IsRdW.kept {w w' : World} {r q : Nat} {l : List UInt8} (h : IsRdW w r q l) (hr : w'.heap[r]? = w.heap[r]?) (hq : w'.heap[q]? = w.heap[q]?) : IsRdW w' r q l := by
  obtain ⟨h1, h2, h3, off, h4, h5⟩ := h
  exact ⟨h1, (World.frozen?_of_block (a := ⟨r, 0, none⟩) hr).trans h2, h3, off, (World.cell?_of_block (a := ⟨r, 0, none⟩) hr).trans h4, h5.kept hq⟩

theorem IsRdW.lt {w : World} {r q : Nat} {l : List UInt8} (h : IsRdW w r q l) : r < w.heap.size := by
  obtain ⟨h1, h2, h3, off, h4, h5⟩ := h
  exact cell_block_lt h4

/-- What the Reader is behind 'next'. -/
theorem rd_step {w : World} {r q off off' n : Nat} {l : List UInt8} (h1 : q ≠ r) (h2 : w.frozen? ⟨r, 0, none⟩ = false) (h3 : l.length ≤ 1000000) (h4 : w.cell? ⟨r, 0, none⟩ = some (.slice (some ⟨q, off, none⟩) l.length l.length)) (h5 : Row w q off l)
    (ho : off' = off + n ∨ l.length = n) (u : Value) (hu : u = .slice (some ⟨q, off', none⟩) (l.length - n) (l.length - n)) :
    IsRdW (w.setCell ⟨r, 0, none⟩ u) r q (l.drop n) ∧ Row (w.setCell ⟨r, 0, none⟩ u) q off l ∧ w.grownBy (w.setCell ⟨r, 0, none⟩ u) (some r) ∧ (w.setCell ⟨r, 0, none⟩ u).heap.size = w.heap.size := by
  have hq : (w.setCell ⟨r, 0, none⟩ u).heap[q]? = w.heap[q]? := Below.heap_setCell w ⟨r, 0, none⟩ u q h1
  refine ⟨⟨h1, ?_, by simp; omega, off', ?_, ?_⟩, h5.kept hq, grown_setCell w r 0 u, by simp [World.setCell]⟩
  · simpa using h2
  · rw [World.cell?_setCell_same w _ _ h4, hu]
    simp
  · rcases ho with ho | ho
    · rw [ho]
      exact (h5.kept hq).drop n
    · intro j v hj
      have := (List.getElem?_eq_some_iff.1 hj).1
      simp at this
      omega

end

section
/-
  The walks of package wire, second part: Take, Cut, Read.
-/
open Go.RowKit
set_option linter.unusedVariables false

theorem ret_tup {k : IntKind} {a b : Int} {v : Value} (h : a = b) : Ending.returned (.tuple #[.int k a, v]) = .returned (.tuple #[.int k b, v]) := by rw [h]

/-- Bytes as a number of 64 bits, the highest first. -/
def num64 (l : List UInt8) : Nat := l.foldl (fun n x => (n * 256 + x.toNat) % 18446744073709551616) 0

theorem num64_lt (l : List UInt8) : num64 l < 18446744073709551616 := by
  unfold num64
  suffices h : ∀ n, n < 18446744073709551616 → l.foldl (fun n x => (n * 256 + x.toNat) % 18446744073709551616) n < 18446744073709551616 from h 0 (by omega)
  induction l with
  | nil => intro n h; exact h
  | cons x l ih => intro n h; exact ih _ (Nat.mod_lt _ (by omega))

theorem num64_next {l : List UInt8} {j : Nat} {m : Nat} {y : UInt8} (hj : j < l.length) (hy : l[j] = y) (h : m = num64 (l.take j)) : (m * 256 + y.toNat) % 18446744073709551616 = num64 (l.take (j + 1)) := by
  rw [List.take_succ_eq_append_getElem hj, num64, List.foldl_append, hy, h]
  rfl

theorem or64_nat (m : Nat) (y : UInt8) (hm : m < 18446744073709551616) : bits BinOp.or IntKind.u64 (IntKind.u64.wrap ((m : Int) * 256)) (y.toNat : Int) = (((m * 256 + y.toNat) % 18446744073709551616 : Nat) : Int) := by
  have hwr : IntKind.u64.wrap ((m : Int) * 256) = (m : Int) * 256 % 18446744073709551616 := by simp [IntKind.wrap, IntKind.bits, IntKind.signed]
  rw [hwr]
  have hy := y.toNat_lt
  have e := u64_or_nat (m * 256 % 18446744073709551616) y.toNat (by omega) (by omega)
  have e2 : (((m * 256 % 18446744073709551616 : Nat) : Int)) = (m : Int) * 256 % 18446744073709551616 := by omega
  have e3 := nat_join 8 (m * 256 % 18446744073709551616) y.toNat (by omega) (by omega)
  rw [e2, e3] at e
  rw [e]
  omega

theorem Below.toGrown {w w' : World} {row : Option Nat} (h : Below w.heap.size w w') : w.grownBy w' row := ⟨h.os, h.tape, h.output, h.size, fun k hk _ => h.block k hk⟩

theorem grown_trans {a b c : World} {row : Option Nat} (h : a.grownBy b row) (k : b.grownBy c row) : a.grownBy c row :=
  ⟨k.os.trans h.os, k.tape.trans h.tape, k.output.trans h.output, Nat.le_trans h.size k.size, fun i hi hr => (k.block i (Nat.lt_of_lt_of_le hi h.size) hr).trans (h.block i hi hr)⟩

end

section
/-
  The walks of package wire, third part: Read, the Writer.
-/
open Go.RowKit
set_option linter.unusedVariables false

/-- A Writer at block b, its bytes in 'row'. -/
def IsWr (w : World) (base b : Nat) (row : Option Nat) (l : List UInt8) : Prop :=
  w.frozen? ⟨b, 0, none⟩ = false ∧ base ≤ b ∧ row ≠ some b ∧ ∃ ao cap, w.cell? ⟨b, 0, none⟩ = some (.slice ao l.length cap) ∧ w.ownsRow base 5 1 (.slice ao l.length cap) l.length (l.map bv) ∧ (Value.slice ao l.length cap).ownBlock = row ∧ l.length ≤ cap ∧ cap ≤ maxLen

/-- Of old memory nothing is turned but block b and 'row'. -/
structure Fr (w w' : World) (b : Nat) (row : Option Nat) : Prop where
  os : w'.os = w.os
  tape : w'.tape = w.tape
  output : w'.output = w.output
  size : w.heap.size ≤ w'.heap.size
  block : ∀ k, k < w.heap.size → k ≠ b → some k ≠ row → w'.heap[k]? = w.heap[k]?

theorem Fr.refl (w : World) (b : Nat) (row : Option Nat) : Fr w w b row := ⟨rfl, rfl, rfl, Nat.le_refl _, fun _ _ _ _ => rfl⟩

theorem Fr.below {w w' : World} {b : Nat} {row : Option Nat} (h : Fr w w' b row) {B : Nat} (hB : B ≤ w.heap.size) (hb : B ≤ b) (hr : ∀ k, row = some k → B ≤ k) : Below B w w' :=
  ⟨h.os, h.tape, h.output, h.size, fun k hk => h.block k (by omega) (by omega) (fun e => by have := hr k e.symm; omega)⟩

theorem IsWr.bs {w : World} {base b : Nat} {row : Option Nat} {l : List UInt8} (h : IsWr w base b row l) : ∃ ao cap, w.cell? ⟨b, 0, none⟩ = some (.slice ao l.length cap) ∧ Bs w (.slice ao l.length cap) l := by
  obtain ⟨_, _, _, ao, cap, hc, ho, _⟩ := h
  refine ⟨ao, cap, hc, ?_⟩
  exact owned_sl ho

/-- A number's bytes, the highest first. -/
def be (n s : Nat) : List UInt8 := (List.range s).map fun i => UInt8.ofNat (n / 2 ^ (8 * (s - 1 - i)))

theorem be_next (l : List UInt8) (n s k : Nat) (h : k < s) : l ++ (be n s).take (k + 1) = (l ++ (be n s).take k) ++ [UInt8.ofNat (n / 2 ^ (8 * (s - 1 - k)))] := by
  have hk : k < (be n s).length := by simp [be]; exact h
  rw [List.take_succ_eq_append_getElem hk, List.append_assoc]
  simp [be]

theorem byte_wrap (n D : Nat) : Value.int .u8 (IntKind.u8.wrap ((n : Int) / 2 ^ D)) = bv (UInt8.ofNat (n / 2 ^ D)) := by
  have e2 : ((n / 2 ^ D : Nat) : Int) = (n : Int) / 2 ^ D := by simp
  rw [IntKind.wrap_u8', ← e2]
  simp [bv]

theorem fr_trans {a b' c : World} {b : Nat} {row row' row2 : Option Nat} (h : Fr a b' b row) (hr : row' = row ∨ ∃ k, row' = some k ∧ a.heap.size ≤ k) (k : Fr b' c b row') (kr : row2 = row' ∨ ∃ k, row2 = some k ∧ b'.heap.size ≤ k) :
    Fr a c b row ∧ (row2 = row ∨ ∃ k, row2 = some k ∧ a.heap.size ≤ k) := by
  refine ⟨⟨k.os.trans h.os, k.tape.trans h.tape, k.output.trans h.output, Nat.le_trans h.size k.size, fun i hi hb hro => ?_⟩, ?_⟩
  · refine (k.block i (Nat.lt_of_lt_of_le hi h.size) hb ?_).trans (h.block i hi hb hro)
    rcases hr with rfl | ⟨m, rfl, hm⟩
    · exact hro
    · intro e
      injection e with e
      omega
  · rcases kr with rfl | ⟨m, rfl, hm⟩
    · exact hr
    · exact .inr ⟨m, rfl, Nat.le_trans h.size hm⟩

/-- One append behind the Writer's field. -/
theorem wr_step {wr w2 : World} {o : Obj} {base b N M cap c1 : Nat} {ao a1 : Option Addr} {row' : Option Nat} {T : List UInt8}
    (hf : wr.frozen? ⟨b, 0, none⟩ = false) (hbb : base ≤ b) (hrb : row' ≠ some b) (hc : wr.cell? ⟨b, 0, none⟩ = some (.slice ao N cap)) (hbl : b < wr.heap.size)
    (hM : M = T.length) (ho : w2.ownsRow base 5 1 (.slice a1 M c1) M (T.map bv)) (hgrow : (wr.alloc o).drew.grownBy w2 (Value.slice ao N cap).ownBlock)
    (hnc : M ≤ c1) (hcm : c1 ≤ maxLen) {hrw : (Value.slice ao N cap).ownBlock = row'} {hat : (Value.slice a1 M c1).ownBlock = (Value.slice ao N cap).ownBlock ∨ (Value.slice a1 M c1).ownBlock = some (wr.alloc o).drew.heap.size} :
    ∃ row2, IsWr (w2.setCell ⟨b, 0, none⟩ (.slice a1 M c1)) base b row2 T ∧ Fr wr (w2.setCell ⟨b, 0, none⟩ (.slice a1 M c1)) b row' ∧ (row2 = row' ∨ ∃ k, row2 = some k ∧ wr.heap.size ≤ k) := by
  have hsz : (wr.alloc o).drew.heap.size = wr.heap.size + 1 := by simp
  have hcb : w2.cell? ⟨b, 0, none⟩ = wr.cell? ⟨b, 0, none⟩ := by
    rw [hgrow.cell_far ⟨b, 0, none⟩ (by rw [hsz]; show b < _; omega) (by rw [hrw]; exact Ne.symm hrb)]
    exact World.cell?_alloc_past _ _ _ hbl
  have hfb : w2.frozen? ⟨b, 0, none⟩ = false := by
    rw [hgrow.frozen_far ⟨b, 0, none⟩ (by rw [hsz]; show b < _; omega) (by rw [hrw]; exact Ne.symm hrb)]
    exact (World.frozen?_alloc_past _ _ _ hbl).trans hf
  have hnb : (Value.slice a1 M c1).ownBlock ≠ some b := by
    rcases hat with e | e
    · rw [e, hrw]; exact hrb
    · rw [e, hsz]; intro e; injection e with e; omega
  have hs := grown_setCell w2 b 0 (.slice a1 M c1)
  subst hM
  refine ⟨(Value.slice a1 T.length c1).ownBlock, ⟨by simpa using hfb, hbb, hnb, a1, c1, ?_, ho.kept hs (.inr hnb), rfl, hnc, hcm⟩, ?_, ?_⟩
  · exact World.cell?_setCell_same w2 _ _ (hcb.trans hc)
  · refine ⟨hgrow.os, hgrow.tape, hgrow.output, ?_, ?_⟩
    · have := hgrow.size
      have := hs.size
      omega
    · intro k hk hkb hkr
      rw [hs.block k (by have := hgrow.size; omega) (by intro e; injection e with e; exact hkb e)]
      rw [hgrow.block k (by omega) (by rw [hrw]; exact hkr)]
      exact Below.heap_alloc wr o k hk
  · rcases hat with e | e
    · exact .inl (e.trans hrw)
    · exact .inr ⟨_, e, by omega⟩

end

section
/-
  Numbers as bytes and back; parts, one more. No program.
-/
open Go.RowKit
set_option linter.unusedVariables false

theorem be_length (n s : Nat) : (be n s).length = s := by simp [be]

theorem num64_be_take (n s : Nat) (hn : n < 18446744073709551616) : ∀ k, k ≤ s → num64 ((be n s).take k) = n / 2 ^ (8 * (s - k)) % 2 ^ (8 * k) := by
  intro k
  induction k with
  | zero => intro _; simp [num64, Nat.mod_one]
  | succ k ih =>
    intro hk
    have hl : k < (be n s).length := by rw [be_length]; omega
    have e := num64_next (l := be n s) (j := k) (m := num64 ((be n s).take k)) (y := (be n s)[k]) hl rfl rfl
    rw [← e, ih (by omega)]
    have hy : ((be n s)[k]).toNat = n / 2 ^ (8 * (s - 1 - k)) % 256 := by simp [be]
    rw [hy]
    obtain ⟨t, ht⟩ : ∃ t, s - 1 - k = t := ⟨_, rfl⟩
    have h1 : s - (k + 1) = t := by omega
    have h2 : s - k = t + 1 := by omega
    rw [ht, h1, h2]
    have h3 : n / 2 ^ (8 * (t + 1)) = n / 2 ^ (8 * t) / 256 := by
      rw [Nat.div_div_eq_div_mul, show 8 * (t + 1) = 8 * t + 8 by omega, Nat.pow_add]
    rw [h3]
    generalize hA : n / 2 ^ (8 * t) = A
    have hAn : A ≤ n := by rw [← hA]; exact Nat.div_le_self _ _
    have hp : 2 ^ (8 * (k + 1)) = 256 * 2 ^ (8 * k) := by rw [show 8 * (k + 1) = 8 + 8 * k by omega, Nat.pow_add]
    have hm : A % 2 ^ (8 * (k + 1)) = A / 256 % 2 ^ (8 * k) * 256 + A % 256 := by
      rw [hp, Nat.mod_mul]
      omega
    have hle : A % 2 ^ (8 * (k + 1)) ≤ A := Nat.mod_le _ _
    rw [hm] at hle ⊢
    exact Nat.mod_eq_of_lt (Nat.lt_of_le_of_lt (Nat.le_trans hle hAn) hn)

theorem num64_be (n s : Nat) (hn : n < 2 ^ (8 * s)) (h64 : n < 18446744073709551616) : num64 (be n s) = n := by
  have h := num64_be_take n s h64 s (Nat.le_refl _)
  rw [List.take_of_length_le (by rw [be_length]; exact Nat.le_refl _), Nat.sub_self] at h
  rw [h]
  simp
  exact Nat.mod_eq_of_lt hn

theorem flat_nextW {ps : List (List UInt8)} {k : Nat} (hk : k < ps.length) : (ps.take (k + 1)).flatten = (ps.take k).flatten ++ ps[k] := by
  rw [List.take_succ_eq_append_getElem hk, List.flatten_append]
  simp

end

section
/-
  The walks of package wire, fourth part: Append.
-/
open Go.RowKit
set_option linter.unusedVariables false

/-- One append behind the Writer's field, no block laid ahead of it. -/
theorem wr_step0 {wr w2 : World} {base b N M cap c1 : Nat} {ao a1 : Option Addr} {row' : Option Nat} {T : List UInt8}
    (hf : wr.frozen? ⟨b, 0, none⟩ = false) (hbb : base ≤ b) (hrb : row' ≠ some b) (hc : wr.cell? ⟨b, 0, none⟩ = some (.slice ao N cap)) (hbl : b < wr.heap.size)
    (hM : M = T.length) (ho : w2.ownsRow base 5 1 (.slice a1 M c1) M (T.map bv)) (hgrow : wr.grownBy w2 (Value.slice ao N cap).ownBlock)
    (hnc : M ≤ c1) (hcm : c1 ≤ maxLen) {hrw : (Value.slice ao N cap).ownBlock = row'} {hat : (Value.slice a1 M c1).ownBlock = (Value.slice ao N cap).ownBlock ∨ (Value.slice a1 M c1).ownBlock = some wr.heap.size} :
    ∃ row2, IsWr (w2.setCell ⟨b, 0, none⟩ (.slice a1 M c1)) base b row2 T ∧ Fr wr (w2.setCell ⟨b, 0, none⟩ (.slice a1 M c1)) b row' ∧ (row2 = row' ∨ ∃ k, row2 = some k ∧ wr.heap.size ≤ k) := by
  have hcb : w2.cell? ⟨b, 0, none⟩ = wr.cell? ⟨b, 0, none⟩ := hgrow.cell_far ⟨b, 0, none⟩ hbl (by rw [hrw]; exact Ne.symm hrb)
  have hfb : w2.frozen? ⟨b, 0, none⟩ = false := by
    rw [hgrow.frozen_far ⟨b, 0, none⟩ hbl (by rw [hrw]; exact Ne.symm hrb)]
    exact hf
  have hnb : (Value.slice a1 M c1).ownBlock ≠ some b := by
    rcases hat with e | e
    · rw [e, hrw]; exact hrb
    · rw [e]; intro e; injection e with e; omega
  have hs := grown_setCell w2 b 0 (.slice a1 M c1)
  subst hM
  refine ⟨(Value.slice a1 T.length c1).ownBlock, ⟨by simpa using hfb, hbb, hnb, a1, c1, ?_, ho.kept hs (.inr hnb), rfl, hnc, hcm⟩, ?_, ?_⟩
  · exact World.cell?_setCell_same w2 _ _ (hcb.trans hc)
  · refine ⟨hgrow.os, hgrow.tape, hgrow.output, ?_, ?_⟩
    · have := hgrow.size
      have := hs.size
      omega
    · intro k hk hkb hkr
      rw [hs.block k (by have := hgrow.size; omega) (by intro e; injection e with e; exact hkb e)]
      exact hgrow.block k (by omega) (by rw [hrw]; exact hkr)
  · rcases hat with e | e
    · exact .inl (e.trans hrw)
    · exact .inr ⟨_, e, by omega⟩

theorem flat_lenW (ps : List (List UInt8)) (B : Nat) (h : ∀ p ∈ ps, p.length ≤ B) : ps.flatten.length ≤ ps.length * B := by
  induction ps with
  | nil => simp
  | cons p ps ih =>
    have h1 := h p (by simp)
    have h2 := ih (fun q hq => h q (by simp [hq]))
    simp only [List.flatten_cons, List.length_append, List.length_cons, Nat.add_mul, Nat.one_mul]
    omega

end

section
/-
  A Writer: how it is kept.
-/
open Go.RowKit
set_option linter.unusedVariables false

theorem IsWr.kept {w w' : World} {base b : Nat} {row : Option Nat} {l : List UInt8} (h : IsWr w base b row l) (hb : w'.heap[b]? = w.heap[b]?) (hr : ∀ k, row = some k → w'.heap[k]? = w.heap[k]?) : IsWr w' base b row l := by
  obtain ⟨h1, h2, h3, ao, cap, h4, h5, h6, h7, h8⟩ := h
  refine ⟨(World.frozen?_of_block (a := ⟨b, 0, none⟩) hb).trans h1, h2, h3, ao, cap, (World.cell?_of_block (a := ⟨b, 0, none⟩) hb).trans h4, ?_, h6, h7, h8⟩
  refine ⟨h5.1, ?_⟩
  rcases h5.2 with h | ⟨g, cap', cur, hv, hg, hh, hx⟩
  · exact .inl h
  · refine .inr ⟨g, cap', cur, hv, hg, ?_, hx⟩
    have : row = some g := by rw [← h6, hv]; rfl
    rw [hr g this]
    exact hh

theorem IsWr.lt {w : World} {base b : Nat} {row : Option Nat} {l : List UInt8} (h : IsWr w base b row l) : b < w.heap.size ∧ ∀ k, row = some k → base ≤ k ∧ k < w.heap.size := by
  obtain ⟨h1, h2, h3, ao, cap, h4, h5, h6, h7, h8⟩ := h
  refine ⟨cell_block_lt h4, fun k hk => ?_⟩
  rw [← h6] at hk
  exact h5.lt k hk

theorem IsWr.below {w w' : World} {base b : Nat} {row : Option Nat} {l : List UInt8} (h : IsWr w base b row l) (hb : Below w.heap.size w w') : IsWr w' base b row l :=
  h.kept (hb.block b h.lt.1) (fun k hk => hb.block k (h.lt.2 k hk).2)

theorem Fr.wr {w w' : World} {base b : Nat} {row : Option Nat} {l : List UInt8} (h : Fr w w' b row) (hw : IsWr w base b row l) (hb : base ≤ w.heap.size) : Below base w w' :=
  h.below hb hw.2.1 (fun k hk => (hw.lt.2 k hk).1)

end

section
/-
  The walks of the document's own answers for wire: Put.
-/
open Go.RowKit
set_option linter.unusedVariables false

/-- The bytes of a number, as they are filled from the last one on. -/
def tailed (n s k : Nat) : List Value := List.replicate (s - k) (.int .u8 0) ++ ((be n s).drop (s - k)).map bv

theorem tailed_zero (n s : Nat) : tailed n s 0 = List.replicate s (.int .u8 0) := by
  simp [tailed, be]

theorem tailed_all (n s : Nat) : tailed n s s = (be n s).map bv := by simp [tailed]

theorem tailed_set (n s k : Nat) (h : k < s) : (tailed n s k).set (s - 1 - k) (bv (UInt8.ofNat (n / 2 ^ (8 * k)))) = tailed n s (k + 1) := by
  have e1 : s - k = (s - 1 - k) + 1 := by omega
  have e2 : s - (k + 1) = s - 1 - k := by omega
  have hl : s - 1 - k < (be n s).length := by rw [be_length]; omega
  have hb : (be n s)[s - 1 - k] = UInt8.ofNat (n / 2 ^ (8 * k)) := by
    have e3 : s - 1 - (s - 1 - k) = k := by omega
    simp [be, e3]
  unfold tailed
  rw [e2, List.drop_eq_getElem_cons hl, hb, e1]
  rw [List.replicate_succ', List.append_assoc, List.set_append_right _ _ (by simp)]
  simp

end

end Go.Proofs.YtkckbeekehecnaaGreat
