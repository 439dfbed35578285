/-
  Texts that lie together: WireA WireB WireC WireM WireD WireS CRefB.
-/
import Derived.Test.YtkcijbejngnalaaGreatZCrc
import Derived.Test.YtkcijbejngnalaaGreatZBase
import Derived.Deep.RegionHeld3
import Derived.Deep.AppendLies
namespace Go.Proofs.YtkcijbejngnalaaGreat

section
/-
  The walks of package wire, first part: sizeMayBe, fresh, the Reader.
-/
open Go.RowKit
set_option linter.unusedVariables false

/-- A row of bytes at the head of block q, which may be written. -/
def Own (w : World) (q : Nat) (l : List UInt8) : Prop :=
  ∃ cur : Array Value, w.heap[q]? = some (.cells cur 5 (0, 0)) ∧ l.length ≤ cur.size ∧ cur.toList.take l.length = l.map bv

theorem Own.cell {w : World} {q : Nat} {l : List UInt8} (h : Own w q l) (j : Nat) (u : Value) (hj : (l.map bv)[j]? = some u) : w.cell? ⟨q, j, none⟩ = some u := by
  obtain ⟨cur, hh, hl, ht⟩ := h
  have hjl : j < l.length := by have := (List.getElem?_eq_some_iff.1 hj).1; simpa using this
  rw [cell_of_row w q j cur 5 (0, 0) hh]
  rw [← ht, List.getElem?_take, if_pos hjl] at hj
  simpa using hj

theorem Own.frozen {w : World} {q : Nat} {l : List UInt8} (h : Own w q l) (j : Nat) : w.frozen? ⟨q, j, none⟩ = false := by
  obtain ⟨cur, hh, _, _⟩ := h
  exact frozen_of_row w q j cur 5 hh

theorem Own.bs {w : World} {q : Nat} {l : List UInt8} (h : Own w q l) (hl : l.length ≤ 1000000) : Bs w (.slice (some ⟨q, 0, none⟩) l.length l.length) l := by
  refine ⟨by simp, _, _, rfl, Nat.le_refl _, by unfold maxLen; omega, fun h => by simp at h, .inr ⟨q, 0, rfl, ?_⟩⟩
  intro j u hj
  rw [Nat.zero_add]
  exact h.cell j u hj

theorem Own.kept {w w' : World} {q : Nat} {l : List UInt8} (h : Own w q l) (hk : w'.heap[q]? = w.heap[q]?) : Own w' q l := by
  obtain ⟨cur, hh, hl, ht⟩ := h
  exact ⟨cur, by rw [hk]; exact hh, hl, ht⟩

theorem Own.lt {w : World} {q : Nat} {l : List UInt8} (h : Own w q l) : q < w.heap.size := by
  obtain ⟨cur, hh, _, _⟩ := h
  exact (Array.getElem?_eq_some_iff.1 hh).1

theorem owned_own {w : World} {base q n cap : Nat} {l : List UInt8} (h : w.ownsRow base 5 1 (.slice (some ⟨q, 0, none⟩) n cap) n (l.map bv)) (hn : n = l.length) : Own w q l := by
  rcases h.2 with ⟨h', _⟩ | ⟨g, cap', cur, hv, _, hh, hnc, _, hcs, ht⟩
  · simp at h'
  · simp only [Value.slice.injEq, Option.some.injEq, Addr.mk.injEq, and_true, true_and] at hv
    obtain ⟨rfl, rfl⟩ := hv
    subst hn
    exact ⟨cur, hh, by omega, by simpa using ht⟩

set_option maxHeartbeats 400000 in
/-- sizeMayBe. -/
theorem size_any (s : Int) (w : World) : Calls Tryz.prog 121 #[.int .i64 s] w fun e w' => e = .returned (.bool (decide (1 ≤ s ∧ s ≤ 8))) ∧ w' = w := by
  by_cases h1 : 1 ≤ s
  · by_cases h2 : s ≤ 8
    · have hd : decide (1 ≤ s ∧ s ≤ 8) = true := by simp [h1, h2]
      rw [hd]
      go_enter Tryz.func121, Tryz.ntmps121
      go_wp2
      go_ret
      exact ⟨rfl, rfl⟩
    · have hd : decide (1 ≤ s ∧ s ≤ 8) = false := by simp [h2]
      rw [hd]
      go_enter Tryz.func121, Tryz.ntmps121
      go_wp2
      go_ret
      exact ⟨rfl, rfl⟩
  · have hd : decide (1 ≤ s ∧ s ≤ 8) = false := by simp [h1]
    rw [hd]
    go_enter Tryz.func121, Tryz.ntmps121
    go_wp2
    go_ret
    exact ⟨rfl, rfl⟩

set_option maxRecDepth 100000 in
set_option maxHeartbeats 1000000 in
/-- fresh: the same bytes as new memory. -/
theorem fresh_any (v : Value) (l : List UInt8) (w : World) (hl : Bs w v l) (hl2 : l.length ≤ 1000000) :
    Calls Tryz.prog 96 #[v] w fun e w' => ∃ q, e = .returned (.slice (some ⟨q, 0, none⟩) l.length l.length) ∧ w.heap.size ≤ q ∧ Own w' q l ∧ Below w.heap.size w w' := by
  obtain ⟨i0, hi, hz0, hz1, hz2⟩ := info_parts Tryz.info5
  have hB := hl
  obtain ⟨hll, ao, cap0, rfl, hnc, hcm, hn0, hcells⟩ := hl
  clear hcells hll
  unfold maxLen at hcm
  have hb0 : Below w.heap.size w (w.alloc (Obj.cells #[] 5)) := (Below.refl _ _).alloc (Nat.le_refl _) _
  have hO : (w.alloc (.cells #[] 5)).ownsRow w.heap.size 5 1 (.slice (some ⟨w.heap.size, 0, none⟩) 0 0) 0 [] := World.ownsRow_lit w #[] 0 (Nat.le_refl _) (by simp [maxLen]) rfl
  have HB : Hid (Bs (w.alloc (.cells #[] 5)) (.slice ao l.length cap0) l) := hB.below hb0
  have X0 : Hid (Below w.heap.size w (w.alloc (Obj.cells #[] 5))) := hb0
  clear hb0 hB
  go_enter Tryz.func96, Tryz.ntmps96
  go_wp2_with (at_builtin; refine wpList_app _ rfl (.tmp 4) (.tmp 5) 25 rfl w.heap.size 5 i0 (.int .u8 0) 1 1 Tryz.underlying25 hi hz0 hz1 hz2 rfl (by decide) _ _ _ rfl hO _ _ _ rfl HB.out (bv_oneCell _) (by unfold maxLen; omega) (by omega) (by simp) ?_; intro a1 c1 w3 ho hgrow hat hne hnc1 hcm1; simp only [Nat.zero_add, List.nil_append] at ho hat hnc1; unfold maxLen at hcm1)
  go_ret
  cases a1 with
  | none => have h' := hne rfl; injection h' with h' _ _; cases h'
  | some ad =>
    have h0 := ho
    rcases h0.2 with ⟨h', _⟩ | ⟨g, cap', cur, hv, hb, _⟩
    · simp at h'
    · injection hv with e1 _ _
      obtain rfl := Option.some.inj e1
      refine ⟨g, rfl, hb, owned_own ho rfl, X0.out.grown hgrow (by simp) (fun k hk => (hO.lt k hk).1)⟩

/-- Bytes that lie in block q from 'off' on. -/
def Row (w : World) (q off : Nat) (l : List UInt8) : Prop := ∀ j u, (l.map bv)[j]? = some u → w.cell? ⟨q, off + j, none⟩ = some u

theorem Row.kept {w w' : World} {q off : Nat} {l : List UInt8} (h : Row w q off l) (hq : w'.heap[q]? = w.heap[q]?) : Row w' q off l :=
  fun j u hj => (World.cell?_of_block (a := ⟨q, off + j, none⟩) hq).trans (h j u hj)

theorem Row.drop {w : World} {q off : Nat} {l : List UInt8} (h : Row w q off l) (n : Nat) : Row w q (off + n) (l.drop n) := by
  intro j u hj
  rw [List.map_drop, List.getElem?_drop] at hj
  rw [Nat.add_assoc]
  exact h (n + j) u hj

theorem Row.take {w : World} {q off : Nat} {l : List UInt8} (h : Row w q off l) (n : Nat) : Row w q off (l.take n) := by
  intro j u hj
  have hjn : j < n := by have := (List.getElem?_eq_some_iff.1 hj).1; simp at this; omega
  rw [List.map_take, List.getElem?_take, if_pos hjn] at hj
  exact h j u hj

theorem Row.bs {w : World} {q off : Nat} {l : List UInt8} (h : Row w q off l) (n cap : Nat) (hn : n = l.length) (hc : n ≤ cap) (hm : cap ≤ 1000000) : Bs w (.slice (some ⟨q, off, none⟩) n cap) l := by
  subst hn
  exact ⟨by simp, _, _, rfl, hc, by unfold maxLen; omega, fun h => by simp at h, .inr ⟨q, off, rfl, h⟩⟩

/-- A Reader at block r: what is unread lies in block q. -/
def IsRdW (w : World) (r q : Nat) (l : List UInt8) : Prop :=
  q ≠ r ∧ w.frozen? ⟨r, 0, none⟩ = false ∧ l.length ≤ 1000000 ∧ ∃ off, w.cell? ⟨r, 0, none⟩ = some (.slice (some ⟨q, off, none⟩) l.length l.length) ∧ Row w q off l

theorem IsRdW.kept {w w' : World} {r q : Nat} {l : List UInt8} (h : IsRdW w r q l) (hr : w'.heap[r]? = w.heap[r]?) (hq : w'.heap[q]? = w.heap[q]?) : IsRdW w' r q l := by
  obtain ⟨h1, h2, h3, off, h4, h5⟩ := h
  exact ⟨h1, (World.frozen?_of_block (a := ⟨r, 0, none⟩) hr).trans h2, h3, off, (World.cell?_of_block (a := ⟨r, 0, none⟩) hr).trans h4, h5.kept hq⟩

theorem IsRdW.lt {w : World} {r q : Nat} {l : List UInt8} (h : IsRdW w r q l) : r < w.heap.size := by
  obtain ⟨h1, h2, h3, off, h4, h5⟩ := h
  exact cell_block_lt h4

/-- What the Reader is behind 'next'. -/
theorem rd_step {w : World} {r q off off' n : Nat} {l : List UInt8} (h1 : q ≠ r) (h2 : w.frozen? ⟨r, 0, none⟩ = false) (h3 : l.length ≤ 1000000) (h4 : w.cell? ⟨r, 0, none⟩ = some (.slice (some ⟨q, off, none⟩) l.length l.length)) (h5 : Row w q off l)
    (ho : off' = off + n ∨ l.length = n) (u : Value) (hu : u = .slice (some ⟨q, off', none⟩) (l.length - n) (l.length - n)) :
    IsRdW (w.setCell ⟨r, 0, none⟩ u) r q (l.drop n) ∧ Row (w.setCell ⟨r, 0, none⟩ u) q off l ∧ w.grownBy (w.setCell ⟨r, 0, none⟩ u) (some r) ∧ (w.setCell ⟨r, 0, none⟩ u).heap.size = w.heap.size := by
  have hq : (w.setCell ⟨r, 0, none⟩ u).heap[q]? = w.heap[q]? := Below.heap_setCell w ⟨r, 0, none⟩ u q h1
  refine ⟨⟨h1, ?_, by simp; omega, off', ?_, ?_⟩, h5.kept hq, grown_setCell w r 0 u, by simp [World.setCell]⟩
  · simpa using h2
  · rw [World.cell?_setCell_same w _ _ h4, hu]
    simp
  · rcases ho with ho | ho
    · rw [ho]
      exact (h5.kept hq).drop n
    · intro j v hj
      have := (List.getElem?_eq_some_iff.1 hj).1
      simp at this
      omega

end

section
/-
  The walks of package wire, second part: Take, Cut, Read.
-/
open Go.RowKit
set_option linter.unusedVariables false

theorem ret_tup {k : IntKind} {a b : Int} {v : Value} (h : a = b) : Ending.returned (.tuple #[.int k a, v]) = .returned (.tuple #[.int k b, v]) := by rw [h]

/-- Bytes as a number of 64 bits, the highest first. -/
def num64 (l : List UInt8) : Nat := l.foldl (fun n x => (n * 256 + x.toNat) % 18446744073709551616) 0

theorem num64_lt (l : List UInt8) : num64 l < 18446744073709551616 := by
  unfold num64
  suffices h : ∀ n, n < 18446744073709551616 → l.foldl (fun n x => (n * 256 + x.toNat) % 18446744073709551616) n < 18446744073709551616 from h 0 (by omega)
  induction l with
  | nil => intro n h; exact h
  | cons x l ih => intro n h; exact ih _ (Nat.mod_lt _ (by omega))

theorem num64_next {l : List UInt8} {j : Nat} {m : Nat} {y : UInt8} (hj : j < l.length) (hy : l[j] = y) (h : m = num64 (l.take j)) : (m * 256 + y.toNat) % 18446744073709551616 = num64 (l.take (j + 1)) := by
  rw [List.take_succ_eq_append_getElem hj, num64, List.foldl_append, hy, h]
  rfl

theorem or64_nat (m : Nat) (y : UInt8) (hm : m < 18446744073709551616) : bits BinOp.or IntKind.u64 (IntKind.u64.wrap ((m : Int) * 256)) (y.toNat : Int) = (((m * 256 + y.toNat) % 18446744073709551616 : Nat) : Int) := by
  have hwr : IntKind.u64.wrap ((m : Int) * 256) = (m : Int) * 256 % 18446744073709551616 := by simp [IntKind.wrap, IntKind.bits, IntKind.signed]
  rw [hwr]
  have hy := y.toNat_lt
  have e := u64_or_nat (m * 256 % 18446744073709551616) y.toNat (by omega) (by omega)
  have e2 : (((m * 256 % 18446744073709551616 : Nat) : Int)) = (m : Int) * 256 % 18446744073709551616 := by omega
  have e3 := nat_join 8 (m * 256 % 18446744073709551616) y.toNat (by omega) (by omega)
  rw [e2, e3] at e
  rw [e]
  omega

theorem Below.toGrown {w w' : World} {row : Option Nat} (h : Below w.heap.size w w') : w.grownBy w' row := ⟨h.os, h.tape, h.output, h.size, fun k hk _ => h.block k hk⟩

theorem grown_trans {a b c : World} {row : Option Nat} (h : a.grownBy b row) (k : b.grownBy c row) : a.grownBy c row :=
  ⟨k.os.trans h.os, k.tape.trans h.tape, k.output.trans h.output, Nat.le_trans h.size k.size, fun i hi hr => (k.block i (Nat.lt_of_lt_of_le hi h.size) hr).trans (h.block i hi hr)⟩

end

section
/-
  The walks of package wire, third part: Read, the Writer.
-/
open Go.RowKit
set_option linter.unusedVariables false

/-- A Writer at block b, its bytes in 'row'. -/
def IsWr (w : World) (base b : Nat) (row : Option Nat) (l : List UInt8) : Prop :=
  w.frozen? ⟨b, 0, none⟩ = false ∧ base ≤ b ∧ row ≠ some b ∧ ∃ ao cap, w.cell? ⟨b, 0, none⟩ = some (.slice ao l.length cap) ∧ w.ownsRow base 5 1 (.slice ao l.length cap) l.length (l.map bv) ∧ (Value.slice ao l.length cap).ownBlock = row ∧ l.length ≤ cap ∧ cap ≤ maxLen

/-- Of old memory nothing is turned but block b and 'row'. -/
structure Fr (w w' : World) (b : Nat) (row : Option Nat) : Prop where
  os : w'.os = w.os
  tape : w'.tape = w.tape
  output : w'.output = w.output
  size : w.heap.size ≤ w'.heap.size
  block : ∀ k, k < w.heap.size → k ≠ b → some k ≠ row → w'.heap[k]? = w.heap[k]?

theorem Fr.refl (w : World) (b : Nat) (row : Option Nat) : Fr w w b row := ⟨rfl, rfl, rfl, Nat.le_refl _, fun _ _ _ _ => rfl⟩

theorem Fr.below {w w' : World} {b : Nat} {row : Option Nat} (h : Fr w w' b row) {B : Nat} (hB : B ≤ w.heap.size) (hb : B ≤ b) (hr : ∀ k, row = some k → B ≤ k) : Below B w w' :=
  ⟨h.os, h.tape, h.output, h.size, fun k hk => h.block k (by omega) (by omega) (fun e => by have := hr k e.symm; omega)⟩

theorem IsWr.bs {w : World} {base b : Nat} {row : Option Nat} {l : List UInt8} (h : IsWr w base b row l) : ∃ ao cap, w.cell? ⟨b, 0, none⟩ = some (.slice ao l.length cap) ∧ Bs w (.slice ao l.length cap) l := by
  obtain ⟨_, _, _, ao, cap, hc, ho, _⟩ := h
  refine ⟨ao, cap, hc, ?_⟩
  exact owned_sl ho

set_option maxRecDepth 100000 in
set_option maxHeartbeats 1000000 in
/-- Bytes. -/
theorem bytes_any (base b : Nat) (row : Option Nat) (l : List UInt8) (w : World) (h : IsWr w base b row l) (hl2 : l.length ≤ 1000000) :
    Calls Tryz.prog 62 #[.pointer (some ⟨b, 0, none⟩)] w fun e w' => ∃ q, e = .returned (.slice (some ⟨q, 0, none⟩) l.length l.length) ∧ w.heap.size ≤ q ∧ Own w' q l ∧ Below w.heap.size w w' := by
  obtain ⟨ao, cap, hc, hb⟩ := h.bs
  have H0 : Hid (Bs w (.slice ao l.length cap) l) := hb
  clear hb h
  go_enter Tryz.func62, Tryz.ntmps62
  go_wp2_with fail
  refine (fresh_any _ l _ H0.out hl2).mono ?_
  rintro e w1 ⟨q, rfl, hq⟩
  have HQ : Hid (w.heap.size ≤ q ∧ Own w1 q l ∧ Below w.heap.size w w1) := hq
  clear hq
  go_wp2
  go_ret
  exact ⟨q, rfl, HQ.out⟩

/-- A number's bytes, the highest first. -/
def be (n s : Nat) : List UInt8 := (List.range s).map fun i => UInt8.ofNat (n / 2 ^ (8 * (s - 1 - i)))

theorem be_next (l : List UInt8) (n s k : Nat) (h : k < s) : l ++ (be n s).take (k + 1) = (l ++ (be n s).take k) ++ [UInt8.ofNat (n / 2 ^ (8 * (s - 1 - k)))] := by
  have hk : k < (be n s).length := by simp [be]; exact h
  rw [List.take_succ_eq_append_getElem hk, List.append_assoc]
  simp [be]

set_option maxRecDepth 100000 in
set_option maxHeartbeats 1000000 in
/-- Put, refused. -/
theorem put_no (b : Nat) (n : Nat) (s : Int) (w : World) (hn64 : n < 18446744073709551616) (h : ¬ (1 ≤ s ∧ s ≤ 8) ∨ 2 ^ (8 * s.toNat) ≤ n) :
    Calls Tryz.prog 94 #[.pointer (some ⟨b, 0, none⟩), .int .u64 n, .int .i64 s] w fun e w' => e = .returned (.bool false) ∧ w' = w := by
  by_cases hs : 1 ≤ s ∧ s ≤ 8
  · have hd : decide (1 ≤ s ∧ s ≤ 8) = true := by simpa using hs
    have hbig : 2 ^ (8 * s.toNat) ≤ n := by rcases h with h | h; exact absurd hs h; exact h
    obtain ⟨hs1, hs8⟩ := hs
    have hne : (((n : Int) / 2 ^ (8 * s).toNat) != 0) = true := by
      have e : (8 * s).toNat = 8 * s.toNat := by omega
      have e2 : ((n / 2 ^ (8 * s.toNat) : Nat) : Int) = (n : Int) / 2 ^ (8 * s.toNat) := by simp
      have hp : 0 < n / 2 ^ (8 * s.toNat) := Nat.div_pos hbig (Nat.two_pow_pos _)
      rw [e, ← e2]
      simp
      omega
    clear hbig h
    go_enter Tryz.func94, Tryz.ntmps94
    go_wp2_with fail
    refine (size_any s w).mono ?_
    rintro e w1 ⟨rfl, rfl⟩
    rw [hd]
    go_wp2
    go_ret
    exact ⟨rfl, rfl⟩
  · have hd : decide (1 ≤ s ∧ s ≤ 8) = false := by simpa using hs
    clear h hs
    go_enter Tryz.func94, Tryz.ntmps94
    go_wp2_with fail
    refine (size_any s w).mono ?_
    rintro e w1 ⟨rfl, rfl⟩
    rw [hd]
    go_wp2
    go_ret
    exact ⟨rfl, rfl⟩

theorem byte_wrap (n D : Nat) : Value.int .u8 (IntKind.u8.wrap ((n : Int) / 2 ^ D)) = bv (UInt8.ofNat (n / 2 ^ D)) := by
  have e2 : ((n / 2 ^ D : Nat) : Int) = (n : Int) / 2 ^ D := by simp
  rw [IntKind.wrap_u8', ← e2]
  simp [bv]

theorem fr_trans {a b' c : World} {b : Nat} {row row' row2 : Option Nat} (h : Fr a b' b row) (hr : row' = row ∨ ∃ k, row' = some k ∧ a.heap.size ≤ k) (k : Fr b' c b row') (kr : row2 = row' ∨ ∃ k, row2 = some k ∧ b'.heap.size ≤ k) :
    Fr a c b row ∧ (row2 = row ∨ ∃ k, row2 = some k ∧ a.heap.size ≤ k) := by
  refine ⟨⟨k.os.trans h.os, k.tape.trans h.tape, k.output.trans h.output, Nat.le_trans h.size k.size, fun i hi hb hro => ?_⟩, ?_⟩
  · refine (k.block i (Nat.lt_of_lt_of_le hi h.size) hb ?_).trans (h.block i hi hb hro)
    rcases hr with rfl | ⟨m, rfl, hm⟩
    · exact hro
    · intro e
      injection e with e
      omega
  · rcases kr with rfl | ⟨m, rfl, hm⟩
    · exact hr
    · exact .inr ⟨m, rfl, Nat.le_trans h.size hm⟩

/-- One append behind the Writer's field. -/
theorem wr_step {wr w2 : World} {o : Obj} {base b N M cap c1 : Nat} {ao a1 : Option Addr} {row' : Option Nat} {T : List UInt8}
    (hf : wr.frozen? ⟨b, 0, none⟩ = false) (hbb : base ≤ b) (hrb : row' ≠ some b) (hc : wr.cell? ⟨b, 0, none⟩ = some (.slice ao N cap)) (hbl : b < wr.heap.size)
    (hM : M = T.length) (ho : w2.ownsRow base 5 1 (.slice a1 M c1) M (T.map bv)) (hgrow : (wr.alloc o).drew.grownBy w2 (Value.slice ao N cap).ownBlock)
    (hnc : M ≤ c1) (hcm : c1 ≤ maxLen) {hrw : (Value.slice ao N cap).ownBlock = row'} {hat : (Value.slice a1 M c1).ownBlock = (Value.slice ao N cap).ownBlock ∨ (Value.slice a1 M c1).ownBlock = some (wr.alloc o).drew.heap.size} :
    ∃ row2, IsWr (w2.setCell ⟨b, 0, none⟩ (.slice a1 M c1)) base b row2 T ∧ Fr wr (w2.setCell ⟨b, 0, none⟩ (.slice a1 M c1)) b row' ∧ (row2 = row' ∨ ∃ k, row2 = some k ∧ wr.heap.size ≤ k) := by
  have hsz : (wr.alloc o).drew.heap.size = wr.heap.size + 1 := by simp
  have hcb : w2.cell? ⟨b, 0, none⟩ = wr.cell? ⟨b, 0, none⟩ := by
    rw [hgrow.cell_far ⟨b, 0, none⟩ (by rw [hsz]; show b < _; omega) (by rw [hrw]; exact Ne.symm hrb)]
    exact World.cell?_alloc_past _ _ _ hbl
  have hfb : w2.frozen? ⟨b, 0, none⟩ = false := by
    rw [hgrow.frozen_far ⟨b, 0, none⟩ (by rw [hsz]; show b < _; omega) (by rw [hrw]; exact Ne.symm hrb)]
    exact (World.frozen?_alloc_past _ _ _ hbl).trans hf
  have hnb : (Value.slice a1 M c1).ownBlock ≠ some b := by
    rcases hat with e | e
    · rw [e, hrw]; exact hrb
    · rw [e, hsz]; intro e; injection e with e; omega
  have hs := grown_setCell w2 b 0 (.slice a1 M c1)
  subst hM
  refine ⟨(Value.slice a1 T.length c1).ownBlock, ⟨by simpa using hfb, hbb, hnb, a1, c1, ?_, ho.kept hs (.inr hnb), rfl, hnc, hcm⟩, ?_, ?_⟩
  · exact World.cell?_setCell_same w2 _ _ (hcb.trans hc)
  · refine ⟨hgrow.os, hgrow.tape, hgrow.output, ?_, ?_⟩
    · have := hgrow.size
      have := hs.size
      omega
    · intro k hk hkb hkr
      rw [hs.block k (by have := hgrow.size; omega) (by intro e; injection e with e; exact hkb e)]
      rw [hgrow.block k (by omega) (by rw [hrw]; exact hkr)]
      exact Below.heap_alloc wr o k hk
  · rcases hat with e | e
    · exact .inl (e.trans hrw)
    · exact .inr ⟨_, e, by omega⟩

set_option maxRecDepth 100000 in
set_option maxHeartbeats 1000000 in
/-- Put. -/
theorem put_yes (base b : Nat) (row : Option Nat) (l : List UInt8) (n s : Nat) (w : World) (hw : IsWr w base b row l) (hbase : base ≤ w.heap.size) (h1 : 1 ≤ s) (h8 : s ≤ 8) (hn : n < 2 ^ (8 * s)) (hl2 : l.length ≤ 1000000) :
    Calls Tryz.prog 94 #[.pointer (some ⟨b, 0, none⟩), .int .u64 n, .int .i64 s] w fun e w' => e = .returned (.bool true) ∧ ∃ row', IsWr w' base b row' (l ++ be n s) ∧ Fr w w' b row ∧ (row' = row ∨ ∃ k, row' = some k ∧ w.heap.size ≤ k) := by
  obtain ⟨i0, hi, hz0, hz1, hz2⟩ := info_parts Tryz.info5
  have hd : decide ((1 : Int) ≤ (s : Int) ∧ (s : Int) ≤ 8) = true := by simp; omega
  have hn64 : n < 18446744073709551616 := by
    have : (2 : Nat) ^ (8 * s) ≤ 2 ^ 64 := Nat.pow_le_pow_right (by omega) (by omega)
    omega
  have hne : (((n : Int) / 2 ^ (8 * s)) != 0) = false := by
    have e2 : ((n / 2 ^ (8 * s) : Nat) : Int) = (n : Int) / 2 ^ (8 * s) := by simp
    rw [← e2, Nat.div_eq_of_lt hn]
    rfl
  clear hn
  have HW : Hid (IsWr w base b row l) := hw
  clear hw
  go_enter Tryz.func94, Tryz.ntmps94
  go_wp2_with fail
  refine (size_any s w).mono ?_
  rintro e w1 ⟨rfl, rfl⟩
  rw [hd]
  go_wp2
  go_loopw [19] (fun i wr => ∃ (k : Nat) (row' : Option Nat), k ≤ s ∧ i = .int .i64 k ∧ IsWr wr base b row' (l ++ (be n s).take k) ∧ Fr w1 wr b row ∧ (row' = row ∨ ∃ k, row' = some k ∧ w1.heap.size ≤ k)) (fun i _ => s - (intOf i).toNat)
  case atStart => exact ⟨0, row, by omega, rfl, by simpa using HW.out, Fr.refl _ _ _, .inl rfl⟩
  case round =>
    obtain ⟨k, row', hk, rfl, hwr, hfr, hrow⟩ := hrel
    have HR : Hid (Fr w1 wr b row ∧ (row' = row ∨ ∃ k, row' = some k ∧ w1.heap.size ≤ k)) := ⟨hfr, hrow⟩
    clear hfr hrow
    by_cases hlt : k < s
    · have hlen : (l ++ (be n s).take k).length = l.length + k := by simp [be]; omega
      have HT : Hid (l ++ (be n s).take (k + 1) = (l ++ (be n s).take k) ++ [UInt8.ofNat (n / 2 ^ (8 * (s - 1 - k)))]) := be_next l n s k hlt
      generalize l ++ (be n s).take k = T at *
      obtain ⟨hf, hbb, hrb, ao, cap, hc, hown, hrw, hcap, hcm⟩ := hwr
      unfold maxLen at hcm
      rw [hlen] at hc hown hrw hcap
      have Hlen : Hid (T.length = l.length + k) := hlen
      clear hlen
      obtain ⟨d, hdd⟩ : ∃ d : Nat, d = s - 1 - k := ⟨_, rfl⟩
      have hw1 : IntKind.i64.wrap ((s : Int) - 1) = (s : Int) - 1 := by rw [IntKind.wrap_i64]; omega
      have hw2 : IntKind.i64.wrap ((s : Int) - 1 - (k : Int)) = (d : Int) := by rw [IntKind.wrap_i64]; omega
      obtain ⟨D, hD⟩ : ∃ D : Nat, D = 8 * d := ⟨_, rfl⟩
      have hw3 : IntKind.i64.wrap (8 * (d : Int)) = (D : Int) := by rw [IntKind.wrap_i64]; omega
      have Hd : Hid (D = 8 * (s - 1 - k)) := by unfold Hid; omega
      have hmin : min D 64 = D := by omega
      clear hdd hD
      have hbl : b < wr.heap.size := cell_block_lt hc
      have hbw : base ≤ wr.heap.size := by have := HR.out.1.size; omega
      have hown1 := (hown.alloc (.cells #[.int .u8 (IntKind.u8.wrap ((n : Int) / 2 ^ D))] 5)).drew
      have hsrc1 : Sl 1 (wr.alloc (.cells #[.int .u8 (IntKind.u8.wrap ((n : Int) / 2 ^ D))] 5)).drew (.slice (some ⟨wr.heap.size, 0, none⟩) 1 1) 1 [.int .u8 (IntKind.u8.wrap ((n : Int) / 2 ^ D))] := alloc_one _ _
      have hone : ∀ u ∈ [Value.int .u8 (IntKind.u8.wrap ((n : Int) / 2 ^ D))], u.oneCell' = true := by intro u hu; simp at hu; subst hu; rfl
      have h63 : l.length + k + 1 ≤ maxLen := by unfold maxLen; omega
      have hby : (l.length + k + 1) * 1 ≤ 140737488355328 := by omega
      have hba : base ≤ (wr.alloc (.cells #[.int .u8 (IntKind.u8.wrap ((n : Int) / 2 ^ D))] 5)).drew.heap.size := by simp; omega
      have H63 : Hid (l.length + k + 1 ≤ maxLen) := h63
      have Hone : Hid (∀ u ∈ [Value.int .u8 (IntKind.u8.wrap ((n : Int) / 2 ^ D))], u.oneCell' = true) := hone
      have Hown1 : Hid ((wr.alloc (.cells #[.int .u8 (IntKind.u8.wrap ((n : Int) / 2 ^ D))] 5)).drew.ownsRow base 5 1 (.slice ao (l.length + k) cap) (l.length + k) (T.map bv)) := hown1
      have Hsrc1 : Hid (Sl 1 (wr.alloc (.cells #[.int .u8 (IntKind.u8.wrap ((n : Int) / 2 ^ D))] 5)).drew (.slice (some ⟨wr.heap.size, 0, none⟩) 1 1) 1 [.int .u8 (IntKind.u8.wrap ((n : Int) / 2 ^ D))]) := hsrc1
      clear h63 hone hown1 hsrc1
      go_wp2
      go_region_law ((refine step_app _ (by rfl) _ _ _ (by rfl) base 5 i0 (.int .u8 0) 1 1 Tryz.underlying25 hi hz0 hz1 hz2 rfl (by decide) (.slice ao (l.length + k) cap) (l.length + k) (T.map bv) (by rfl) Hown1.out (.slice (some ⟨wr.heap.size, 0, none⟩) 1 1) 1 [.int .u8 (IntKind.u8.wrap ((n : Int) / 2 ^ D))] (by rfl) Hsrc1.out Hone.out H63.out hby hba ?_; intro a1 c1 w2 ho hgrow hat hne2 hnc2 hcm2; have q1 := (hgrow.cell_far ⟨b, 0, none⟩ (by simp; omega) (by rw [hrw]; exact Ne.symm hrb)); have q2 := (hgrow.frozen_far ⟨b, 0, none⟩ (by simp; omega) (by rw [hrw]; exact Ne.symm hrb))))
      all_goals
        go_wp2
        go_roundw
        case rel =>
          have hx : T.map bv ++ [Value.int .u8 (IntKind.u8.wrap ((n : Int) / 2 ^ D))] = (T ++ [UInt8.ofNat (n / 2 ^ (8 * (s - 1 - k)))]).map bv := by rw [byte_wrap, Hd.out]; simp
          rw [hx] at ho
          have R := wr_step (hat := hat) (hrw := hrw) hf hbb hrb hc hbl (by have := Hlen.out; simp; omega) ho hgrow hnc2 hcm2
          rw [← HT.out] at R
          obtain ⟨row2, R1, R2, R3⟩ := R
          have R4 := fr_trans HR.out.1 HR.out.2 R2 R3
          exact ⟨k + 1, row2, by omega, by go_num, R1, R4.1, R4.2⟩
        case measure => simp [intOf]; omega
    · go_wp2
      go_ret
      have e : (be n s).take k = be n s := List.take_of_length_le (by simp [be]; omega)
      rw [e] at hwr
      exact ⟨rfl, row', hwr, HR.out⟩

end

section
/-
  Numbers as bytes and back; parts, one more. No program.
-/
open Go.RowKit
set_option linter.unusedVariables false

theorem be_length (n s : Nat) : (be n s).length = s := by simp [be]

theorem num64_be_take (n s : Nat) (hn : n < 18446744073709551616) : ∀ k, k ≤ s → num64 ((be n s).take k) = n / 2 ^ (8 * (s - k)) % 2 ^ (8 * k) := by
  intro k
  induction k with
  | zero => intro _; simp [num64, Nat.mod_one]
  | succ k ih =>
    intro hk
    have hl : k < (be n s).length := by rw [be_length]; omega
    have e := num64_next (l := be n s) (j := k) (m := num64 ((be n s).take k)) (y := (be n s)[k]) hl rfl rfl
    rw [← e, ih (by omega)]
    have hy : ((be n s)[k]).toNat = n / 2 ^ (8 * (s - 1 - k)) % 256 := by simp [be]
    rw [hy]
    obtain ⟨t, ht⟩ : ∃ t, s - 1 - k = t := ⟨_, rfl⟩
    have h1 : s - (k + 1) = t := by omega
    have h2 : s - k = t + 1 := by omega
    rw [ht, h1, h2]
    have h3 : n / 2 ^ (8 * (t + 1)) = n / 2 ^ (8 * t) / 256 := by
      rw [Nat.div_div_eq_div_mul, show 8 * (t + 1) = 8 * t + 8 by omega, Nat.pow_add]
    rw [h3]
    generalize hA : n / 2 ^ (8 * t) = A
    have hAn : A ≤ n := by rw [← hA]; exact Nat.div_le_self _ _
    have hp : 2 ^ (8 * (k + 1)) = 256 * 2 ^ (8 * k) := by rw [show 8 * (k + 1) = 8 + 8 * k by omega, Nat.pow_add]
    have hm : A % 2 ^ (8 * (k + 1)) = A / 256 % 2 ^ (8 * k) * 256 + A % 256 := by
      rw [hp, Nat.mod_mul]
      omega
    have hle : A % 2 ^ (8 * (k + 1)) ≤ A := Nat.mod_le _ _
    rw [hm] at hle ⊢
    exact Nat.mod_eq_of_lt (Nat.lt_of_le_of_lt (Nat.le_trans hle hAn) hn)

theorem num64_be (n s : Nat) (hn : n < 2 ^ (8 * s)) (h64 : n < 18446744073709551616) : num64 (be n s) = n := by
  have h := num64_be_take n s h64 s (Nat.le_refl _)
  rw [List.take_of_length_le (by rw [be_length]; exact Nat.le_refl _), Nat.sub_self] at h
  rw [h]
  simp
  exact Nat.mod_eq_of_lt hn

theorem flat_nextW {ps : List (List UInt8)} {k : Nat} (hk : k < ps.length) : (ps.take (k + 1)).flatten = (ps.take k).flatten ++ ps[k] := by
  rw [List.take_succ_eq_append_getElem hk, List.flatten_append]
  simp

end

section
/-
  The walks of package wire, fourth part: Append.
-/
open Go.RowKit
set_option linter.unusedVariables false

/-- One append behind the Writer's field, no block laid ahead of it. -/
theorem wr_step0 {wr w2 : World} {base b N M cap c1 : Nat} {ao a1 : Option Addr} {row' : Option Nat} {T : List UInt8}
    (hf : wr.frozen? ⟨b, 0, none⟩ = false) (hbb : base ≤ b) (hrb : row' ≠ some b) (hc : wr.cell? ⟨b, 0, none⟩ = some (.slice ao N cap)) (hbl : b < wr.heap.size)
    (hM : M = T.length) (ho : w2.ownsRow base 5 1 (.slice a1 M c1) M (T.map bv)) (hgrow : wr.grownBy w2 (Value.slice ao N cap).ownBlock)
    (hnc : M ≤ c1) (hcm : c1 ≤ maxLen) {hrw : (Value.slice ao N cap).ownBlock = row'} {hat : (Value.slice a1 M c1).ownBlock = (Value.slice ao N cap).ownBlock ∨ (Value.slice a1 M c1).ownBlock = some wr.heap.size} :
    ∃ row2, IsWr (w2.setCell ⟨b, 0, none⟩ (.slice a1 M c1)) base b row2 T ∧ Fr wr (w2.setCell ⟨b, 0, none⟩ (.slice a1 M c1)) b row' ∧ (row2 = row' ∨ ∃ k, row2 = some k ∧ wr.heap.size ≤ k) := by
  have hcb : w2.cell? ⟨b, 0, none⟩ = wr.cell? ⟨b, 0, none⟩ := hgrow.cell_far ⟨b, 0, none⟩ hbl (by rw [hrw]; exact Ne.symm hrb)
  have hfb : w2.frozen? ⟨b, 0, none⟩ = false := by
    rw [hgrow.frozen_far ⟨b, 0, none⟩ hbl (by rw [hrw]; exact Ne.symm hrb)]
    exact hf
  have hnb : (Value.slice a1 M c1).ownBlock ≠ some b := by
    rcases hat with e | e
    · rw [e, hrw]; exact hrb
    · rw [e]; intro e; injection e with e; omega
  have hs := grown_setCell w2 b 0 (.slice a1 M c1)
  subst hM
  refine ⟨(Value.slice a1 T.length c1).ownBlock, ⟨by simpa using hfb, hbb, hnb, a1, c1, ?_, ho.kept hs (.inr hnb), rfl, hnc, hcm⟩, ?_, ?_⟩
  · exact World.cell?_setCell_same w2 _ _ (hcb.trans hc)
  · refine ⟨hgrow.os, hgrow.tape, hgrow.output, ?_, ?_⟩
    · have := hgrow.size
      have := hs.size
      omega
    · intro k hk hkb hkr
      rw [hs.block k (by have := hgrow.size; omega) (by intro e; injection e with e; exact hkb e)]
      exact hgrow.block k (by omega) (by rw [hrw]; exact hkr)
  · rcases hat with e | e
    · exact .inl (e.trans hrw)
    · exact .inr ⟨_, e, by omega⟩

theorem flat_lenW (ps : List (List UInt8)) (B : Nat) (h : ∀ p ∈ ps, p.length ≤ B) : ps.flatten.length ≤ ps.length * B := by
  induction ps with
  | nil => simp
  | cons p ps ih =>
    have h1 := h p (by simp)
    have h2 := ih (fun q hq => h q (by simp [hq]))
    simp only [List.flatten_cons, List.length_append, List.length_cons, Nat.add_mul, Nat.one_mul]
    omega

set_option maxRecDepth 100000 in
set_option maxHeartbeats 1000000 in
/-- Append. -/
theorem append_any (base b : Nat) (row : Option Nat) (l : List UInt8) (pv : Value) (vs : List Value) (ps : List (List UInt8)) (w : World) (hw : IsWr w base b row l) (hbase : base ≤ w.heap.size)
    (hst : ∀ W, Fr w W b row → Sl 1 W pv vs.length vs ∧ Parts W vs ps) (hl2 : l.length ≤ 100000) (hn50 : vs.length ≤ 10) (hp : ∀ p ∈ ps, p.length ≤ 10000) :
    Calls Tryz.prog 60 #[.pointer (some ⟨b, 0, none⟩), pv] w fun e w' => e = .returned (.tuple #[]) ∧ ∃ row', IsWr w' base b row' (l ++ ps.flatten) ∧ Fr w w' b row ∧ (row' = row ∨ ∃ k, row' = some k ∧ w.heap.size ≤ k) := by
  obtain ⟨i0, hi, hz0, hz1, hz2⟩ := info_parts Tryz.info5
  have HW : Hid (IsWr w base b row l) := hw
  have HS : Hid (∀ W, Fr w W b row → Sl 1 W pv vs.length vs ∧ Parts W vs ps) := hst
  have h0 := (hst w (Fr.refl _ _ _)).1
  have HL : Hid (vs.length = ps.length) := (hst w (Fr.refl _ _ _)).2.1
  have HP : Hid (∀ p ∈ ps, p.length ≤ 10000) := hp
  clear hw hst hp
  obtain ⟨hl1, a0, c0, rfl, hc0, hm0, _, hcell⟩ := h0
  clear hl1
  unfold maxLen at hm0
  obtain ⟨n, hn⟩ : ∃ n, vs.length = n := ⟨_, rfl⟩
  rw [hn] at hn50 hc0 hcell ⊢
  have Hn : Hid (vs.length = n) := hn
  have HSn : Hid (∀ W, Fr w W b row → Sl 1 W (.slice a0 n c0) vs.length vs ∧ Parts W vs ps) := by rw [hn] at HS; rw [hn]; exact HS
  clear hn HS
  go_enter Tryz.func60, Tryz.ntmps60
  go_wp2
  go_loopw [8] (fun i wr => ∃ (k : Nat) (row' : Option Nat), k ≤ n ∧ i = .int .i64 k ∧ IsWr wr base b row' (l ++ (ps.take k).flatten) ∧ Fr w wr b row ∧ (row' = row ∨ ∃ k, row' = some k ∧ w.heap.size ≤ k)) (fun i _ => n - (intOf i).toNat)
  case atStart => exact ⟨0, row, by omega, rfl, by simpa using HW.out, Fr.refl _ _ _, .inl rfl⟩
  case round =>
    obtain ⟨k, row', hk, rfl, hwr, hfr, hrow⟩ := hrel
    have HR : Hid (Fr w wr b row ∧ (row' = row ∨ ∃ k, row' = some k ∧ w.heap.size ≤ k)) := ⟨hfr, hrow⟩
    clear hfr hrow
    by_cases hlt : k < n
    · rcases hcell with hz | ⟨pb, po, rfl, hcl⟩
      · omega
      clear hcl
      have hkv : k < vs.length := by rw [Hn.out]; exact hlt
      have hkp : k < ps.length := by rw [← HL.out]; exact hkv
      obtain ⟨hs1, hs2⟩ := HSn.out wr HR.out.1
      have hbk := hs2.2 k vs[k] ps[k] (List.getElem?_eq_getElem hkv) (List.getElem?_eq_getElem hkp)
      have hck : wr.cell? ⟨pb, po + k, none⟩ = some vs[k] := by
        obtain ⟨_, a', c', hv', _, _, _, h5⟩ := hs1
        injection hv' with e1 _ _
        rcases h5 with h5 | ⟨b', off', e2, h5⟩
        · omega
        · rw [e2] at e1
          obtain ⟨rfl, rfl⟩ : pb = b' ∧ po = off' := by injection Option.some.inj e1 with e1 e2 _; exact ⟨e1, e2⟩
          exact h5 k _ (List.getElem?_eq_getElem hkv)
      have hp100 := HP.out ps[k] (List.getElem_mem hkp)
      have hfl : (ps.take k).flatten.length ≤ k * 10000 := by
        have h := flat_lenW (ps.take k) 10000 (fun p hp => HP.out p (List.mem_of_mem_take hp))
        simp at h ⊢
        have : min k ps.length * 10000 ≤ k * 10000 := Nat.mul_le_mul_right _ (Nat.min_le_left _ _)
        omega
      have hT : Hid (l ++ (ps.take (k + 1)).flatten = (l ++ (ps.take k).flatten) ++ ps[k]) := by
        unfold Hid
        rw [flat_nextW hkp, List.append_assoc]
      obtain ⟨hf, hbb, hrb, ao, cap, hc, hown, hrw, hcap, hcm⟩ := hwr
      unfold maxLen at hcm
      have hbl : b < wr.heap.size := cell_block_lt hc
      have hbw : base ≤ wr.heap.size := by have := HR.out.1.size; omega
      have hTl : (l ++ (ps.take k).flatten).length ≤ 200000 := by rw [List.length_append]; omega
      obtain ⟨_, pao, pc, hv, hp2, hp3, _, _⟩ := id hbk
      unfold maxLen at hp3
      rw [hv] at hck hbk
      have HB : Hid (Bs wr (.slice pao ps[k].length pc) ps[k]) := hbk
      clear hv hbk hs1 hs2 hfl
      generalize ps[k] = p at *
      generalize l ++ (ps.take k).flatten = T at *
      go_wp2_with (at_builtin; (refine wpList_app _ rfl (.tmp 16) (.tmp 17) 25 rfl base 5 i0 (.int .u8 0) 1 1 Tryz.underlying25 hi hz0 hz1 hz2 rfl (by decide) (.slice ao T.length cap) T.length (T.map bv) rfl hown (.slice pao p.length pc) p.length (p.map bv) rfl HB.out (bv_oneCell _) (by unfold maxLen; omega) (by omega) hbw ?_; intro a1 c1 w2 ho hgrow hat hne2 hnc2 hcm2; have q1 := (hgrow.cell_far ⟨b, 0, none⟩ hbl (by rw [hrw]; exact Ne.symm hrb)); have q2 := (hgrow.frozen_far ⟨b, 0, none⟩ hbl (by rw [hrw]; exact Ne.symm hrb))))
      go_roundw
      case rel =>
        rw [← List.map_append] at ho
        have R := wr_step0 (hat := hat) (hrw := hrw) hf hbb hrb hc hbl (by simp) ho hgrow hnc2 hcm2
        rw [← hT.out] at R
        obtain ⟨row2, R1, R2, R3⟩ := R
        have R4 := fr_trans HR.out.1 HR.out.2 R2 R3
        exact ⟨k + 1, row2, by omega, by go_num, R1, R4.1, R4.2⟩
      case measure => simp [intOf]; omega
    · go_wp2
      go_end0
      have e : ps.take k = ps := List.take_of_length_le (by rw [← HL.out, Hn.out]; omega)
      rw [e] at hwr
      exact ⟨rfl, row', hwr, HR.out⟩

end

section
/-
  A Writer: how it is kept.
-/
open Go.RowKit
set_option linter.unusedVariables false

/-- The zero Writer, in a new block. -/
theorem zero_wr (w : World) (base : Nat) (hb : base ≤ w.heap.size) : IsWr (w.alloc (.cells #[.slice none 0 0] 125)) base w.heap.size none [] := by
  refine ⟨by simp, hb, by simp, none, 0, by simp, World.ownsRow_nil _ _ _ _, rfl, Nat.le_refl _, by simp [maxLen]⟩

theorem IsWr.kept {w w' : World} {base b : Nat} {row : Option Nat} {l : List UInt8} (h : IsWr w base b row l) (hb : w'.heap[b]? = w.heap[b]?) (hr : ∀ k, row = some k → w'.heap[k]? = w.heap[k]?) : IsWr w' base b row l := by
  obtain ⟨h1, h2, h3, ao, cap, h4, h5, h6, h7, h8⟩ := h
  refine ⟨(World.frozen?_of_block (a := ⟨b, 0, none⟩) hb).trans h1, h2, h3, ao, cap, (World.cell?_of_block (a := ⟨b, 0, none⟩) hb).trans h4, ?_, h6, h7, h8⟩
  refine ⟨h5.1, ?_⟩
  rcases h5.2 with h | ⟨g, cap', cur, hv, hg, hh, hx⟩
  · exact .inl h
  · refine .inr ⟨g, cap', cur, hv, hg, ?_, hx⟩
    have : row = some g := by rw [← h6, hv]; rfl
    rw [hr g this]
    exact hh

theorem IsWr.lt {w : World} {base b : Nat} {row : Option Nat} {l : List UInt8} (h : IsWr w base b row l) : b < w.heap.size ∧ ∀ k, row = some k → base ≤ k ∧ k < w.heap.size := by
  obtain ⟨h1, h2, h3, ao, cap, h4, h5, h6, h7, h8⟩ := h
  refine ⟨cell_block_lt h4, fun k hk => ?_⟩
  rw [← h6] at hk
  exact h5.lt k hk

theorem IsWr.below {w w' : World} {base b : Nat} {row : Option Nat} {l : List UInt8} (h : IsWr w base b row l) (hb : Below w.heap.size w w') : IsWr w' base b row l :=
  h.kept (hb.block b h.lt.1) (fun k hk => hb.block k (h.lt.2 k hk).2)

theorem Fr.wr {w w' : World} {base b : Nat} {row : Option Nat} {l : List UInt8} (h : Fr w w' b row) (hw : IsWr w base b row l) (hb : base ≤ w.heap.size) : Below base w w' :=
  h.below hb hw.2.1 (fun k hk => (hw.lt.2 k hk).1)

end

section
/-
  The walks of the document's own answers for wire: Put.
-/
open Go.RowKit
set_option linter.unusedVariables false

/-- The bytes of a number, as they are filled from the last one on. -/
def tailed (n s k : Nat) : List Value := List.replicate (s - k) (.int .u8 0) ++ ((be n s).drop (s - k)).map bv

theorem tailed_zero (n s : Nat) : tailed n s 0 = List.replicate s (.int .u8 0) := by
  simp [tailed, be]

theorem tailed_all (n s : Nat) : tailed n s s = (be n s).map bv := by simp [tailed]

theorem tailed_set (n s k : Nat) (h : k < s) : (tailed n s k).set (s - 1 - k) (bv (UInt8.ofNat (n / 2 ^ (8 * k)))) = tailed n s (k + 1) := by
  have e1 : s - k = (s - 1 - k) + 1 := by omega
  have e2 : s - (k + 1) = s - 1 - k := by omega
  have hl : s - 1 - k < (be n s).length := by rw [be_length]; omega
  have hb : (be n s)[s - 1 - k] = UInt8.ofNat (n / 2 ^ (8 * k)) := by
    have e3 : s - 1 - (s - 1 - k) = k := by omega
    simp [be, e3]
  unfold tailed
  rw [e2, List.drop_eq_getElem_cons hl, hb, e1]
  rw [List.replicate_succ', List.append_assoc, List.set_append_right _ _ (by simp)]
  simp

set_option maxRecDepth 100000 in
set_option maxHeartbeats 1000000 in
/-- The document's Put. -/
theorem rput_any (v : Value) (l : List UInt8) (n s : Nat) (w : World) (hl : Bs w v l) (hl2 : l.length ≤ 1000000) (hn : n < 18446744073709551616) (h1 : 1 ≤ s) (h8 : s ≤ 8) :
    Calls Tryz.prog 64 #[v, .int .u64 n, .int .i64 s] w fun e w' => ∃ a c, e = .returned (.slice a (l.length + s) c) ∧ w'.ownsRow w.heap.size 5 1 (.slice a (l.length + s) c) (l.length + s) ((l ++ be n s).map bv) ∧ Below w.heap.size w w' ∧ l.length + s ≤ c ∧ c ≤ maxLen := by
  obtain ⟨i0, hi, hz0, hz1, hz2⟩ := info_parts Tryz.info5
  have H0 : Hid (Bs w v l) := hl
  obtain ⟨hll, a0, c0, rfl, hc0, hm0, _, hcell⟩ := hl
  clear hll hcell
  unfold maxLen at hm0
  go_enter Tryz.func64, Tryz.ntmps64
  go_wp2_with (at_make; refine wpList_make_full _ rfl _ _ 25 rfl w.heap.size 5 i0 (.int .u8 0) 1 Tryz.underlying25 hi hz0 hz1 _ _ _ _ s rfl rfl rfl rfl (by rw [hz2]; omega) (by unfold maxLen; omega) (Nat.le_refl _) ?_; intro w2 ho hgrow)
  have X2 : Hid (Below w.heap.size w w2) := (Below.refl _ _).grown hgrow (Nat.le_refl _) (by intro k hk; cases hk)
  have O2 : Hid (w2.ownsRow w.heap.size 5 1 (.slice (some ⟨w.heap.size, 0, none⟩) s s) s (tailed n s 0)) := by
    rw [tailed_zero]
    simp only [Value.cells, Nat.mul_one, toList_madeCells_one] at ho
    exact ho
  clear hgrow ho
  go_loopw [1, 8] (fun x i wr => ∃ (k m : Nat), k ≤ s ∧ i = .int .i64 ((s : Int) - 1 - (k : Int)) ∧ x = .int .u64 m ∧ m < 18446744073709551616 ∧ m = n / 2 ^ (8 * k) ∧ wr.ownsRow w.heap.size 5 1 (.slice (some ⟨w.heap.size, 0, none⟩) s s) s (tailed n s k) ∧ Below w.heap.size w wr) (fun _ i _ => ((intOf i) + 1).toNat)
  case atStart => exact ⟨0, n, by omega, by go_num, rfl, hn, by simp, O2.out, X2.out⟩
  case round =>
    obtain ⟨k, m, hk, rfl, rfl, hm, he, hown, hbel⟩ := hrel
    have H : Hid (m = n / 2 ^ (8 * k)) := he
    have XB : Hid (Below w.heap.size w wr) := hbel
    clear he hbel
    by_cases hlt : k < s
    · obtain ⟨d, hd⟩ : ∃ d : Nat, (s : Int) - 1 - (k : Int) = (d : Int) := ⟨s - 1 - k, by omega⟩
      have Hd : Hid (d = s - 1 - k) := by unfold Hid; omega
      have hds : d < s := by omega
      rw [hd]
      have hxl : (tailed n s k).length = s := by have := hown.1; simpa using this
      have hcl := hown.cellAt d (by omega)
      obtain ⟨u, hu⟩ : ∃ u, (tailed n s k)[d]? = some u := ⟨_, List.getElem?_eq_getElem (by omega)⟩
      rw [hu] at hcl
      have hfr := hown.frozenAt d
      have HO : Hid (∀ u, (wr.setCell ⟨w.heap.size, d, none⟩ u).ownsRow w.heap.size 5 1 (.slice (some ⟨w.heap.size, 0, none⟩) s s) s ((tailed n s k).set d u)) := fun u => (hown.stored d u).1
      have HD2 : Hid ((d : Int) - 1 = (s : Int) - 1 - ((k + 1 : Nat) : Int)) := by unfold Hid; omega
      clear hu hxl hown hd
      go_wp2
      go_roundw
      case rel =>
        refine ⟨k + 1, m / 256, by omega, int_val HD2.out, int_val (by omega), by omega, by rw [H.out, Nat.div_div_eq_div_mul, show 8 * (k + 1) = 8 * k + 8 by omega, Nat.pow_add], ?_, XB.out.setCell (Nat.le_refl _) _⟩
        have e : Value.int .u8 ((m : Int) % 256) = bv (UInt8.ofNat (n / 2 ^ (8 * k))) := by rw [← H.out]; simp [bv]
        have ht := tailed_set n s k hlt
        rw [← Hd.out] at ht
        rw [e, ← ht]
        exact HO.out _
      case measure => simp [intOf]
    · have hks : k = s := by omega
      subst hks
      rw [tailed_all] at hown
      have hneg : ¬ (0 : Int) ≤ (k : Int) - 1 - (k : Int) := by omega
      have X3 : Hid (Below w.heap.size w (wr.alloc (.cells #[] 5))) := XB.out.alloc XB.out.size _
      have OS : Hid (Bs wr (.slice (some ⟨w.heap.size, 0, none⟩) k k) (be n k)) := by
        have h := owned_sl hown
        unfold Hid Bs
        rw [be_length]
        exact h
      have hO1 : (wr.alloc (.cells #[] 5)).ownsRow w.heap.size 5 1 (.slice (some ⟨wr.heap.size, 0, none⟩) 0 0) 0 [] := World.ownsRow_lit wr #[] 0 XB.out.size (by simp [maxLen]) rfl
      have HB1 : Hid (Bs (wr.alloc (.cells #[] 5)) (.slice a0 l.length c0) l) := H0.out.below X3.out
      have hwl : w.heap.size < wr.heap.size := (hown.lt _ rfl).2
      have HW : Hid (w.heap.size < wr.heap.size) := hwl
      clear hown O2 X2 hwl
      go_wp2_with (first
        | (at_builtin; (refine wpList_app _ rfl (.tmp 25) (.tmp 26) 25 rfl w.heap.size 5 i0 (.int .u8 0) 1 1 Tryz.underlying25 hi hz0 hz1 hz2 rfl (by decide) _ _ _ rfl hO1 _ _ _ rfl HB1.out (bv_oneCell _) (by unfold maxLen; omega) (by omega) X3.out.size ?_); intro a3 c3 w3 ho hgrow hat hne2 hnc2 hcm2; simp only [Nat.zero_add, List.nil_append] at ho hat hnc2; have X4 : Hid (Below w.heap.size w w3) := X3.out.grown hgrow X3.out.size (fun j hj => (hO1.lt j hj).1); have OS3 : Hid (Bs w3 (.slice (some ⟨w.heap.size, 0, none⟩) k k) (be n k)) := OS.out.carry (fun p u hp => (World.cell?_of_block (hgrow.block p.block (by have := cell_block_lt hp; simp; omega) (by intro e; injection e with e; have := cell_block_lt hp; have e' : p.block = wr.heap.size := e; omega))).trans ((World.cell?_alloc_lt _ _ _ (cell_block_lt hp)).trans hp)); clear hgrow hat)
        | (at_builtin; (refine wpList_app _ rfl (.tmp 27) (.tmp 28) 25 rfl w.heap.size 5 i0 (.int .u8 0) 1 1 Tryz.underlying25 hi hz0 hz1 hz2 rfl (by decide) (.slice a3 l.length c3) l.length (l.map bv) rfl ho (.slice (some ⟨w.heap.size, 0, none⟩) k k) k ((be n k).map bv) rfl (by have h := OS3.out; unfold Bs at h; rw [be_length] at h; exact h) (bv_oneCell _) (by unfold maxLen; omega) (by omega) X4.out.size ?_); intro a5 c5 w5 ho5 hgrow5 hat5 hne5 hnc5 hcm5; have X5 : Hid (Below w.heap.size w w5) := X4.out.grown hgrow5 X4.out.size (fun j hj => (ho.lt j hj).1)))
      go_ret
      exact ⟨a5, c5, rfl, by first | exact ho5 | (rw [List.map_append]; exact ho5), X5.out, hnc5, hcm5⟩

end

end Go.Proofs.YtkcijbejngnalaaGreat
