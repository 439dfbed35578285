/-
  An arena as it lies in memory; the walks of arena.New, Size, Live, Peak, Has.
-/
import Derived.Test.YtofbklabapmdcaaBlkS
import Derived.Test.YtofbklabapmdcaaLSlice
import Derived.Test.YtofbklabapmdcaaLPh
import Derived.Deep.QuietTactic
import Derived.BigQuiet
namespace Go.Proofs.Ytofbklabapmdcaa
open Go.RowKit
set_option linter.unusedVariables false

/-- A block of an arena: where it lies, what it holds, whether it is given out. -/
structure Bk where
  q : Nat
  b : List UInt8
  g : Bool

/-- An arena: its blocks (where each lies, what it holds, whether it is given out), and which came back. -/
structure Ar where
  size : Nat
  most : Int
  vm : Value
  vb : Value
  bl : List Bk
  back : List Nat

def slotCells (size : Nat) (x : Bk) : List Value := [.slice (some ⟨x.q, 0, none⟩) size size, .bool x.g]

structure IsAr (w : World) (B a : Nat) (s : Ar) : Prop where
  at4 : w.heap[a]? = some (.cells #[.int .i64 s.size, .int .i64 s.most, s.vm, s.vb] 52 (0, 0))
  ha : B ≤ a
  made : w.ownsRow B 54 2 s.vm s.bl.length (s.bl.flatMap (slotCells s.size))
  backs : w.ownsRow B 3 1 s.vb s.back.length (s.back.map fun i : Nat => Value.int .i64 (i : Int))
  blk : ∀ (i : Nat) (x : Bk), s.bl[i]? = some x → B ≤ x.q ∧ Blk w x.q [] x.b [] ∧ x.b.length = s.size
  apart : ∀ (i j : Nat) (x y : Bk), s.bl[i]? = some x → s.bl[j]? = some y → x.q = y.q → i = j
  nodup : s.back.Nodup
  mem : ∀ i, i ∈ s.back ↔ ∃ x, s.bl[i]? = some x ∧ x.g = false
  small : s.size ≤ 16777216

/-- Its own blocks. -/
def Ar.own (a : Nat) (s : Ar) (k : Nat) : Prop := k = a ∨ s.vm.ownBlock = some k ∨ s.vb.ownBlock = some k ∨ ∃ x ∈ s.bl, x.q = k

/-- Is a block given out? -/
def Ar.has (s : Ar) (i : Int) : Bool := decide (0 ≤ i) && (match s.bl[i.toNat]? with | some x => x.g | none => false)

theorem IsAr.kept {w w' : World} {B a : Nat} {s : Ar} (h : IsAr w B a s) (hk : ∀ k, s.own a k → w'.heap[k]? = w.heap[k]?) : IsAr w' B a s where
  at4 := by rw [hk a (.inl rfl)]; exact h.at4
  ha := h.ha
  made := by
    refine ⟨h.made.1, ?_⟩
    rcases h.made.2 with h' | ⟨g, cap, cur, hv, hg, hh, hx⟩
    · exact .inl h'
    · exact .inr ⟨g, cap, cur, hv, hg, by rw [hk g (.inr (.inl (by rw [hv]; rfl)))]; exact hh, hx⟩
  backs := by
    refine ⟨h.backs.1, ?_⟩
    rcases h.backs.2 with h' | ⟨g, cap, cur, hv, hg, hh, hx⟩
    · exact .inl h'
    · exact .inr ⟨g, cap, cur, hv, hg, by rw [hk g (.inr (.inr (.inl (by rw [hv]; rfl))))]; exact hh, hx⟩
  blk := fun i x hx => ⟨(h.blk i x hx).1, (h.blk i x hx).2.1.kept (hk x.q (.inr (.inr (.inr ⟨x, List.mem_of_getElem? hx, rfl⟩)))), (h.blk i x hx).2.2⟩
  apart := h.apart
  nodup := h.nodup
  mem := h.mem
  small := h.small

theorem IsAr.own_lt {w : World} {B a : Nat} {s : Ar} (h : IsAr w B a s) : ∀ k, s.own a k → k < w.heap.size := by
  intro k hk
  rcases hk with rfl | hk | hk | ⟨x, hx, rfl⟩
  · exact (Array.getElem?_eq_some_iff.1 h.at4).1
  · exact (h.made.lt k hk).2
  · exact (h.backs.lt k hk).2
  · obtain ⟨i, hi, rfl⟩ := List.mem_iff_getElem.1 hx
    exact (h.blk i _ (List.getElem?_eq_getElem hi)).2.1.lt

theorem IsAr.own_ge {w : World} {B a : Nat} {s : Ar} (h : IsAr w B a s) : ∀ k, s.own a k → B ≤ k := by
  intro k hk
  rcases hk with rfl | hk | hk | ⟨x, hx, rfl⟩
  · exact h.ha
  · exact (h.made.lt k hk).1
  · exact (h.backs.lt k hk).1
  · obtain ⟨i, hi, rfl⟩ := List.mem_iff_getElem.1 hx
    exact (h.blk i _ (List.getElem?_eq_getElem hi)).1

theorem IsAr.below {w w' : World} {B a : Nat} {s : Ar} (h : IsAr w B a s) (hb : Below w.heap.size w w') : IsAr w' B a s :=
  h.kept fun k hk => hb.block k (h.own_lt k hk)

theorem IsAr.cell0 {w : World} {B a : Nat} {s : Ar} (h : IsAr w B a s) : w.cell? ⟨a, 0, none⟩ = some (.int .i64 s.size) := by simp [World.cell?, h.at4]
theorem IsAr.cell1 {w : World} {B a : Nat} {s : Ar} (h : IsAr w B a s) : w.cell? ⟨a, 1, none⟩ = some (.int .i64 s.most) := by simp [World.cell?, h.at4]
theorem IsAr.cell2 {w : World} {B a : Nat} {s : Ar} (h : IsAr w B a s) : w.cell? ⟨a, 2, none⟩ = some s.vm := by simp [World.cell?, h.at4]
theorem IsAr.cell3 {w : World} {B a : Nat} {s : Ar} (h : IsAr w B a s) : w.cell? ⟨a, 3, none⟩ = some s.vb := by simp [World.cell?, h.at4]
theorem IsAr.frozen {w : World} {B a : Nat} {s : Ar} (h : IsAr w B a s) (j : Nat) : w.frozen? ⟨a, j, none⟩ = false := by simp [World.frozen?, h.at4]

theorem length_slots (size : Nat) (l : List Bk) : (l.flatMap (slotCells size)).length = l.length * 2 := by
  induction l with
  | nil => rfl
  | cons x l ih => simp only [List.flatMap_cons, List.length_append, ih, List.length_cons]; simp [slotCells]; omega

theorem slots_at (size : Nat) (l : List Bk) : ∀ i x, l[i]? = some x → ∀ j, j < 2 → (l.flatMap (slotCells size))[i * 2 + j]? = (slotCells size x)[j]? := by
  induction l with
  | nil => intro i x h; simp at h
  | cons y l ih =>
    intro i x h j hj
    simp only [List.flatMap_cons]
    cases i with
    | zero =>
      simp at h
      subst h
      rw [List.getElem?_append_left (by simp [slotCells]; omega)]
      simp
    | succ i =>
      rw [List.getElem?_append_right (by simp [slotCells]; omega)]
      have e : (i + 1) * 2 + j - (slotCells size y).length = i * 2 + j := by simp [slotCells]; omega
      rw [e, ih i x (by simpa using h) j hj]

/-- What lies at a block's place. -/
theorem IsAr.slot {w : World} {B a : Nat} {s : Ar} (h : IsAr w B a s) {i : Nat} {x : Bk} (hx : s.bl[i]? = some x) :
    ∃ g cap, s.vm = .slice (some ⟨g, 0, none⟩) s.bl.length cap ∧ s.bl.length ≤ cap ∧ cap ≤ maxLen ∧ w.cell? ⟨g, i * 2, none⟩ = some (.slice (some ⟨x.q, 0, none⟩) s.size s.size) ∧ w.cell? ⟨g, i * 2 + 1, none⟩ = some (.bool x.g) ∧ (∀ j, w.frozen? ⟨g, j, none⟩ = false) := by
  have hi : i < s.bl.length := (List.getElem?_eq_some_iff.1 hx).1
  rcases h.made.2 with ⟨_, h0⟩ | ⟨g, cap, cur, hv, hg, hh, hnc, hcm, hcs, ht⟩
  · omega
  · refine ⟨g, cap, hv, hnc, hcm, ?_, ?_, ?_⟩
    · have e := slots_at s.size s.bl i x hx 0 (by omega)
      rw [← ht, List.getElem?_take, if_pos (by omega)] at e
      simp only [World.cell?, hh]
      simpa [slotCells] using e
    · have e := slots_at s.size s.bl i x hx 1 (by omega)
      rw [← ht, List.getElem?_take, if_pos (by omega)] at e
      simp only [World.cell?, hh]
      simpa [slotCells] using e
    · intro j
      simp [World.frozen?, hh]

theorem IsAr.vm_shape {w : World} {B a : Nat} {s : Ar} (h : IsAr w B a s) : ∃ ao cap, s.vm = .slice ao s.bl.length cap ∧ s.bl.length ≤ cap ∧ cap ≤ maxLen := by
  obtain ⟨ao, cap, h1, h2, h3, _⟩ := owned_slice h.made
  exact ⟨ao, cap, h1, h2, h3⟩
theorem IsAr.vb_shape {w : World} {B a : Nat} {s : Ar} (h : IsAr w B a s) : ∃ ao cap, s.vb = .slice ao s.back.length cap ∧ s.back.length ≤ cap ∧ cap ≤ maxLen := by
  obtain ⟨ao, cap, h1, h2, h3, _⟩ := owned_slice h.backs
  exact ⟨ao, cap, h1, h2, h3⟩

set_option maxRecDepth 100000 in
set_option maxHeartbeats 400000 in
/-- Has: it only reads. -/
theorem has_any (B a : Nat) (s : Ar) (i : Int) (w : World) (h : IsAr w B a s) :
    Calls Try.prog 17 #[.pointer (some ⟨a, 0, none⟩), .int .i64 i] w fun e w' => e = .returned (.bool (s.has i)) ∧ w' = w := by
  have HA : Hid (IsAr w B a s) := h
  have c2 := h.cell2
  obtain ⟨ao, cap, hv, hnc, hcm⟩ := h.vm_shape
  unfold maxLen at hcm
  clear h
  by_cases h0 : 0 ≤ i
  · obtain ⟨k, rfl⟩ := Int.eq_ofNat_of_zero_le h0
    by_cases hk : k < s.bl.length
    · have hx : s.bl[k]? = some s.bl[k] := List.getElem?_eq_getElem hk
      obtain ⟨g, cap', hv', hnc', hcm', c4, c5, hfr⟩ := HA.out.slot hx
      have HR : Hid (s.has (k : Int) = s.bl[k].g) := by
        unfold Hid Ar.has
        simp [hx]
      rw [HR.out]
      rw [hv'] at c2
      clear hv hfr c4 hx HR hnc hcm
      unfold maxLen at hcm'
      generalize s.bl[k].g = gv at *
      clear hv'
      generalize s.bl.length = n at *
      go_enter Try.func17, Try.ntmps17
      go_wp2
      go_ret
      exact ⟨rfl, rfl⟩
    · have HR : Hid (s.has (k : Int) = false) := by
        unfold Hid Ar.has
        simp [List.getElem?_eq_none (Nat.le_of_not_lt hk)]
      rw [HR.out]
      rw [hv] at c2
      clear hv HR
      generalize s.bl.length = n at *
      go_enter Try.func17, Try.ntmps17
      go_wp2
      go_ret
      exact ⟨rfl, rfl⟩
  · have HR : Hid (s.has i = false) := by
      unfold Hid Ar.has
      simp [h0]
    rw [HR.out]
    clear HR c2 hv hnc hcm
    go_enter Try.func17, Try.ntmps17
    go_wp2
    go_ret
    exact ⟨rfl, rfl⟩

end Go.Proofs.Ytofbklabapmdcaa
