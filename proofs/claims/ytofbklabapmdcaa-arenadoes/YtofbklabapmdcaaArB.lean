/-
  The walks of package arena, second part: New, Size, Live, Peak, Zero, Get, Put, Onto, Free.
-/
import Derived.Test.YtofbklabapmdcaaArA
import Derived.Test.YtofbklabapmdcaaLClear
namespace Go.Proofs.Ytofbklabapmdcaa
open Go.RowKit
set_option linter.unusedVariables false

theorem has_iff {s : Ar} {i : Int} (h : s.has i = true) : ∃ (k : Nat) (x : Bk), i = (k : Int) ∧ s.bl[k]? = some x ∧ x.g = true := by
  unfold Ar.has at h
  rw [Bool.and_eq_true, decide_eq_true_eq] at h
  obtain ⟨h0, h1⟩ := h
  obtain ⟨k, rfl⟩ := Int.eq_ofNat_of_zero_le h0
  refine ⟨k, ?_⟩
  simp only [Int.toNat_natCast] at h1
  cases hx : s.bl[k]? with
  | none => rw [hx] at h1; simp at h1
  | some x => rw [hx] at h1; exact ⟨x, rfl, rfl, h1⟩

theorem has_mk {s : Ar} {k : Nat} {x : Bk} (hx : s.bl[k]? = some x) (hg : x.g = true) : s.has (k : Int) = true := by
  unfold Ar.has
  simp [hx, hg]

def Ar.bytes (s : Ar) (i : Int) : List UInt8 := match s.bl[i.toNat]? with | some x => x.b | none => []

def Ar.setB (s : Ar) (k : Nat) (b : List UInt8) : Ar := { s with bl := s.bl.modify k fun x => { x with b := b } }

theorem setB_at {s : Ar} {k j : Nat} {b : List UInt8} : (s.setB k b).bl[j]? = if k = j then (s.bl[j]?).map (fun x => { x with b := b }) else s.bl[j]? := by
  unfold Ar.setB
  simp only [List.getElem?_modify]
  by_cases h : k = j <;> simp [h]

theorem flat_modify (size k : Nat) (b : List UInt8) (l : List Bk) : (l.modify k fun x => { x with b := b }).flatMap (slotCells size) = l.flatMap (slotCells size) := by
  rw [List.flatMap_def, List.flatMap_def]
  congr 1
  apply List.ext_getElem?
  intro i
  simp only [List.getElem?_map, List.getElem?_modify]
  cases l[i]? with
  | none => simp
  | some x => by_cases h : k = i <;> simp [h, slotCells]

/-- The blocks lie apart from all else that is the arena's. -/
theorem IsAr.q_ne {w : World} {B a : Nat} {s : Ar} (h : IsAr w B a s) {i : Nat} {x : Bk} (hx : s.bl[i]? = some x) : x.q ≠ a ∧ s.vm.ownBlock ≠ some x.q ∧ s.vb.ownBlock ≠ some x.q := by
  have hb := (h.blk i x hx).2.1
  unfold Blk at hb
  refine ⟨?_, ?_, ?_⟩
  · intro e
    rw [e, h.at4] at hb
    simp at hb
  · intro e
    rcases h.made.2 with ⟨hv, _⟩ | ⟨g, cap, cur, hv, _, hh, _⟩
    · rw [hv] at e; simp [Value.ownBlock] at e
    · rw [hv] at e
      obtain rfl := Option.some.inj e
      rw [hh] at hb
      simp at hb
  · intro e
    rcases h.backs.2 with ⟨hv, _⟩ | ⟨g, cap, cur, hv, _, hh, _⟩
    · rw [hv] at e; simp [Value.ownBlock] at e
    · rw [hv] at e
      obtain rfl := Option.some.inj e
      rw [hh] at hb
      simp at hb

theorem IsAr.setB {w w' : World} {B a : Nat} {s : Ar} (h : IsAr w B a s) {k : Nat} {x : Bk} (hx : s.bl[k]? = some x) (hg : w.grownBy w' (some x.q)) {b : List UInt8} (hb : Blk w' x.q [] b []) (hl : b.length = s.size) : IsAr w' B a (s.setB k b) := by
  obtain ⟨n1, n2, n3⟩ := h.q_ne hx
  have keep : ∀ j, j < w.heap.size → j ≠ x.q → w'.heap[j]? = w.heap[j]? := grown_ne hg
  have hk2 : IsAr w B a s := h
  refine ⟨?_, h.ha, ?_, ?_, ?_, ?_, h.nodup, ?_, h.small⟩
  · rw [keep a (h.own_lt a (.inl rfl)) (fun e => n1 e.symm)]
    exact h.at4
  · have e1 : (s.setB k b).bl.length = s.bl.length := by simp [Ar.setB]
    have e2 : (s.setB k b).bl.flatMap (slotCells (s.setB k b).size) = s.bl.flatMap (slotCells s.size) := flat_modify _ _ _ _
    rw [e1, e2]
    exact owns_kept h.made (fun q hq => keep q (h.made.lt q hq).2 (fun e => n2 (by rw [← e]; exact hq)))
  · exact owns_kept h.backs (fun q hq => keep q (h.backs.lt q hq).2 (fun e => n3 (by rw [← e]; exact hq)))
  · intro i y hy
    rw [setB_at] at hy
    by_cases e : k = i
    · subst e
      rw [if_pos rfl, hx] at hy
      obtain rfl := Option.some.inj hy
      exact ⟨(h.blk k x hx).1, hb, hl⟩
    · rw [if_neg e] at hy
      obtain ⟨g1, g2, g3⟩ := h.blk i y hy
      refine ⟨g1, g2.kept (keep y.q g2.lt (fun e2 => e ?_)), g3⟩
      exact h.apart k i x y hx hy e2.symm
  · intro i j y z hy hz hq
    rw [setB_at] at hy hz
    have look : ∀ (i : Nat) (y : Bk), (if k = i then (s.bl[i]?).map (fun x => { x with b := b }) else s.bl[i]?) = some y → ∃ y', s.bl[i]? = some y' ∧ y'.q = y.q := by
      intro i y hy
      by_cases e : k = i
      · rw [if_pos e] at hy
        cases hi : s.bl[i]? with
        | none => rw [hi] at hy; simp at hy
        | some y' => rw [hi] at hy; simp at hy; subst hy; exact ⟨y', rfl, rfl⟩
      · rw [if_neg e] at hy
        exact ⟨y, hy, rfl⟩
    obtain ⟨y', hy', ey⟩ := look i y hy
    obtain ⟨z', hz', ez⟩ := look j z hz
    exact h.apart i j y' z' hy' hz' (by rw [ey, ez]; exact hq)
  · intro i
    show i ∈ s.back ↔ _
    rw [h.mem i, setB_at]
    by_cases e : k = i
    · subst e
      rw [if_pos rfl, hx]
      simp
    · rw [if_neg e]

set_option maxRecDepth 100000 in
set_option maxHeartbeats 400000 in
/-- New: an arena without blocks. -/
theorem anew_any (size most : Int) (w : World) (hs : size ≤ 16777216) :
    Calls Try.prog 5 #[.int .i64 size, .int .i64 most] w fun e w' => e = .returned (.pointer (some ⟨w.heap.size, 0, none⟩)) ∧ IsAr w' w.heap.size w.heap.size ⟨(max size 0).toNat, most, .slice none 0 0, .slice none 0 0, [], []⟩ ∧ Below w.heap.size w w' := by
  have hm := max2 size 0
  have hk : ((max size 0).toNat : Int) = max size 0 := by omega
  go_enter Try.func5, Try.ntmps5
  go_wp2
  go_ret
  refine ⟨rfl, ⟨?_, Nat.le_refl _, World.ownsRow_nil _ _ _ _, World.ownsRow_nil _ _ _ _, fun i x h => by simp at h, fun i j x y h => by simp at h, List.nodup_nil, fun i => by simp, by simp; omega⟩, below_alloc _ _⟩
  show (w.heap.push _)[w.heap.size]? = _
  simp [hk]

set_option maxRecDepth 100000 in
set_option maxHeartbeats 400000 in
theorem asize_any (B a : Nat) (s : Ar) (w : World) (h : IsAr w B a s) :
    Calls Try.prog 20 #[.pointer (some ⟨a, 0, none⟩)] w fun e w' => e = .returned (.int .i64 s.size) ∧ w' = w := by
  have c0 := h.cell0
  clear h
  go_enter Try.func20, Try.ntmps20
  go_wp2
  go_ret
  exact ⟨rfl, rfl⟩

set_option maxRecDepth 100000 in
set_option maxHeartbeats 400000 in
theorem apeak_any (B a : Nat) (s : Ar) (w : World) (h : IsAr w B a s) :
    Calls Try.prog 15 #[.pointer (some ⟨a, 0, none⟩)] w fun e w' => e = .returned (.int .i64 s.bl.length) ∧ w' = w := by
  have c2 := h.cell2
  obtain ⟨ao, cap, hv, hnc, hcm⟩ := h.vm_shape
  rw [hv] at c2
  clear h hv hcm
  go_enter Try.func15, Try.ntmps15
  go_wp2
  go_ret
  exact ⟨rfl, rfl⟩

set_option maxRecDepth 100000 in
set_option maxHeartbeats 400000 in
theorem alive_any (B a : Nat) (s : Ar) (w : World) (h : IsAr w B a s) :
    Calls Try.prog 14 #[.pointer (some ⟨a, 0, none⟩)] w fun e w' => e = .returned (.int .i64 ((s.bl.length : Int) - (s.back.length : Int))) ∧ ∃ n, w' = w.drewN n := by
  have c2 := h.cell2
  have c3 := h.cell3
  obtain ⟨ao, cap, hv, hnc, hcm⟩ := h.vm_shape
  obtain ⟨ao', cap', hv', hnc', hcm'⟩ := h.vb_shape
  unfold maxLen at hcm hcm'
  rw [hv] at c2
  rw [hv'] at c3
  clear h hv hv'
  generalize s.bl.length = n at *
  generalize s.back.length = m at *
  go_enter Try.func14, Try.ntmps14
  go_wp2
  go_quiet (fail)
  go_wp2
  go_ret
  exact ⟨rfl, nq, rfl⟩

set_option maxRecDepth 100000 in
set_option maxHeartbeats 400000 in
/-- Zero: it only reads. -/
theorem azero_any (B a : Nat) (s : Ar) (i : Int) (w : World) (h : IsAr w B a s) :
    Calls Try.prog 18 #[.pointer (some ⟨a, 0, none⟩), .int .i64 i] w fun e w' => e = .returned (.bool (s.has i && zeroB (s.bytes i))) ∧ w' = w := by
  have HA : Hid (IsAr w B a s) := h
  have c2 := h.cell2
  clear h
  cases hh : s.has i with
  | false =>
    clear c2
    go_enter Try.func18, Try.ntmps18
    go_wp2_with fail
    refine (has_any B a s i w HA.out).mono ?_
    rintro e w1 ⟨rfl, rfl⟩
    rw [hh]
    go_wp2
    go_ret
    exact ⟨rfl, rfl⟩
  | true =>
    obtain ⟨k, x, rfl, hx, hg⟩ := has_iff hh
    have HB : Hid (Bs w (.slice (some ⟨x.q, 0, none⟩) s.size s.size) x.b) := (HA.out.blk k x hx).2.1.bs0 _ _ (HA.out.blk k x hx).2.2.symm (Nat.le_refl _) (by have := HA.out.small; unfold maxLen; omega)
    have HY : Hid (s.bytes (k : Int) = x.b) := by unfold Hid Ar.bytes; simp [hx]
    have hk : k < s.bl.length := (List.getElem?_eq_some_iff.1 hx).1
    obtain ⟨g, cap', hv', hnc', hcm', c4, c5, hfr⟩ := HA.out.slot hx
    rw [hv'] at c2
    clear hfr c5 hx hg hv' hcm'
    rw [HY.out]
    have HH : Hid (s.has (k : Int) = true) := hh
    clear hh
    generalize s.bl.length = n at *
    go_enter Try.func18, Try.ntmps18
    go_wp2_with fail
    refine (has_any B a s k w HA.out).mono ?_
    rintro e w1 ⟨rfl, rfl⟩
    rw [HH.out]
    go_wp2_with fail
    refine (zero_any _ _ _ HB.out).mono ?_
    rintro e w2 ⟨rfl, rfl⟩
    go_wp2
    go_ret
    exact ⟨rfl, rfl⟩

end Go.Proofs.Ytofbklabapmdcaa
