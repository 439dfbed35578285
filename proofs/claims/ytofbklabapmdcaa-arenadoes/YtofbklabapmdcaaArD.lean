/-
  An arena's memory alone, and how it is written: a block is marked, its bytes are turned, a block is made, a number comes back or is taken.
-/
import Derived.Test.YtofbklabapmdcaaArC
import Derived.WalkSmall
namespace Go.Proofs.Ytofbklabapmdcaa
open Go.RowKit
set_option linter.unusedVariables false

structure ArMem (w : World) (B a : Nat) (s : Ar) : Prop where
  at4 : w.heap[a]? = some (.cells #[.int .i64 s.size, .int .i64 s.most, s.vm, s.vb] 52 (0, 0))
  ha : B ≤ a
  made : w.ownsRow B 54 2 s.vm s.bl.length (s.bl.flatMap (slotCells s.size))
  backs : w.ownsRow B 3 1 s.vb s.back.length (s.back.map fun i : Nat => Value.int .i64 (i : Int))
  blk : ∀ (i : Nat) (x : Bk), s.bl[i]? = some x → B ≤ x.q ∧ Blk w x.q [] x.b [] ∧ x.b.length = s.size
  apart : ∀ (i j : Nat) (x y : Bk), s.bl[i]? = some x → s.bl[j]? = some y → x.q = y.q → i = j
  small : s.size ≤ 16777216

theorem IsAr.toMem {w : World} {B a : Nat} {s : Ar} (h : IsAr w B a s) : ArMem w B a s := ⟨h.at4, h.ha, h.made, h.backs, h.blk, h.apart, h.small⟩
theorem ArMem.toAr {w : World} {B a : Nat} {s : Ar} (h : ArMem w B a s) (h1 : s.back.Nodup) (h2 : ∀ i, i ∈ s.back ↔ ∃ x, s.bl[i]? = some x ∧ x.g = false) : IsAr w B a s := ⟨h.at4, h.ha, h.made, h.backs, h.blk, h.apart, h1, h2, h.small⟩

theorem kind_ne {w : World} {i j : Nat} {c1 c2 : Array Value} {e1 e2 : TypeId} {f1 f2 : Nat × Nat} (h1 : w.heap[i]? = some (.cells c1 e1 f1)) (h2 : w.heap[j]? = some (.cells c2 e2 f2)) (hne : e1 ≠ e2) : i ≠ j := by
  intro e
  subst e
  rw [h1] at h2
  simp at h2
  exact hne h2.2.1

/-- What its blocks are. -/
theorem ArMem.kinds {w : World} {B a : Nat} {s : Ar} (h : ArMem w B a s) :
    (∀ g, s.vm.ownBlock = some g → (∃ c, w.heap[g]? = some (.cells c 54)) ∧ g ≠ a ∧ s.vb.ownBlock ≠ some g ∧ ∀ (i : Nat) x, s.bl[i]? = some x → x.q ≠ g) ∧
    (∀ g, s.vb.ownBlock = some g → (∃ c, w.heap[g]? = some (.cells c 3)) ∧ g ≠ a ∧ s.vm.ownBlock ≠ some g ∧ ∀ (i : Nat) x, s.bl[i]? = some x → x.q ≠ g) ∧
    (∀ (i : Nat) x, s.bl[i]? = some x → x.q ≠ a) := by
  have hm := owns_type' h.made
  have hb := owns_type' h.backs
  have hq : ∀ (i : Nat) x, s.bl[i]? = some x → ∃ c, w.heap[x.q]? = some (.cells c 5) := fun i x hx => ⟨_, (h.blk i x hx).2.1⟩
  refine ⟨?_, ?_, ?_⟩
  · intro g hg
    obtain ⟨c, hc⟩ := hm g hg
    refine ⟨⟨c, hc⟩, kind_ne hc h.at4 (by decide), fun e => ?_, fun i x hx => ?_⟩
    · obtain ⟨c', hc'⟩ := hb g e
      exact kind_ne hc hc' (by decide) rfl
    · obtain ⟨c', hc'⟩ := hq i x hx
      exact kind_ne hc' hc (by decide)
  · intro g hg
    obtain ⟨c, hc⟩ := hb g hg
    refine ⟨⟨c, hc⟩, kind_ne hc h.at4 (by decide), fun e => ?_, fun i x hx => ?_⟩
    · obtain ⟨c', hc'⟩ := hm g e
      exact kind_ne hc hc' (by decide) rfl
    · obtain ⟨c', hc'⟩ := hq i x hx
      exact kind_ne hc' hc (by decide)
  · intro i x hx
    obtain ⟨c', hc'⟩ := hq i x hx
    exact kind_ne hc' h.at4 (by decide)

theorem ArMem.a_lt {w : World} {B a : Nat} {s : Ar} (h : ArMem w B a s) : a < w.heap.size := (Array.getElem?_eq_some_iff.1 h.at4).1

theorem ArMem.below {w w' : World} {B a : Nat} {s : Ar} (h : ArMem w B a s) (hb : Below w.heap.size w w') : ArMem w' B a s :=
  ⟨by rw [hb.block a h.a_lt]; exact h.at4, h.ha, owns_kept h.made (fun q hq => hb.block q (h.made.lt q hq).2), owns_kept h.backs (fun q hq => hb.block q (h.backs.lt q hq).2), fun i x hx => ⟨(h.blk i x hx).1, (h.blk i x hx).2.1.below hb, (h.blk i x hx).2.2⟩, h.apart, h.small⟩

/-- What lies at a block's place. -/
theorem ArMem.slot {w : World} {B a : Nat} {s : Ar} (h : ArMem w B a s) {i : Nat} {x : Bk} (hx : s.bl[i]? = some x) :
    ∃ g cap, s.vm = .slice (some ⟨g, 0, none⟩) s.bl.length cap ∧ s.bl.length ≤ cap ∧ cap ≤ maxLen ∧ w.cell? ⟨g, i * 2, none⟩ = some (.slice (some ⟨x.q, 0, none⟩) s.size s.size) ∧ w.cell? ⟨g, i * 2 + 1, none⟩ = some (.bool x.g) ∧ (∀ j, w.frozen? ⟨g, j, none⟩ = false) := by
  have hi : i < s.bl.length := (List.getElem?_eq_some_iff.1 hx).1
  rcases h.made.2 with ⟨_, h0⟩ | ⟨g, cap, cur, hv, hg, hh, hnc, hcm, hcs, ht⟩
  · omega
  · refine ⟨g, cap, hv, hnc, hcm, ?_, ?_, ?_⟩
    · have e := slots_at s.size s.bl i x hx 0 (by omega)
      rw [← ht, List.getElem?_take, if_pos (by omega)] at e
      simp only [World.cell?, hh]
      simpa [slotCells] using e
    · have e := slots_at s.size s.bl i x hx 1 (by omega)
      rw [← ht, List.getElem?_take, if_pos (by omega)] at e
      simp only [World.cell?, hh]
      simpa [slotCells] using e
    · intro j
      simp [World.frozen?, hh]

theorem ArMem.cell2 {w : World} {B a : Nat} {s : Ar} (h : ArMem w B a s) : w.cell? ⟨a, 2, none⟩ = some s.vm := by simp [World.cell?, h.at4]

/-- A block is marked. -/
def Ar.setG (s : Ar) (k : Nat) (g : Bool) : Ar := { s with bl := s.bl.modify k fun x => { x with g := g } }

theorem setG_at {s : Ar} {k j : Nat} {g : Bool} : (s.setG k g).bl[j]? = if k = j then (s.bl[j]?).map (fun x => { x with g := g }) else s.bl[j]? := by
  unfold Ar.setG
  simp only [List.getElem?_modify]
  by_cases h : k = j <;> simp [h]

theorem setG_look {s : Ar} {k j : Nat} {g : Bool} {y : Bk} (h : (s.setG k g).bl[j]? = some y) : ∃ y', s.bl[j]? = some y' ∧ y'.q = y.q ∧ y'.b = y.b := by
  rw [setG_at] at h
  by_cases e : k = j
  · rw [if_pos e] at h
    cases hi : s.bl[j]? with
    | none => rw [hi] at h; simp at h
    | some y' => rw [hi] at h; simp at h; subst h; exact ⟨y', rfl, rfl, rfl⟩
  · rw [if_neg e] at h
    exact ⟨y, h, rfl, rfl⟩

theorem flat_setG (size : Nat) (g : Bool) (l : List Bk) : ∀ k, k < l.length → (l.flatMap (slotCells size)).set (k * 2 + 1) (.bool g) = (l.modify k fun x => { x with g := g }).flatMap (slotCells size) := by
  induction l with
  | nil => intro k h; simp at h
  | cons x l ih =>
    intro k h
    cases k with
    | zero => simp [slotCells]
    | succ k =>
      have e : (k + 1) * 2 + 1 = (k * 2 + 1) + 2 := by omega
      have h2 := ih k (by simpa using h)
      simp only [List.flatMap_cons, List.modify_succ_cons]
      rw [← h2, e]
      simp [slotCells]

theorem ArMem.setG {w : World} {B a : Nat} {s : Ar} (h : ArMem w B a s) {k gb n cap : Nat} (hk : k < s.bl.length) (hv : s.vm = .slice (some ⟨gb, 0, none⟩) n cap) (g : Bool) : ArMem (w.setCell ⟨gb, k * 2 + 1, none⟩ (.bool g)) B a (s.setG k g) := by
  have hn : n = s.bl.length := by
    obtain ⟨ao, c, h1, _⟩ := owned_slice h.made
    rw [hv] at h1
    injection h1
  subst hn
  obtain ⟨_, n1, n2, n3⟩ := h.kinds.1 gb (by rw [hv]; rfl)
  have hm := h.made
  rw [hv] at hm
  obtain ⟨hm1, hm2⟩ := hm.stored (k * 2 + 1) (.bool g)
  have keep := grown_ne hm2
  refine ⟨?_, h.ha, ?_, ?_, ?_, ?_, h.small⟩
  · rw [keep a h.a_lt (fun e => n1 e.symm)]
    exact h.at4
  · have e1 : (s.setG k g).bl.length = s.bl.length := by simp [Ar.setG]
    have e2 : (s.setG k g).vm = .slice (some ⟨gb, 0, none⟩) s.bl.length cap := hv
    rw [e1, e2]
    rw [flat_setG s.size g s.bl k hk] at hm1
    exact hm1
  · exact owns_kept h.backs (fun q hq => keep q (h.backs.lt q hq).2 (fun e => n2 (by rw [← e]; exact hq)))
  · intro i y hy
    obtain ⟨y', hy', e1, e2⟩ := setG_look hy
    obtain ⟨g1, g2, g3⟩ := h.blk i y' hy'
    rw [← e1, ← e2]
    exact ⟨g1, g2.kept (keep y'.q g2.lt (n3 i y' hy')), g3⟩
  · intro i j y z hy hz hq
    obtain ⟨y', hy', ey, _⟩ := setG_look hy
    obtain ⟨z', hz', ez, _⟩ := setG_look hz
    exact h.apart i j y' z' hy' hz' (by rw [ey, ez]; exact hq)

/-- A block's bytes are turned. -/
theorem ArMem.setB {w w' : World} {B a : Nat} {s : Ar} (h : ArMem w B a s) {k : Nat} {x : Bk} (hx : s.bl[k]? = some x) (hg : w.grownBy w' (some x.q)) {b : List UInt8} (hb : Blk w' x.q [] b []) (hl : b.length = s.size) : ArMem w' B a (s.setB k b) := by
  obtain ⟨k1, k2, k3⟩ := h.kinds
  have keep := grown_ne hg
  refine ⟨?_, h.ha, ?_, ?_, ?_, ?_, h.small⟩
  · rw [keep a h.a_lt (fun e => k3 k x hx e.symm)]
    exact h.at4
  · have e1 : (s.setB k b).bl.length = s.bl.length := by simp [Ar.setB]
    have e2 : (s.setB k b).bl.flatMap (slotCells (s.setB k b).size) = s.bl.flatMap (slotCells s.size) := flat_modify _ _ _ _
    rw [e1, e2]
    exact owns_kept h.made (fun q hq => keep q (h.made.lt q hq).2 (fun e => (k1 q hq).2.2.2 k x hx e.symm))
  · exact owns_kept h.backs (fun q hq => keep q (h.backs.lt q hq).2 (fun e => (k2 q hq).2.2.2 k x hx e.symm))
  · intro i y hy
    rw [setB_at] at hy
    by_cases e : k = i
    · subst e
      rw [if_pos rfl, hx] at hy
      obtain rfl := Option.some.inj hy
      exact ⟨(h.blk k x hx).1, hb, hl⟩
    · rw [if_neg e] at hy
      obtain ⟨g1, g2, g3⟩ := h.blk i y hy
      exact ⟨g1, g2.kept (keep y.q g2.lt (fun e2 => e (h.apart k i x y hx hy e2.symm))), g3⟩
  · intro i j y z hy hz hq
    have look : ∀ (i : Nat) (y : Bk), (s.setB k b).bl[i]? = some y → ∃ y', s.bl[i]? = some y' ∧ y'.q = y.q := by
      intro i y hy
      rw [setB_at] at hy
      by_cases e : k = i
      · rw [if_pos e] at hy
        cases hi : s.bl[i]? with
        | none => rw [hi] at hy; simp at hy
        | some y' => rw [hi] at hy; simp at hy; subst hy; exact ⟨y', rfl, rfl⟩
      · rw [if_neg e] at hy
        exact ⟨y, hy, rfl⟩
    obtain ⟨y', hy', ey⟩ := look i y hy
    obtain ⟨z', hz', ez⟩ := look j z hz
    exact h.apart i j y' z' hy' hz' (by rw [ey, ez]; exact hq)

theorem at_setCell {w : World} {a j : Nat} {cs : Array Value} {e : TypeId} (h : w.heap[a]? = some (.cells cs e (0, 0))) (u : Value) : (w.setCell ⟨a, j, none⟩ u).heap[a]? = some (.cells (cs.setIfInBounds j u) e (0, 0)) := by
  unfold World.setCell
  simp [Array.getElem?_modify, h]

/-- The row of those that came back is another one. -/
theorem ArMem.setBack {w w1 : World} {B a : Nat} {s : Ar} (h : ArMem w B a s) {vb : Value} {back : List Nat} (hg : w.grownBy w1 s.vb.ownBlock) (ho : w1.ownsRow B 3 1 vb back.length (back.map fun i : Nat => Value.int .i64 (i : Int))) :
    ArMem (w1.setCell ⟨a, 3, none⟩ vb) B a { s with vb := vb, back := back } := by
  obtain ⟨k1, k2, k3⟩ := h.kinds
  have ka : w1.heap[a]? = w.heap[a]? := hg.block a h.a_lt (fun e => (k2 a e.symm).2.1 rfl)
  have h4 := h.at4
  rw [← ka] at h4
  have keep : ∀ j, j < w.heap.size → s.vb.ownBlock ≠ some j → j ≠ a → (w1.setCell ⟨a, 3, none⟩ vb).heap[j]? = w.heap[j]? := by
    intro j hj hn hja
    rw [Below.heap_setCell w1 ⟨a, 3, none⟩ vb j hja]
    exact hg.block j hj (fun e => hn e.symm)
  refine ⟨?_, h.ha, ?_, ?_, ?_, h.apart, h.small⟩
  · rw [at_setCell h4]
    rfl
  · exact owns_kept h.made (fun q hq => keep q (h.made.lt q hq).2 (k1 q hq).2.2.1 (k1 q hq).2.1)
  · refine ownsRow_setCell_other ho (fun e => ?_) vb
    obtain ⟨c, hc⟩ := owns_type' ho a e
    exact kind_ne hc h4 (by decide) rfl
  · intro i x hx
    obtain ⟨g1, g2, g3⟩ := h.blk i x hx
    exact ⟨g1, g2.kept (keep x.q g2.lt (fun e => (k2 x.q e).2.2.2 i x hx rfl) (k3 i x hx)), g3⟩

/-- One block more. -/
theorem ArMem.setMade {w w1 : World} {B a : Nat} {s : Ar} (h : ArMem w B a s) {vm : Value} {x : Bk} (hg : w.grownBy w1 s.vm.ownBlock) (ho : w1.ownsRow B 54 2 vm (s.bl.length + 1) (s.bl.flatMap (slotCells s.size) ++ slotCells s.size x))
    (hB : B ≤ x.q) (hb : Blk w x.q [] x.b []) (hl : x.b.length = s.size) (hne : ∀ (i : Nat) y, s.bl[i]? = some y → y.q ≠ x.q) :
    ArMem (w1.setCell ⟨a, 2, none⟩ vm) B a { s with vm := vm, bl := s.bl ++ [x] } := by
  obtain ⟨k1, k2, k3⟩ := h.kinds
  have ka : w1.heap[a]? = w.heap[a]? := hg.block a h.a_lt (fun e => (k1 a e.symm).2.1 rfl)
  have h4 := h.at4
  rw [← ka] at h4
  have keep : ∀ j, j < w.heap.size → s.vm.ownBlock ≠ some j → j ≠ a → (w1.setCell ⟨a, 2, none⟩ vm).heap[j]? = w.heap[j]? := by
    intro j hj hn hja
    rw [Below.heap_setCell w1 ⟨a, 2, none⟩ vm j hja]
    exact hg.block j hj (fun e => hn e.symm)
  have hxa : x.q ≠ a := kind_ne hb h.at4 (by decide)
  have hxm : s.vm.ownBlock ≠ some x.q := fun e => by
    obtain ⟨c, hc⟩ := (k1 x.q e).1
    exact kind_ne hb hc (by decide) rfl
  refine ⟨?_, h.ha, ?_, ?_, ?_, ?_, h.small⟩
  · rw [at_setCell h4]
    rfl
  · have e : (s.bl ++ [x]).flatMap (slotCells s.size) = s.bl.flatMap (slotCells s.size) ++ slotCells s.size x := by simp
    show (w1.setCell ⟨a, 2, none⟩ vm).ownsRow B 54 2 vm (s.bl ++ [x]).length ((s.bl ++ [x]).flatMap (slotCells s.size))
    rw [e, List.length_append]
    refine ownsRow_setCell_other ho (fun e => ?_) vm
    obtain ⟨c, hc⟩ := owns_type' ho a e
    exact kind_ne hc h4 (by decide) rfl
  · exact owns_kept h.backs (fun q hq => keep q (h.backs.lt q hq).2 (k2 q hq).2.2.1 (k2 q hq).2.1)
  · intro i y hy
    by_cases hi : i < s.bl.length
    · have hy' : s.bl[i]? = some y := by rw [List.getElem?_append_left hi] at hy; exact hy
      obtain ⟨g1, g2, g3⟩ := h.blk i y hy'
      exact ⟨g1, g2.kept (keep y.q g2.lt (fun e => (k1 y.q e).2.2.2 i y hy' rfl) (k3 i y hy')), g3⟩
    · have hy' : y = x := by
        have := (List.getElem?_eq_some_iff.1 hy).1
        simp at this
        have e : i = s.bl.length := by omega
        subst e
        simpa using hy.symm
      subst hy'
      exact ⟨hB, hb.kept (keep y.q hb.lt hxm hxa), hl⟩
  · intro i j y z hy hz hq
    have look : ∀ (i : Nat) (y : Bk), (s.bl ++ [x])[i]? = some y → (i < s.bl.length ∧ s.bl[i]? = some y) ∨ (i = s.bl.length ∧ y = x) := by
      intro i y hy
      by_cases hi : i < s.bl.length
      · left
        rw [List.getElem?_append_left hi] at hy
        exact ⟨hi, hy⟩
      · right
        have := (List.getElem?_eq_some_iff.1 hy).1
        simp at this
        have e : i = s.bl.length := by omega
        subst e
        exact ⟨rfl, by simpa using hy.symm⟩
    rcases look i y hy with ⟨_, h1⟩ | ⟨e1, h1⟩ <;> rcases look j z hz with ⟨_, h2⟩ | ⟨e2, h2⟩
    · exact h.apart i j y z h1 h2 hq
    · subst h2
      exact absurd hq (hne i y h1)
    · subst h1
      exact absurd hq.symm (hne j z h2)
    · omega

end Go.Proofs.Ytofbklabapmdcaa
