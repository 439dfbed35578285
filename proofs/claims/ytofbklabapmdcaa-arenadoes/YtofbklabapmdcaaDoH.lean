/-
  The list and the numbers had, beside an arena: what is kept.
-/
import Derived.Test.YtofbklabapmdcaaDoG
namespace Go.Proofs.Ytofbklabapmdcaa
open Go.RowKit
set_option linter.unusedVariables false

theorem owns_le {w : World} {base base' size n : Nat} {e : TypeId} {v : Value} {xs : List Value} (h : w.ownsRow base e size v n xs) (hb : base' ≤ base) : w.ownsRow base' e size v n xs := by
  refine ⟨h.1, h.2.imp id ?_⟩
  rintro ⟨g, cap, cur, h1, h2, h3⟩
  exact ⟨g, cap, cur, h1, Nat.le_trans hb h2, h3⟩

structure DoOut (w : World) (a : Nat) (S : Nat → Prop) (size : Nat) (vl ve : Value) (l : List RB) (es : List Nat) : Prop where
  row : w.ownsRow a 37 2 vl l.length (l.flatMap (rbCells size))
  ever : w.ownsRow a 3 1 ve es.length (natRow es)
  blk : ∀ (i : Nat) (x : RB), l[i]? = some x → Blk w x.q [] x.b [] ∧ x.b.length = size ∧ a ≤ x.q ∧ ¬ S x.q
  offl : ∀ q, vl.ownBlock = some q → ¬ S q
  offe : ∀ q, ve.ownBlock = some q → ¬ S q

theorem DoOut.keep {w w' : World} {a : Nat} {S S' : Nat → Prop} {size : Nat} {vl ve : Value} {l : List RB} {es : List Nat} (h : DoOut w a S size vl ve l es) (hk : KeepsBut S w w') (hS : ∀ j, S' j → S j ∨ w.heap.size ≤ j) : DoOut w' a S' size vl ve l es where
  row := owns_kept h.row (fun q hq => hk.block q (h.row.lt q hq).2 (h.offl q hq))
  ever := owns_kept h.ever (fun q hq => hk.block q (h.ever.lt q hq).2 (h.offe q hq))
  blk := fun i x hx => by
    obtain ⟨h1, h2, h3, h4⟩ := h.blk i x hx
    refine ⟨h1.kept (hk.block x.q h1.lt h4), h2, h3, fun ho => ?_⟩
    rcases hS x.q ho with h5 | h5
    · exact h4 h5
    · have := h1.lt; omega
  offl := fun q hq ho => by
    rcases hS q ho with h1 | h1
    · exact h.offl q hq h1
    · have := (h.row.lt q hq).2; omega
  offe := fun q hq ho => by
    rcases hS q ho with h1 | h1
    · exact h.offe q hq h1
    · have := (h.ever.lt q hq).2; omega

theorem DoOut.below {w w' : World} {a : Nat} {S : Nat → Prop} {size : Nat} {vl ve : Value} {l : List RB} {es : List Nat} (h : DoOut w a S size vl ve l es) (hb : Below w.heap.size w w') : DoOut w' a S size vl ve l es :=
  h.keep (KeepsBut.ofBelow hb) (fun _ => .inl)

/-- Another list in a new row. -/
theorem DoOut.newRow {w w' : World} {a B : Nat} {S : Nat → Prop} {size : Nat} {vl vl' ve : Value} {l l' : List RB} {es : List Nat} (h : DoOut w a S size vl ve l es) (hb : Below w.heap.size w w') (hB : w.heap.size ≤ B) (hO : w'.ownsRow B 37 2 vl' l'.length (l'.flatMap (rbCells size)))
    (hblk : ∀ (i : Nat) (x : RB), l'[i]? = some x → Blk w' x.q [] x.b [] ∧ x.b.length = size ∧ a ≤ x.q ∧ ¬ S x.q) (hSlt : ∀ j, S j → j < w.heap.size) (ha : a ≤ w.heap.size) : DoOut w' a S size vl' ve l' es where
  row := owns_le hO (by omega)
  ever := (h.below hb).ever
  blk := hblk
  offl := fun q hq ho => by
    have h1 := (hO.lt q hq).1
    have h2 := hSlt q ho
    omega
  offe := h.offe

/-- The row of numbers where the list's row is written. -/
theorem DoOut.ever_kept {w w' : World} {a : Nat} {S : Nat → Prop} {size : Nat} {vl ve : Value} {l : List RB} {es : List Nat} (h : DoOut w a S size vl ve l es) (hg : w.grownBy w' vl.ownBlock) : w'.ownsRow a 3 1 ve es.length (natRow es) := by
  refine owns_kept h.ever (fun q hq => hg.block q (h.ever.lt q hq).2 (fun e => ?_))
  obtain ⟨c1, h1⟩ := owns_type' h.ever q hq
  obtain ⟨c2, h2⟩ := owns_type' h.row q e.symm
  exact kind_ne h1 h2 (by decide) rfl

/-- One block more. -/
theorem DoOut.push {w w7 w7' w9 : World} {a : Nat} {S : Nat → Prop} {size : Nat} {vl ve vl' ve' : Value} {l : List RB} {es : List Nat} (h : DoOut w a S size vl ve l es) {x : RB}
    (hq : Blk w x.q [] x.b []) (hl : x.b.length = size) (haq : a ≤ x.q) (hSq : ¬ S x.q) (hSlt : ∀ j, S j → j < w.heap.size)
    (hg7 : w.grownBy w7 vl.ownBlock) (hO7 : w7.ownsRow a 37 2 vl' (l.length + 1) (l.flatMap (rbCells size) ++ rbCells size x)) (hat7 : vl'.ownBlock = vl.ownBlock ∨ vl'.ownBlock = some w.heap.size)
    (hx7 : Below w7.heap.size w7 w7')
    (hg9 : w7'.grownBy w9 ve.ownBlock) (hO9 : w9.ownsRow a 3 1 ve' (es.length + 1) (natRow es ++ [.int .i64 (x.n : Int)])) (hat9 : ve'.ownBlock = ve.ownBlock ∨ ve'.ownBlock = some w7'.heap.size) :
    DoOut w9 a S size vl' ve' (l ++ [x]) (es ++ [x.n]) ∧ (∀ k, k < w.heap.size → S k → w9.heap[k]? = w.heap[k]?) := by
  have hs7 : w.heap.size ≤ w7'.heap.size := Nat.le_trans hg7.size hx7.size
  have k7 : ∀ k, k < w.heap.size → vl.ownBlock ≠ some k → w7'.heap[k]? = w.heap[k]? := fun k hk hn => (hx7.block k (Nat.lt_of_lt_of_le hk hg7.size)).trans (hg7.block k hk (fun e => hn e.symm))
  have k9 : ∀ k, k < w.heap.size → vl.ownBlock ≠ some k → ve.ownBlock ≠ some k → w9.heap[k]? = w.heap[k]? := fun k hk hn hn' => (hg9.block k (Nat.lt_of_lt_of_le hk hs7) (fun e => hn' e.symm)).trans (k7 k hk hn)
  have kb : ∀ q' c', Blk w q' [] c' [] → vl.ownBlock ≠ some q' ∧ ve.ownBlock ≠ some q' := by
    intro q' c' hb
    constructor
    · intro e
      obtain ⟨c1, h1⟩ := owns_type' h.row q' e
      exact kind_ne h1 hb (by decide) rfl
    · intro e
      obtain ⟨c1, h1⟩ := owns_type' h.ever q' e
      exact kind_ne h1 hb (by decide) rfl
  have hl1 : (l ++ [x]).length = l.length + 1 := by simp
  have hl2 : (es ++ [x.n]).length = es.length + 1 := by simp
  refine ⟨⟨?_, ?_, ?_, ?_, ?_⟩, ?_⟩
  · rw [hl1]
    have e : (l ++ [x]).flatMap (rbCells size) = l.flatMap (rbCells size) ++ rbCells size x := by simp [List.flatMap_append]
    rw [e]
    refine owns_kept hO7 (fun k hk => ?_)
    have hlt := (hO7.lt k hk).2
    refine (hg9.block k (Nat.lt_of_lt_of_le hlt hx7.size) (fun e => ?_)).trans (hx7.block k hlt)
    obtain ⟨c1, h1⟩ := owns_type' hO7 k hk
    have h2 := h.ever_kept hg7
    obtain ⟨c2, h3⟩ := owns_type' h2 k e.symm
    exact kind_ne h1 h3 (by decide) rfl
  · rw [hl2]
    have e : natRow (es ++ [x.n]) = natRow es ++ [.int .i64 (x.n : Int)] := by simp [natRow]
    rw [e]
    exact hO9
  · intro i y hy
    rw [List.getElem?_append] at hy
    split at hy
    · obtain ⟨h1, h2, h3, h4⟩ := h.blk i y hy
      obtain ⟨n1, n2⟩ := kb y.q y.b h1
      exact ⟨h1.kept (k9 y.q h1.lt n1 n2), h2, h3, h4⟩
    · have : y = x := by
        have h2 := List.mem_of_getElem? hy
        simpa using h2
      subst this
      obtain ⟨n1, n2⟩ := kb y.q y.b hq
      exact ⟨hq.kept (k9 y.q hq.lt n1 n2), hl, haq, hSq⟩
  · intro k hk ho
    rcases hat7 with h1 | h1
    · exact h.offl k (by rw [← h1]; exact hk) ho
    · rw [h1] at hk
      obtain rfl := Option.some.inj hk
      have := hSlt _ ho
      omega
  · intro k hk ho
    rcases hat9 with h1 | h1
    · exact h.offe k (by rw [← h1]; exact hk) ho
    · rw [h1] at hk
      obtain rfl := Option.some.inj hk
      have := hSlt _ ho
      omega
  · intro k hk ho
    exact k9 k hk (fun e => h.offl k e ho) (fun e => h.offe k e ho)

/-- All of it. -/
structure DoSt (w : World) (a : Nat) (s : Ar) (size room : Nat) (vl ve : Value) (l : List RB) (es : List Nat) : Prop where
  ar : IsAr w a a s
  sz : s.size = size
  most : s.most = (room : Int)
  made : s.bl.length ≤ room
  out : DoOut w a (s.own a) size vl ve l es
  same : SameL l s

theorem DoSt.below {w w' : World} {a : Nat} {s : Ar} {size room : Nat} {vl ve : Value} {l : List RB} {es : List Nat} (h : DoSt w a s size room vl ve l es) (hb : Below w.heap.size w w') : DoSt w' a s size room vl ve l es :=
  ⟨h.ar.below hb, h.sz, h.most, h.made, h.out.below hb, h.same⟩

theorem DoSt.len {w : World} {a : Nat} {s : Ar} {size room : Nat} {vl ve : Value} {l : List RB} {es : List Nat} (h : DoSt w a s size room vl ve l es) : l.length ≤ s.bl.length := by
  have h1 := h.same.live
  unfold Ar.live at h1
  omega

theorem DoSt.rbs {w : World} {a : Nat} {s : Ar} {size room : Nat} {vl ve : Value} {l : List RB} {es : List Nat} (h : DoSt w a s size room vl ve l es) : RBs w size vl l := owned_slN h.out.row

theorem DoSt.nums {w : World} {a : Nat} {s : Ar} {size room : Nat} {vl ve : Value} {l : List RB} {es : List Nat} (h : DoSt w a s size room vl ve l es) : Sl 1 w ve es.length (natRow es) := owned_slN h.out.ever

/-- A block of both is turned. -/
theorem DoSt.set {w w1 w2 : World} {a B : Nat} {s : Ar} {size room : Nat} {vl vl' ve : Value} {l : List RB} {es : List Nat} (h : DoSt w a s size room vl ve l es) {j q q' : Nat} {y : RB} {b : List UInt8} (hj : l[j]? = some y) (hq : s.bl[y.n]? = some ⟨q, y.b, true⟩)
    (hb : Below w.heap.size w w1) (hB : w.heap.size ≤ B) (hO : w1.ownsRow B 37 2 vl' l.length ((l.set j ⟨y.n, q', b⟩).flatMap (rbCells size))) (hq' : w.heap.size ≤ q') (hbq : Blk w1 q' [] b []) (hbl : b.length = size)
    (hA : IsAr w2 a a (s.setB y.n b)) (hk : KeepsBut (s.own a) w1 w2) : DoSt w2 a (s.setB y.n b) size room vl' ve (l.set j ⟨y.n, q', b⟩) es := by
  have hjl : j < l.length := (List.getElem?_eq_some_iff.1 hj).1
  have h1 : DoOut w1 a (s.own a) size vl' ve (l.set j ⟨y.n, q', b⟩) es := by
    refine h.out.newRow hb hB (by rw [List.length_set]; exact hO) (fun i x hx => ?_) h.ar.own_lt h.ar.B_le
    rw [List.getElem?_set] at hx
    by_cases e : j = i
    · subst e
      rw [if_pos rfl, if_pos hjl] at hx
      obtain rfl := Option.some.inj hx
      refine ⟨hbq, hbl, by have := h.ar.B_le; show a ≤ q'; omega, fun ho => ?_⟩
      have := h.ar.own_lt q' ho
      omega
    · rw [if_neg e] at hx
      exact (h.out.below hb).blk i x hx
  exact ⟨hA, h.sz, h.most, by rw [setB_len]; exact h.made, h1.keep hk (fun j hj => .inl (setB_own hj)), h.same.set hj hq⟩

/-- A block of both is given back. -/
theorem DoSt.free {w w1 w2 : World} {a B : Nat} {s : Ar} {size room : Nat} {vl vl' ve vb : Value} {l : List RB} {es : List Nat} (h : DoSt w a s size room vl ve l es) {k : Nat} {x : Bk} (hx : s.bl[k]? = some x) (hg : x.g = true)
    (hA : IsAr w1 a a (s.freed k vb)) (hk : KeepsBut (s.own a) w w1) (hv : vb.ownBlock = s.vb.ownBlock ∨ ∃ q, vb.ownBlock = some q ∧ w.heap.size ≤ q)
    (hb : Below w1.heap.size w1 w2) (hB : w1.heap.size ≤ B) (hO : w2.ownsRow B 37 2 vl' (l.filter (offN (k : Int))).length ((l.filter (offN (k : Int))).flatMap (rbCells size))) : DoSt w2 a (s.freed k vb) size room vl' ve (l.filter (offN (k : Int))) es := by
  have hown : ∀ j, (s.freed k vb).own a j → s.own a j ∨ w.heap.size ≤ j := by
    intro j hj
    rcases hj with rfl | hj | hj | ⟨z, hz, rfl⟩
    · exact .inl (.inl rfl)
    · exact .inl (.inr (.inl hj))
    · rcases hv with e | ⟨q, e, hq⟩
      · exact .inl (.inr (.inr (.inl (by rw [← e]; exact hj))))
      · have hj' : vb.ownBlock = some j := hj
        rw [e] at hj'
        obtain rfl := Option.some.inj hj'
        exact .inr hq
    · obtain ⟨i, hi, rfl⟩ := List.mem_iff_getElem.1 hz
      have hz2 : (s.setG k false).bl[i]? = some ((s.freed k vb).bl[i]) := List.getElem?_eq_getElem hi
      obtain ⟨y', hy', e, _⟩ := setG_look hz2
      exact .inl (.inr (.inr (.inr ⟨y', List.mem_of_getElem? hy', e⟩)))
  have h1 := h.out.keep hk hown
  have h2 : DoOut w2 a ((s.freed k vb).own a) size vl' ve (l.filter (offN (k : Int))) es := by
    refine h1.newRow hb hB hO (fun i y hy => ?_) hA.own_lt hA.B_le
    have hm := (List.mem_filter.1 (List.mem_of_getElem? hy)).1
    obtain ⟨j, hj, rfl⟩ := List.mem_iff_getElem.1 hm
    exact (h1.below hb).blk j _ (List.getElem?_eq_getElem hj)
  refine ⟨hA.below hb, h.sz, h.most, ?_, h2, h.same.freed hx hg⟩
  show (s.bl.modify k fun x => { x with g := false }).length ≤ room
  simpa using h.made

end Go.Proofs.Ytofbklabapmdcaa
