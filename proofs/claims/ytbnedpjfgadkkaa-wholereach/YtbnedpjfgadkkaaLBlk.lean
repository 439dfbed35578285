/-
  Blocks of bytes that may be written: what lies ahead of some bytes, they, and what lies behind them. What is read elsewhere stays. No program.
-/
import Derived.Test.YtbnedpjfgadkkaaLBase
import Derived.Test.YtbnedpjfgadkkaaXMath
namespace Go.Proofs.Ytbnedpjfgadkkaa
open Go.RowKit
set_option linter.unusedVariables false

/-- Block q holds just 'pre', the bytes l, and 'post'; it may be written. -/
def Blk (w : World) (q : Nat) (pre : List Value) (l : List UInt8) (post : List Value) : Prop :=
  w.heap[q]? = some (.cells (pre ++ l.map bv ++ post).toArray 5 (0, 0))

theorem Blk.lt {w : World} {q : Nat} {pre post : List Value} {l : List UInt8} (h : Blk w q pre l post) : q < w.heap.size :=
  (Array.getElem?_eq_some_iff.1 h).1

theorem Blk.kept {w w' : World} {q : Nat} {pre post : List Value} {l : List UInt8} (h : Blk w q pre l post) (hk : w'.heap[q]? = w.heap[q]?) : Blk w' q pre l post := by
  unfold Blk
  rw [hk]
  exact h

theorem Blk.below {w w' : World} {q : Nat} {pre post : List Value} {l : List UInt8} (h : Blk w q pre l post) (hb : Below w.heap.size w w') : Blk w' q pre l post :=
  h.kept (hb.block q h.lt)

theorem Blk.cell {w : World} {q : Nat} {pre post : List Value} {l : List UInt8} (h : Blk w q pre l post) (j : Nat) (u : Value) (hj : (l.map bv)[j]? = some u) : w.cell? ⟨q, pre.length + j, none⟩ = some u := by
  have hjl : j < (l.map bv).length := (List.getElem?_eq_some_iff.1 hj).1
  have h' : w.heap[q]? = _ := h
  simp only [World.cell?, h']
  simp only [Option.isSome_none, Bool.false_eq_true, if_false]
  rw [List.getElem?_toArray, List.append_assoc, List.getElem?_append_right (by omega), Nat.add_sub_cancel_left, List.getElem?_append_left hjl]
  exact hj

theorem Blk.frozen {w : World} {q : Nat} {pre post : List Value} {l : List UInt8} (h : Blk w q pre l post) (j : Nat) : w.frozen? ⟨q, j, none⟩ = false := by
  simp [World.frozen?, show w.heap[q]? = _ from h]

theorem Blk.bs {w : World} {q : Nat} {pre post : List Value} {l : List UInt8} (h : Blk w q pre l post) (n cap : Nat) (hn : n = l.length) (hc : n ≤ cap) (hm : cap ≤ maxLen) : Bs w (.slice (some ⟨q, pre.length, none⟩) n cap) l := by
  subst hn
  exact ⟨by simp, _, _, rfl, hc, hm, fun h => by simp at h, .inr ⟨q, pre.length, rfl, fun j u hj => h.cell j u hj⟩⟩

/-- From its head on. -/
theorem Blk.bs0 {w : World} {q : Nat} {post : List Value} {l : List UInt8} (h : Blk w q [] l post) (n cap : Nat) (hn : n = l.length) (hc : n ≤ cap) (hm : cap ≤ maxLen) : Bs w (.slice (some ⟨q, 0, none⟩) n cap) l :=
  h.bs n cap hn hc hm

theorem list_set_mid (pre post l : List Value) (k : Nat) (u : Value) (hk : k < l.length) : (pre ++ l ++ post).set (pre.length + k) u = pre ++ l.set k u ++ post := by
  rw [List.append_assoc, List.set_append_right _ _ (by omega), Nat.add_sub_cancel_left, List.set_append_left _ _ hk, List.append_assoc]

/-- One byte is written. -/
theorem Blk.set {w : World} {q : Nat} {pre post : List Value} {l : List UInt8} (h : Blk w q pre l post) (k : Nat) (hk : k < l.length) (x : UInt8) :
    Blk (w.setCell ⟨q, pre.length + k, none⟩ (bv x)) q pre (l.set k x) post := by
  unfold Blk World.setCell
  have hq := h.lt
  have e := h
  unfold Blk at e
  simp only [Array.getElem?_modify, if_true, e, Option.map_some]
  congr 2
  rw [List.map_set, ← list_set_mid _ _ _ _ _ (by simpa using hk)]
  simp

theorem Blk.set_grown (w : World) (q k : Nat) (u : Value) : w.grownBy (w.setCell ⟨q, k, none⟩ u) (some q) ∧ (w.setCell ⟨q, k, none⟩ u).heap.size = w.heap.size :=
  ⟨grown_setCell w q k u, by simp [World.setCell]⟩

theorem Blk.split {w : World} {q : Nat} {pre post : List Value} {l l' : List UInt8} : Blk w q pre (l ++ l') post ↔ Blk w q (pre ++ l.map bv) l' post := by
  unfold Blk
  simp only [List.map_append, List.append_assoc]

theorem Blk.split' {w : World} {q : Nat} {pre post : List Value} {l l' : List UInt8} : Blk w q pre (l ++ l') post ↔ Blk w q pre l (l'.map bv ++ post) := by
  unfold Blk
  simp only [List.map_append, List.append_assoc]

theorem Blk.lit (w : World) (C : Array Value) (l : List UInt8) (b : Nat) (hb : b = w.heap.size) (hC : C = (l.map bv).toArray) : Blk (w.alloc (.cells C 5)) b [] l [] := by
  subst hb; subst hC
  show (w.heap.push _)[w.heap.size]? = _
  simp

/-- A slice that lies outside block q, or has no elements. -/
def Off (q : Nat) (v : Value) : Prop := ∀ a n c, v = .slice (some a) n c → n = 0 ∨ a.block ≠ q

theorem Sl.off {size : Nat} {w w' : World} {v : Value} {n : Nat} {cs : List Value} {q : Nat} (h : Sl size w v n cs) (ho : Off q v) (hg : ∀ k, k < w.heap.size → k ≠ q → w'.heap[k]? = w.heap[k]?) : Sl size w' v n cs := by
  obtain ⟨h1, ao, cap, hv, h2, h3, h4, h5⟩ := h
  refine ⟨h1, ao, cap, hv, h2, h3, h4, ?_⟩
  rcases h5 with h5 | ⟨b, off, hao, h5⟩
  · exact .inl h5
  · have := ho ⟨b, off, none⟩ n cap (by rw [hv, hao])
    rcases this with h0 | hne
    · exact .inl h0
    · refine .inr ⟨b, off, hao, fun j u hj => ?_⟩
      have hc := h5 j u hj
      rw [← hc]
      exact World.cell?_of_block (a := ⟨b, off + j, none⟩) (hg b (cell_block_lt hc) hne)

theorem grown_ne {w w' : World} {q : Nat} (h : w.grownBy w' (some q)) : ∀ k, k < w.heap.size → k ≠ q → w'.heap[k]? = w.heap[k]? :=
  fun k hk hne => h.block k hk (fun e => hne (Option.some.inj e))

theorem Bs.off {w w' : World} {v : Value} {l : List UInt8} {q : Nat} (h : Bs w v l) (ho : Off q v) (hg : w.grownBy w' (some q)) : Bs w' v l := Sl.off h ho (grown_ne hg)

theorem Parts.off {w w' : World} {vs : List Value} {ls : List (List UInt8)} {q : Nat} (h : Parts w vs ls) (ho : ∀ v ∈ vs, Off q v) (hg : w.grownBy w' (some q)) : Parts w' vs ls :=
  ⟨h.1, fun i v p hv hp => (h.2 i v p hv hp).off (ho v (List.mem_of_getElem? hv)) hg⟩

/-- What was there before block q was made lies outside it. -/
theorem Sl.off_new {size : Nat} {w : World} {v : Value} {n : Nat} {cs : List Value} {q : Nat} (h : Sl size w v n cs) (hs : 0 < size) (hq : w.heap.size ≤ q) : Off q v := by
  intro a m c hv
  obtain ⟨h1, ao, cap, hv', h2, h3, h4, h5⟩ := h
  rw [hv'] at hv
  injection hv with e1 e2 e3
  subst e2
  rcases h5 with h5 | ⟨b, off, hao, h5⟩
  · exact .inl h5
  · by_cases hn : n = 0
    · exact .inl hn
    · right
      rw [hao] at e1
      obtain rfl := Option.some.inj e1
      have hpos : 0 < cs.length := by rw [h1]; exact Nat.mul_pos (by omega) hs
      have hc := h5 0 cs[0] (List.getElem?_eq_getElem hpos)
      have := cell_block_lt hc
      simp only at this ⊢
      omega

theorem Bs.off_new {w : World} {v : Value} {l : List UInt8} {q : Nat} (h : Bs w v l) (hq : w.heap.size ≤ q) : Off q v := Sl.off_new h (by omega) hq

theorem Parts.off_new {w : World} {vs : List Value} {ls : List (List UInt8)} {q : Nat} (h : Parts w vs ls) (hq : w.heap.size ≤ q) : ∀ v ∈ vs, Off q v := by
  intro v hv
  obtain ⟨i, hi, rfl⟩ := List.mem_iff_getElem.1 hv
  have hi' : i < ls.length := by rw [← h.1]; exact hi
  exact (h.2 i vs[i] ls[i] (List.getElem?_eq_getElem hi) (List.getElem?_eq_getElem hi')).off_new hq

theorem off_at {q b o n c : Nat} (h : b ≠ q) : Off q (.slice (some ⟨b, o, none⟩) n c) := by
  intro a m d hv
  injection hv with e1 _ _
  obtain rfl := Option.some.inj e1
  exact .inr h

theorem off_nil {q n c : Nat} : Off q (.slice none n c) := by
  intro a m d hv
  injection hv with e1 _ _
  cases e1

theorem owns_type' {w : World} {base : Nat} {e : TypeId} {size : Nat} {v : Value} {n : Nat} {xs : List Value} (h : w.ownsRow base e size v n xs) : ∀ g, v.ownBlock = some g → ∃ cur, w.heap[g]? = some (.cells cur e) := by
  intro g hg
  rcases h.2 with ⟨rfl, _⟩ | ⟨q, cap, cur, rfl, _, hh, _⟩
  · simp [Value.ownBlock] at hg
  · obtain rfl := Option.some.inj hg
    exact ⟨cur, hh⟩

/-- What is owned, as a block. -/
theorem owned_blk {w : World} {base q n cap : Nat} {l : List UInt8} (h : w.ownsRow base 5 1 (.slice (some ⟨q, 0, none⟩) n cap) n (l.map bv)) : n = l.length ∧ ∃ post, Blk w q [] l post ∧ post.length = cap - n := by
  have hn : n = l.length := by have := h.1; simp at this; omega
  refine ⟨hn, ?_⟩
  rcases h.2 with ⟨h', _⟩ | ⟨g, cap', cur, hv, _, hh, hnc, _, hcs, ht⟩
  · simp at h'
  · injection hv with e1 _ e3
    subst e3
    injection e1 with e1
    injection e1 with e1
    subst e1
    refine ⟨cur.toList.drop n, ?_, by simp; omega⟩
    unfold Blk
    rw [hh]
    congr 2
    rw [List.nil_append, ← ht, Nat.mul_one, List.take_append_drop]

end Go.Proofs.Ytbnedpjfgadkkaa
