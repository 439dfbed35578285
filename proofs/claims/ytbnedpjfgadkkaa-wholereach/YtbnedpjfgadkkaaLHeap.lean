/-
  What lies in the heap: stored, laid, kept; bytes as a string.
-/
import Derived.Test.YtbnedpjfgadkkaaRows
import Derived.Test.YtbnedpjfgadkkaaLBlk
namespace Go.Proofs.Ytbnedpjfgadkkaa
open Go.RowKit
set_option linter.unusedVariables false

theorem heap_setCell_at {w : World} {g j : Nat} {cs : List Value} {e : TypeId} (h : w.heap[g]? = some (.cells cs.toArray e (0, 0))) (u : Value) : (w.setCell ⟨g, j, none⟩ u).heap[g]? = some (.cells (cs.set j u).toArray e (0, 0)) := by
  unfold World.setCell
  simp [Array.getElem?_modify, h]

theorem alloc_at (W : World) (o : Obj) : (W.alloc o).heap[W.heap.size]? = some o := by
  show (W.heap.push o)[W.heap.size]? = some o
  simp

theorem heap_stays {W W' : World} {k : Nat} {o : Obj} (hb : Below W.heap.size W W') (h : W.heap[k]? = some o) : W'.heap[k]? = some o := (hb.block k (Array.getElem?_eq_some_iff.1 h).1).trans h

theorem conv_bytes {W : World} {v : Value} {l : List UInt8} (h : Bs W v l) : (convert 40 9 v).run Try.prog W = .ok (.string (str l)) W := by
  obtain ⟨hl, ao, cap, rfl, hnc, hcm, hn0, hc⟩ := h
  rw [run_convert_bytes_string W 40 9 5 ao l.length cap Try.underlying40 Try.underlying5 Try.underlying9]
  cases ao with
  | none =>
    have : l = [] := List.eq_nil_of_length_eq_zero (by have := hn0 rfl; omega)
    subst this
    simp [Conv.bytesToString, Sem.run_pure, str]
    rfl
  | some a =>
    have hld : (loadCells a l.length).run Try.prog W = .ok ((l.map fun b => (b.toNat : Int)).map (Value.int .u8)).toArray W := by
      have e : (l.map fun b => (b.toNat : Int)).map (Value.int .u8) = l.map bv := by rw [List.map_map]; rfl
      rw [e]
      have h1 := run_loadCells_list (P := Try.prog) W a (l.map bv) ?_
      · rw [List.length_map] at h1
        exact h1
      · intro j u hj
        rcases hc with h0 | ⟨b, off, hao, hc⟩
        · have := (List.getElem?_eq_some_iff.1 hj).1
          simp at this
          omega
        · obtain rfl := Option.some.inj hao
          rw [Addr.add_lit]
          exact hc j u hj
    rw [run_bytesToString W a l.length cap _ hld, foldl_push]
    simp [str]

end Go.Proofs.Ytbnedpjfgadkkaa
