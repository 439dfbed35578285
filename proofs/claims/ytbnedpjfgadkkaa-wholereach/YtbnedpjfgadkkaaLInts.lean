/-
  Slices of whole numbers: what they read as; 'append' onto one's own.
-/
import Derived.Test.YtbnedpjfgadkkaaRows
import Derived.Test.YtbnedpjfgadkkaaLApp
import Derived.Test.YtbnedpjfgadkkaaLPh
namespace Go.Proofs.Ytbnedpjfgadkkaa
open Go.RowKit
set_option linter.unusedVariables false

theorem Try.infoZ : (Try.prog.info? 3).map (fun i => (i.zero, i.size, i.bytes)) = some (some (.int .i64 0), 1, 8) := by kernel_rfl

theorem infoZ_parts : ∃ i, Try.prog.info? 3 = some i ∧ i.zero = some (.int .i64 0) ∧ i.size = 1 ∧ i.bytes = 8 := by
  have h := Try.infoZ
  cases hi : Try.prog.info? 3 with
  | none => rw [hi] at h; cases h
  | some i =>
    rw [hi] at h
    simp only [Option.map_some, Option.some.injEq, Prod.mk.injEq] at h
    exact ⟨i, rfl, h.1, h.2.1, h.2.2⟩

/-- Numbers in a slice. -/
def Zs (w : World) (v : Value) (l : List Int) : Prop := Sl 1 w v l.length (l.map (Value.int .i64))

theorem Zs.below {w w' : World} {v : Value} {l : List Int} (h : Zs w v l) (hb : Below w.heap.size w w') : Zs w' v l := Sl.below h hb

/-- Numbers in a slice of one's own. -/
def OwnZ (B : Nat) (w : World) (v : Value) (n : Nat) (l : List Int) : Prop := w.ownsRow B 3 1 v n (l.map (Value.int .i64))

theorem OwnZ.len {B : Nat} {w : World} {v : Value} {n : Nat} {l : List Int} (h : OwnZ B w v n l) : l.length = n := by
  have := h.1
  simpa using this
theorem OwnZ.zs {B : Nat} {w : World} {v : Value} {n : Nat} {l : List Int} (h : OwnZ B w v n l) : Zs w v l := by
  unfold Zs
  rw [h.len]
  exact owned_sl h
theorem OwnZ.lt {B : Nat} {w : World} {v : Value} {n : Nat} {l : List Int} (h : OwnZ B w v n l) : ∀ q, v.ownBlock = some q → B ≤ q ∧ q < w.heap.size := fun q hq => World.ownsRow.lt h q hq
theorem OwnZ.kept {B : Nat} {w w' : World} {v : Value} {n : Nat} {l : List Int} (h : OwnZ B w v n l) (hk : ∀ q, v.ownBlock = some q → w'.heap[q]? = w.heap[q]?) : OwnZ B w' v n l := owns_kept h hk
theorem OwnZ.below {B : Nat} {w w' : World} {v : Value} {n : Nat} {l : List Int} (h : OwnZ B w v n l) (hb : Below w.heap.size w w') : OwnZ B w' v n l := h.kept (fun q hq => hb.block q (h.lt q hq).2)
theorem OwnZ.alloc {B : Nat} {w : World} {v : Value} {n : Nat} {l : List Int} (h : OwnZ B w v n l) (o : Obj) : OwnZ B (w.alloc o) v n l := h.below (below_alloc _ _)
theorem OwnZ.mono {B B' : Nat} {w : World} {v : Value} {n : Nat} {l : List Int} (h : OwnZ B w v n l) (hB : B' ≤ B) : OwnZ B' w v n l := by
  refine ⟨h.1, ?_⟩
  rcases h.2 with h' | ⟨g, cap, cur, hv, hg, hh, hx⟩
  · exact .inl h'
  · exact .inr ⟨g, cap, cur, hv, Nat.le_trans hB hg, hh, hx⟩
theorem OwnZ.nil (B : Nat) (w : World) : OwnZ B w (.slice none 0 0) 0 [] := ⟨rfl, .inl ⟨rfl, rfl⟩⟩
theorem OwnZ.new (w : World) : OwnZ w.heap.size (w.alloc (.cells #[] 3)) (.slice (some ⟨w.heap.size, 0, none⟩) 0 0) 0 [] := World.ownsRow_lit w #[] 0 (Nat.le_refl _) (by simp [maxLen]) rfl
theorem OwnZ.newB {B : Nat} (w : World) (h : B ≤ w.heap.size) : OwnZ B (w.alloc (.cells #[] 3)) (.slice (some ⟨w.heap.size, 0, none⟩) 0 0) 0 [] := World.ownsRow_lit w #[] 0 h (by simp [maxLen]) rfl

theorem zs_one (w : World) (z : Int) (e : TypeId) : Sl 1 (w.alloc (.cells #[.int .i64 z] e)) (.slice (some ⟨w.heap.size, 0, none⟩) 1 1) 1 ([z].map (Value.int .i64)) := alloc_one _ _

theorem z_oneCell (l : List Int) : ∀ u ∈ l.map (Value.int .i64), u.oneCell' = true := by
  intro u hu
  obtain ⟨_, _, rfl⟩ := List.mem_map.1 hu
  rfl

theorem map_z_at (l : List Int) (j : Nat) (h : j < l.length) : (l.map (Value.int .i64))[j]? = some (.int .i64 l[j]) := by
  simp [h]

/-- At the list of a plain region's operations: numbers behind numbers of one's own. -/
theorem wpList_addZ (w : World) {ops : Array Oper} {rest : List Oper} {o : Oper} {a : Act} {Q : Exit → Act → World → Prop} (hgd : o.guard = none) (s x : Operand)
    (ho : o.op = .call { callee := .builtin .append, args := #[s, x], argTypes := #[33, 33] })
    (B : Nat) (v : Value) (n : Nat) (l : List Int) (hs : a.eval s = v) (hown : OwnZ B w v n l)
    (xv : Value) (m : Nat) (news : List Int) (hx : a.eval x = xv) (hsrc : Sl 1 w xv m (news.map (Value.int .i64)))
    (hlen : n + m ≤ 1000000000) (hbase : B ≤ w.heap.size)
    (h : ∀ ao cap w', OwnZ B w' (.slice ao (n + m) cap) (n + m) (l ++ news) → w.grownBy w' v.ownBlock → ((Value.slice ao (n + m) cap).ownBlock = v.ownBlock ∨ (Value.slice ao (n + m) cap).ownBlock = some w.heap.size) → n + m ≤ cap → cap ≤ maxLen → wpList Try.prog ops Q rest (a.put o.dst (.slice ao (n + m) cap)) w') : wpList Try.prog ops Q (o :: rest) a w := by
  obtain ⟨i, hi, hz, h1, h8⟩ := infoZ_parts
  refine wpList_app w hgd s x 33 ho B 3 i (.int .i64 0) 1 8 Try.underlying33 hi hz h1 h8 rfl (by decide) v n _ hs hown xv m _ hx hsrc (z_oneCell _) (by unfold maxLen; omega) (by omega) hbase ?_
  intro ao cap w' h2 h3 h4 h5 h6 h7
  refine h ao cap w' ?_ h3 h4 h6 h7
  unfold OwnZ
  rw [List.map_append]
  exact h2

theorem below_fresh {w w' : World} (hg : w.grownBy w' none) : Below w.heap.size w w' := (Below.refl _ _).grown hg (Nat.le_refl _) (by intro k hk; cases hk)

theorem below_added {B0 B : Nat} {w w1 w2 : World} {v : Value} {n : Nat} {l : List Int} (hb : Below B0 w w1) (ho : OwnZ B w1 v n l) (hB : B0 ≤ B) (hs : B0 ≤ w1.heap.size) (hg : w1.grownBy w2 v.ownBlock) : Below B0 w w2 :=
  hb.grown hg hs (fun k hk => Nat.le_trans hB (ho.lt k hk).1)

end Go.Proofs.Ytbnedpjfgadkkaa
