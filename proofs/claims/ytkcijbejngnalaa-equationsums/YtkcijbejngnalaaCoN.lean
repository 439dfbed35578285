/-
  compose: all composite blocks, by definition; rows of blocks, and a graph beside them while they grow.
-/
import Derived.Test.YtkcijbejngnalaaCoA
import Derived.Test.YtkcijbejngnalaaZSeg
import Derived.Test.YtkcijbejngnalaaZOut
namespace Go.Proofs.Ytkcijbejngnalaa
open Go.RowKit
set_option linter.unusedVariables false

/-- The message blocks, and the first j auxiliary ones. -/
def compTo (N B : Nat) (rows : List (List Int)) (l : List UInt8) (j : Nat) : List (List UInt8) := splitD N B l ++ (rows.take j).map (chkD B (splitD N B l))
/-- All composite blocks. -/
def compD (N B : Nat) (rows : List (List Int)) (l : List UInt8) : List (List UInt8) := splitD N B l ++ rows.map (chkD B (splitD N B l))

theorem compTo_zero (N B : Nat) (rows : List (List Int)) (l : List UInt8) : compTo N B rows l 0 = splitD N B l := by simp [compTo]
theorem compTo_next {N B : Nat} {rows : List (List Int)} {l : List UInt8} {j : Nat} {r : List Int} (h : rows[j]? = some r) : compTo N B rows l (j + 1) = compTo N B rows l j ++ [chkD B (splitD N B l) r] := by
  obtain ⟨hj, rfl⟩ := List.getElem?_eq_some_iff.1 h
  unfold compTo
  rw [List.take_succ_eq_append_getElem hj, List.map_append, List.append_assoc]
  rfl
theorem compTo_all {N B A : Nat} {rows : List (List Int)} {l : List UInt8} (h : rows.length = A) : compTo N B rows l A = compD N B rows l := by
  unfold compTo compD
  rw [List.take_of_length_le (by omega)]
theorem compD_length (N B : Nat) (rows : List (List Int)) (l : List UInt8) : (compD N B rows l).length = N + rows.length := by simp [compD, splitD_length]
theorem compTo_length {N B j : Nat} {rows : List (List Int)} (l : List UInt8) (h : j ≤ rows.length) : (compTo N B rows l j).length = N + j := by simp [compTo, splitD_length]; omega

/-- What rows of a graph of N message blocks are. -/
def RwOk (N A : Nat) (rows : List (List Int)) : Prop := rows.length = A ∧ ∀ (j : Nat) (r : List Int), rows[j]? = some r → r.length ≤ N ∧ ∀ i ∈ r, 0 ≤ i ∧ i < (N : Int)
theorem hasR_rw (S A Q N : Nat) : RwOk N A (hasR S A Q N) := ⟨hasR_length S A Q N, fun j r h => ⟨hasR_short N j r h, (hasR_ok S A Q N j r h).lt⟩⟩

theorem split_ok {N B : Nat} {l : List UInt8} {r : List Int} (h : ∀ i ∈ r, 0 ≤ i ∧ i < (N : Int)) : OkOf B (splitD N B l) r := okOf_below (fun x hx => splitD_mem hx) (by rw [splitD_length]; exact h)
theorem compTo_ok {N B j : Nat} {rows : List (List Int)} {l : List UInt8} {r : List Int} (h : ∀ i ∈ r, 0 ≤ i ∧ i < (N : Int)) : OkOf B (compTo N B rows l j) r := okOf_append (split_ok h)
theorem compTo_chk {N B j : Nat} {rows : List (List Int)} {l : List UInt8} {r : List Int} (h : ∀ i ∈ r, 0 ≤ i ∧ i < (N : Int)) : chkD B (compTo N B rows l j) r = chkD B (splitD N B l) r := by
  unfold chkD compTo
  rw [pkD_append (by rw [splitD_length]; exact h)]
theorem compD_mem {N B A : Nat} {rows : List (List Int)} {l : List UInt8} (h : RwOk N A rows) : ∀ x ∈ compD N B rows l, x.length = B := by
  intro x hx
  unfold compD at hx
  rcases List.mem_append.1 hx with hx | hx
  · exact splitD_mem hx
  · obtain ⟨r, hr, rfl⟩ := List.mem_map.1 hx
    obtain ⟨j, hj⟩ := List.mem_iff_getElem?.1 hr
    exact chkD_length (split_ok (h.2 j r hj).2)

/-- A whole block is owned. -/
theorem Blk.owb {W : World} {p n : Nat} {x : List UInt8} (h : Blk W p [] x []) (hl : x.length = n) (hn : n ≤ 1000000000) {B0 : Nat} (hB : B0 ≤ p) : OwB B0 W (.slice (some ⟨p, 0, none⟩) n n) n x := by
  refine ⟨by simp [hl], .inr ⟨p, n, (x.map bv).toArray, rfl, hB, ?_, Nat.le_refl _, by unfold maxLen; omega, by simp [hl], by simpa using List.take_of_length_le (show (x.map bv).length ≤ n by simp [hl])⟩⟩
  have := h
  unfold Blk at this
  simpa using this

/-- A row of blocks that is cut is owned, and so is each block. -/
theorem Cut.owns {B0 B1 : Nat} {W : World} {q n N : Nat} {qs : List Nat} {ls : List (List UInt8)} (h : Cut B0 W q n qs ls []) (hN : N = qs.length) (hm : N ≤ 1000000000) (hn : n ≤ 1000000000) (hB : B1 ≤ B0) :
    W.ownsRow B1 25 1 (.slice (some ⟨q, 0, none⟩) N N) N (qs.map (slv n)) ∧ RowsB B1 W (qs.map (slv n)) ls := by
  subst hN
  refine ⟨⟨by simp, .inr ⟨q, qs.length, (qs.map (slv n)).toArray, rfl, by have := h.qb; omega, by simpa using h.row, Nat.le_refl _, by unfold maxLen; omega, by simp, by simpa using List.take_of_length_le (show (qs.map (slv n)).length ≤ qs.length by simp)⟩⟩, by simp [h.len], ?_⟩
  intro i v l hv hl
  rw [List.getElem?_map] at hv
  cases hq : qs[i]? with
  | none => rw [hq] at hv; cases hv
  | some r =>
    rw [hq] at hv
    obtain rfl := Option.some.inj hv
    have := h.at_ i r l hq hl
    obtain rfl := this.2.2
    exact this.1.owb rfl hn (by omega)

/-- A graph, its parts by their kinds. -/
structure GrT (B0 : Nat) (W : World) (g ro S N Q A : Nat) (vs : List Value) (rows : List (List Int)) : Prop where
  gc : W.heap[g]? = some (.cells #[.int .u64 (S : Int), .int .i64 (N : Int), .int .i64 (Q : Int), .slice (some ⟨ro, 0, none⟩) A A] 120 (0, 0))
  hc : W.heap[ro]? = some (.cells vs.toArray 39 (0, 0))
  lv : vs.length = A
  lr : rows.length = A
  own : ∀ (i : Nat) (v : Value) (l : List Int), vs[i]? = some v → rows[i]? = some l → OwnZ B0 W v l.length l

theorem GrB.grT {w W : World} {g ro S N Q A : Nat} {vs : List Value} {rows : List (List Int)} (h : GrB w W g ro S N Q A vs vs rows) : GrT w.heap.size W g ro S N Q A vs rows := ⟨h.gc, h.hc, h.lv, h.lr, h.own⟩
theorem GrT.isGr {B0 : Nat} {W : World} {g ro S N Q A : Nat} {vs : List Value} {rows : List (List Int)} (h : GrT B0 W g ro S N Q A vs rows) : IsGr W g ro S N Q A vs rows := by
  refine ⟨by simp [World.cell?, h.gc], by simp [World.cell?, h.gc], by simp [World.cell?, h.gc], by simp [World.cell?, h.gc], h.lv, h.lr, ?_, fun i v l hv hl => (h.own i v l hv hl).zs⟩
  intro i v hv
  simp [World.cell?, h.hc, hv]
theorem GrT.below {B0 : Nat} {W W' : World} {g ro S N Q A : Nat} {vs : List Value} {rows : List (List Int)} (h : GrT B0 W g ro S N Q A vs rows) (b : Below W.heap.size W W') : GrT B0 W' g ro S N Q A vs rows :=
  ⟨heap_stays b h.gc, heap_stays b h.hc, h.lv, h.lr, fun i v l hv hl => (h.own i v l hv hl).below b⟩

/-- What is of another kind stays, where a row of slices of bytes grows. -/
theorem kind_stays {B1 : Nat} {W W' : World} {ov : Value} {m : Nat} {us : List Value} (ho : W.ownsRow B1 25 1 ov m us) (hg : W.grownBy W' ov.ownBlock) {k : Nat} {cs : Array Value} {t : TypeId} {fr : Nat × Nat} (h : W.heap[k]? = some (.cells cs t fr)) (ht : t ≠ 25) : W'.heap[k]? = W.heap[k]? := by
  refine hg.block k (Array.getElem?_eq_some_iff.1 h).1 (fun e => ?_)
  obtain ⟨c2, e2⟩ := owns_type' ho k e.symm
  rw [h] at e2
  injection e2 with e2
  injection e2 with _ e2 _
  exact ht e2

theorem GrT.grown {B0 B1 : Nat} {W W' : World} {g ro S N Q A : Nat} {vs us : List Value} {rows : List (List Int)} {ov : Value} {m : Nat} (h : GrT B0 W g ro S N Q A vs rows) (ho : W.ownsRow B1 25 1 ov m us) (hg : W.grownBy W' ov.ownBlock) : GrT B0 W' g ro S N Q A vs rows := by
  refine ⟨(kind_stays ho hg h.gc (by decide)).trans h.gc, (kind_stays ho hg h.hc (by decide)).trans h.hc, h.lv, h.lr, fun i v l hv hl => (h.own i v l hv hl).kept (fun q hq => ?_)⟩
  obtain ⟨cur, hh⟩ := own_cells (h.own i v l hv hl) hq
  exact kind_stays ho hg hh (by decide)

theorem FiveB.grown {B1 : Nat} {W W' : World} {b : Nat} {N B Q E F : Int} {us : List Value} {ov : Value} {m : Nat} (h : FiveB W b N B Q E F) (ho : W.ownsRow B1 25 1 ov m us) (hg : W.grownBy W' ov.ownBlock) : FiveB W' b N B Q E F := (kind_stays ho hg h (by decide)).trans h

/-- What Check answers, and its block. -/
def IsCk (B0 n : Nat) (x : List UInt8) : Value → World → Prop := fun v W => ∃ q, v = .tuple #[.slice (some ⟨q, 0, none⟩) n n, .bool true] ∧ B0 ≤ q ∧ Blk W q [] x []
theorem stays_ck (B0 n : Nat) (x : List UInt8) : Stays (IsCk B0 n x) := fun _ _ _ hb ⟨q, h1, h2, h3⟩ => ⟨q, h1, h2, h3.below hb⟩
def IsCb (B0 n : Nat) (x : List UInt8) : Value → World → Prop := fun v W => ∃ q, v = .slice (some ⟨q, 0, none⟩) n n ∧ B0 ≤ q ∧ Blk W q [] x []
theorem stays_cb (B0 n : Nat) (x : List UInt8) : Stays (IsCb B0 n x) := fun _ _ _ hb ⟨q, h1, h2, h3⟩ => ⟨q, h1, h2, h3.below hb⟩

theorem owns_below {B0 : Nat} {w w' : World} {e : TypeId} {v : Value} {n : Nat} {xs : List Value} (h : w.ownsRow B0 e 1 v n xs) (hb : Below w.heap.size w w') : w'.ownsRow B0 e 1 v n xs := owns_kept h (fun q hq => hb.block q (h.lt q hq).2)

end Go.Proofs.Ytkcijbejngnalaa
