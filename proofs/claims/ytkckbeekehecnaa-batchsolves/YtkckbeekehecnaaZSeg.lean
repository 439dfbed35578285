/-
  Texts that lie together: SegM SegA SegB SegC SegD SegS.
-/
import Derived.Test.YtkckbeekehecnaaZBase
import Derived.Test.YtkckbeekehecnaaZPar
import Derived.Deep.Cut
import Derived.BigQuiet
namespace Go.Proofs.Ytkckbeekehecnaa

section
/-
  segment: an object cut into blocks, and put together: mathematics. 'copy' into a block of one's own. Rows of blocks.
-/
open Go.RowKit
set_option linter.unusedVariables false

/-- A block of an object: its bytes, and noughts behind its end. -/
def blkAt (B : Nat) (l : List UInt8) (i : Nat) : List UInt8 := (List.range B).map fun k => l.getD (i * B + k) 0
/-- All of them. -/
def splitD (N B : Nat) (l : List UInt8) : List (List UInt8) := (List.range N).map (blkAt B l)
/-- Blocks, one behind the other: the first n bytes. -/
def joinD (n : Nat) (ls : List (List UInt8)) : List UInt8 := ls.flatten.take n

theorem blkAt_length (B : Nat) (l : List UInt8) (i : Nat) : (blkAt B l i).length = B := by simp [blkAt]
theorem splitD_length (N B : Nat) (l : List UInt8) : (splitD N B l).length = N := by simp [splitD]
theorem splitD_at {N B : Nat} {l : List UInt8} {i : Nat} (h : i < N) : (splitD N B l)[i]? = some (blkAt B l i) := by simp [splitD, h]
theorem splitD_next (N B : Nat) (l : List UInt8) : splitD (N + 1) B l = splitD N B l ++ [blkAt B l N] := by
  unfold splitD
  rw [List.range_succ, List.map_append]
  rfl
theorem splitD_mem {N B : Nat} {l x : List UInt8} (h : x ∈ splitD N B l) : x.length = B := by
  unfold splitD at h
  obtain ⟨i, _, rfl⟩ := List.mem_map.1 h
  exact blkAt_length B l i

/-- A block by 'copy'. -/
theorem blkAt_copy (B : Nat) (l : List UInt8) (i : Nat) : (l.drop (i * B)).take B ++ (zeros B).drop (min (l.drop (i * B)).length B) = blkAt B l i := by
  apply List.ext_getElem?
  intro k
  unfold blkAt
  by_cases hk : k < B
  · rw [List.getElem?_map, List.getElem?_range hk]
    simp only [Option.map_some]
    by_cases h1 : k < ((l.drop (i * B)).take B).length
    · rw [List.getElem?_append_left h1]
      simp only [List.length_take, List.length_drop] at h1
      rw [List.getElem?_take, if_pos hk, List.getElem?_drop]
      simp [List.getD, show i * B + k < l.length by omega]
    · rw [List.getElem?_append_right (by omega)]
      simp only [List.length_take, List.length_drop] at h1 ⊢
      rw [List.getElem?_drop]
      have e : l[i * B + k]? = none := List.getElem?_eq_none (by omega)
      simp only [zeros, List.getElem?_replicate, List.getD, e, Option.getD_none]
      rw [if_pos (by omega)]
  · rw [List.getElem?_eq_none (by simp [zeros]; omega), List.getElem?_eq_none (by simp; omega)]

theorem flat_split (N B : Nat) (l : List UInt8) : (splitD N B l).flatten = (List.range (N * B)).map fun k => l.getD k 0 := by
  induction N with
  | zero => simp [splitD]
  | succ N ih =>
    rw [splitD_next, List.flatten_append, ih, Nat.succ_mul, List.range_add, List.map_append, List.map_map]
    simp only [List.flatten_cons, List.flatten_nil, List.append_nil]
    rfl

/-- There and back. -/
theorem join_split {N B : Nat} {l : List UInt8} (h : l.length ≤ N * B) : joinD l.length (splitD N B l) = l := by
  unfold joinD
  rw [flat_split]
  apply List.ext_getElem?
  intro k
  by_cases hk : k < l.length
  · rw [List.getElem?_take, if_pos hk, List.getElem?_map, List.getElem?_range (by omega)]
    simp [List.getD, hk]
  · rw [List.getElem?_eq_none (by simp; omega), List.getElem?_eq_none (by omega)]

theorem getD_pad (l : List UInt8) (m k : Nat) : (l ++ zeros m).getD k 0 = l.getD k 0 := by
  simp only [List.getD]
  by_cases hk : k < l.length
  · rw [List.getElem?_append_left hk]
  · rw [List.getElem?_append_right (by omega), List.getElem?_eq_none (l := l) (by omega)]
    simp only [zeros, List.getElem?_replicate, Option.getD_none]
    split <;> rfl

theorem split_zeros (N B m : Nat) (l : List UInt8) : splitD N B (l ++ zeros m) = splitD N B l := by
  unfold splitD blkAt
  simp only [getD_pad]

theorem joinD_length {n B : Nat} {ls : List (List UInt8)} (hB : ∀ x ∈ ls, x.length = B) (hn : n ≤ ls.length * B) : (joinD n ls).length = n := by
  have : ls.flatten.length = ls.length * B := by
    clear hn
    induction ls with
    | nil => simp
    | cons x r ih =>
      rw [List.flatten_cons, List.length_append, hB x (by simp), ih (fun y hy => hB y (by simp [hy])), List.length_cons, Nat.succ_mul]
      omega
  unfold joinD
  rw [List.length_take, this]
  omega

/-- 'copy(dst, src)' into a part of a block of one's own. -/
theorem wpList_copyM (W : World) {ops : Array Oper} {rest : List Oper} {o : Oper} {a : Act} {Q : Exit → Act → World → Prop} (hgd : o.guard = none) (d s : Operand)
    (ho : o.op = .call { callee := .builtin .copy, args := #[d, s], argTypes := #[38, 38] }) (dp : Option Addr) (dLen dCap q off : Nat) (l b : List UInt8) (v : Value) (hd : a.eval d = .slice dp dLen dCap) (hs : a.eval s = v) (hB : Blk W q [] l []) (hb : Bs W v b)
    (hdp : 0 < dLen → dp = some ⟨q, off, none⟩) (hfit : off + dLen ≤ l.length) (m : Nat) (hm : m = min b.length dLen)
    (h : ∀ W', Blk W' q [] (l.take off ++ b.take dLen ++ l.drop (off + m)) [] → Below q W W' → W'.heap.size = W.heap.size → wpList Try.prog ops Q rest (a.put o.dst (.int .i64 (m : Int))) W') : wpList Try.prog ops Q (o :: rest) a W := by
  have hBq := hB.lt
  obtain ⟨hl, ao, cap, rfl, hnc, hcm, hn0, hc⟩ := hb
  have hg : W.heap[q]? = some (.cells (l.map bv).toArray 5) := by have h := hB; unfold Blk at h; simpa using h
  have hlt : (b.take dLen).length = m := by rw [hm, List.length_take, Nat.min_comm]
  by_cases h0 : m = 0
  · refine wpList_copy_nothing hgd d s 38 38 ho 5 Try.underlying38 infoSize dp ao dLen dCap b.length cap hd hs (by have : Nat.min b.length dLen = min b.length dLen := rfl; omega) ?_
    have e : b.take dLen = [] := List.eq_nil_of_length_eq_zero (by omega)
    have := h W (by rw [e, h0, List.append_nil, Nat.add_zero, List.take_append_drop]; exact hB) (Below.refl _ _) rfl
    rw [h0] at this
    simpa [goInt] using this
  · obtain rfl := hdp (by omega)
    obtain ⟨ad, rfl, hsrc⟩ : ∃ ad, ao = some ad ∧ ∀ j u, ((b.take dLen).map bv)[j]? = some u → W.cell? (ad.add j) = some u := by
      rcases hc with h1 | ⟨b', off', rfl, hc⟩
      · omega
      · refine ⟨_, rfl, fun j u hj => ?_⟩
        rw [Addr.add_lit]
        have hjn : j < dLen := by have := (List.getElem?_eq_some_iff.1 hj).1; rw [List.length_map, hlt] at this; omega
        rw [List.map_take, List.getElem?_take, if_pos hjn] at hj
        exact hc j u hj
    refine wpList_copy_own hgd d s 38 38 ho 5 Try.underlying38 infoSize q off dLen dCap ad b.length cap hd hs (l.map bv).toArray 5 hg ((b.take dLen).map bv) (by rw [List.length_map, hlt, hm]) hsrc (by simp; omega) (bv_oneCell _) ?_
    have h1 := h (W.setRow q ((l.map bv).take off ++ ((b.take dLen).map bv ++ (l.map bv).drop (off + ((b.take dLen).map bv).length))).toArray) ?_ ⟨rfl, rfl, rfl, by simp [World.setRow], fun k hk => setRow_other W q k _ (by omega)⟩ (by simp [World.setRow])
    · rw [List.length_map, hlt] at h1 ⊢
      simpa [goInt] using h1
    · unfold Blk
      rw [setRow_heap W q _ _ 5 (0, 0) hg, List.length_map, hlt]
      simp [List.map_take, List.map_drop]

theorem Bs.drop {w : World} {a : Option Addr} {n c : Nat} {l : List UInt8} (h : Bs w (.slice a n c) l) (T : Nat) (hT : T ≤ n) : Bs w (.slice (if c = T then a else a.map (·.add (T * 1))) (n - T) (c - T)) (l.drop T) := by
  have hn : n = l.length := by
    obtain ⟨_, _, _, hv, _⟩ := h
    injection hv
  have := h.mid T (n - T) (by omega)
  rwa [List.take_of_length_le (by simp; omega)] at this

theorem Try.infoBs : (Try.prog.info? 38).map (fun i => (i.zero, i.size, i.bytes)) = some (some (.slice none 0 0), 1, 24) := by kernel_rfl

/-- A slice over a whole block. -/
def slv (n p : Nat) : Value := .slice (some ⟨p, 0, none⟩) n n
def nilB (n : Nat) : List Value := List.replicate n (.slice none 0 0)

/-- A row of blocks of n bytes each, of their own, as it is filled. -/
structure Cut (B0 : Nat) (W : World) (q n : Nat) (qs : List Nat) (ls : List (List UInt8)) (rest : List Value) : Prop where
  row : W.heap[q]? = some (.cells (qs.map (slv n) ++ rest).toArray 38 (0, 0))
  qb : B0 ≤ q
  len : qs.length = ls.length
  at_ : ∀ (j p : Nat) (x : List UInt8), qs[j]? = some p → ls[j]? = some x → Blk W p [] x [] ∧ B0 ≤ p ∧ x.length = n

section
variable {B0 : Nat} {W W' : World} {q n : Nat} {qs : List Nat} {ls : List (List UInt8)} {rest : List Value}

theorem Cut.lt (h : Cut B0 W q n qs ls rest) : q < W.heap.size := (Array.getElem?_eq_some_iff.1 h.row).1
theorem Cut.get (h : Cut B0 W q n qs ls rest) {j p : Nat} (hp : qs[j]? = some p) : ∃ x, ls[j]? = some x ∧ Blk W p [] x [] ∧ B0 ≤ p ∧ x.length = n := by
  have hj : j < ls.length := by rw [← h.len]; exact (List.getElem?_eq_some_iff.1 hp).1
  exact ⟨ls[j], List.getElem?_eq_getElem hj, h.at_ j p _ hp (List.getElem?_eq_getElem hj)⟩
theorem Cut.ne (h : Cut B0 W q n qs ls rest) {p : Nat} {x : List UInt8} (hp : Blk W p [] x []) : p ≠ q := by
  rintro rfl
  have h1 := h.row
  unfold Blk at hp
  rw [hp] at h1
  injection h1 with h1
  injection h1 with _ h1 _
  exact absurd h1 (by decide)
theorem Cut.kept (h : Cut B0 W q n qs ls rest) (hk : ∀ k, k < W.heap.size → W'.heap[k]? = W.heap[k]?) : Cut B0 W' q n qs ls rest :=
  ⟨(hk q h.lt).trans h.row, h.qb, h.len, fun j p x hp hx => ⟨(h.at_ j p x hp hx).1.kept (hk p (h.at_ j p x hp hx).1.lt), (h.at_ j p x hp hx).2⟩⟩
theorem Cut.below (h : Cut B0 W q n qs ls rest) (hb : Below W.heap.size W W') : Cut B0 W' q n qs ls rest := h.kept (fun k hk => hb.block k hk)
theorem Cut.start (h : W.heap[q]? = some (.cells rest.toArray 38 (0, 0))) (hq : B0 ≤ q) : Cut B0 W q n [] [] rest := ⟨by simpa using h, hq, rfl, fun j p x hp => by simp at hp⟩

/-- The next block's slice is stored. -/
theorem Cut.store (h : Cut B0 W q n qs ls ((Value.slice none 0 0) :: rest)) {p : Nat} {x : List UInt8} (hp : Blk W p [] x []) (hx : x.length = n) (hB : B0 ≤ p) (m : Nat) (hm : m = qs.length) : Cut B0 (W.setCell ⟨q, m, none⟩ (slv n p)) q n (qs ++ [p]) (ls ++ [x]) rest := by
  subst hm
  have hk : ∀ k, k ≠ q → (W.setCell ⟨q, qs.length, none⟩ (slv n p)).heap[k]? = W.heap[k]? := fun k hk => Below.heap_setCell W ⟨q, qs.length, none⟩ _ k hk
  refine ⟨?_, h.qb, by simp [h.len], ?_⟩
  · rw [heap_setCell_at h.row]
    congr 2
    rw [List.set_append_right _ _ (by simp), List.length_map, Nat.sub_self, List.set_cons_zero, List.map_append]
    simp
  · intro j r y hr hy
    by_cases hj : j < qs.length
    · rw [List.getElem?_append_left hj] at hr
      rw [List.getElem?_append_left (by rw [← h.len]; exact hj)] at hy
      have := h.at_ j r y hr hy
      exact ⟨this.1.kept (hk r (h.ne this.1)), this.2⟩
    · have hj2 : j = qs.length := by
        have := (List.getElem?_eq_some_iff.1 hr).1
        simp at this
        omega
      subst hj2
      rw [List.getElem?_append_right (by omega)] at hr
      rw [List.getElem?_append_right (by rw [h.len]; omega)] at hy
      simp [h.len] at hr hy
      subst hr; subst hy
      exact ⟨hp.kept (hk p (h.ne hp)), hB, hx⟩

/-- The last block, the newest of all, is written. -/
theorem Cut.write {p : Nat} {x y : List UInt8} (h : Cut B0 W q n (qs ++ [p]) (ls ++ [x]) rest) (hy : Blk W' p [] y []) (hl : y.length = n) (hk : ∀ k, k < p → W'.heap[k]? = W.heap[k]?) (hq : q < p) (hqs : ∀ r ∈ qs, r < p) : Cut B0 W' q n (qs ++ [p]) (ls ++ [y]) rest := by
  have hlen : qs.length = ls.length := by have := h.len; simpa using this
  refine ⟨(hk q hq).trans h.row, h.qb, by simp [hlen], ?_⟩
  intro j r z hr hz
  by_cases hj : j < qs.length
  · rw [List.getElem?_append_left hj] at hr
    rw [List.getElem?_append_left (by rw [← hlen]; exact hj)] at hz
    have := h.at_ j r z (by rw [List.getElem?_append_left hj]; exact hr) (by rw [List.getElem?_append_left (by rw [← hlen]; exact hj)]; exact hz)
    exact ⟨this.1.kept (hk r (hqs r (List.mem_of_getElem? hr))), this.2⟩
  · have hj2 : j = qs.length := by
      have := (List.getElem?_eq_some_iff.1 hr).1
      simp at this
      omega
    subst hj2
    have := h.at_ qs.length p x (by simp) (by rw [hlen]; simp)
    rw [List.getElem?_append_right (by omega)] at hr
    rw [List.getElem?_append_right (by rw [hlen]; omega)] at hz
    simp [hlen] at hr hz
    subst hr; subst hz
    exact ⟨hy, this.2.1, hl⟩

theorem Cut.cell (h : Cut B0 W q n qs ls rest) {j : Nat} {v : Value} (hv : (qs.map (slv n) ++ rest)[j]? = some v) : W.cell? ⟨q, j, none⟩ = some v := by
  simp only [World.cell?, h.row]
  simpa using hv
theorem Cut.fr (h : Cut B0 W q n qs ls rest) (j : Nat) : W.frozen? ⟨q, j, none⟩ = false := by simp [World.frozen?, h.row]

/-- All of them are there: what is read. -/
theorem Cut.sl (h : Cut B0 W q n qs ls []) (N : Nat) (hN : N = qs.length) (hm : N ≤ 1000000000) : Sl 1 W (.slice (some ⟨q, 0, none⟩) N N) (qs.map (slv n)).length (qs.map (slv n)) := by
  subst hN
  refine ⟨by simp, some ⟨q, 0, none⟩, qs.length, by simp, by simp, by unfold maxLen; omega, fun h => by simp at h, .inr ⟨q, 0, rfl, fun j u hj => ?_⟩⟩
  rw [Nat.zero_add]
  exact h.cell (by simpa using hj)
theorem Cut.parts (h : Cut B0 W q n qs ls rest) (hm : n ≤ 1000000000) : Parts W (qs.map (slv n)) ls := by
  refine ⟨by simp [h.len], fun i v p hv hp => ?_⟩
  rw [List.getElem?_map] at hv
  cases hq : qs[i]? with
  | none => rw [hq] at hv; cases hv
  | some r =>
    rw [hq] at hv
    obtain rfl := Option.some.inj hv
    have := h.at_ i r p hq hp
    exact this.1.bs0 n n this.2.2.symm (Nat.le_refl _) (by unfold maxLen; omega)
end

theorem made_nilB {w2 : World} {base q n : Nat} (ho : w2.ownsRow base 38 1 (.slice (some ⟨q, 0, none⟩) n n) n (madeCells (Value.slice none 0 0).cells (n * 1)).toList) : w2.heap[q]? = some (.cells (nilB n).toArray 38 (0, 0)) := by
  simp only [Value.cells, Nat.mul_one, toList_madeCells_one] at ho
  rcases ho.2 with ⟨hv, _⟩ | ⟨g, cap, cur, hv, _, hh, _, _, hcs, htake⟩
  · cases hv
  · injection hv with e1 _ e3
    injection e1 with e1
    injection e1 with e1 _ _
    subst e1; subst e3
    rw [hh]
    have hl : cur.toList.length = n := by rw [Array.length_toList, hcs, Nat.mul_one]
    have : cur.toList = nilB n := by
      rw [← List.take_of_length_le (l := cur.toList) (i := n * 1) (by omega), htake]
      rfl
    rw [← this]

end

section
/-
  segment: Split.
-/
open Go.RowKit
set_option linter.unusedVariables false

theorem on_below {w w1 W : World} (h : Below w.heap.size w w1) (h2 : Below w1.heap.size w1 W) : Below w.heap.size w W := h.trans (h2.mono h.size)

theorem drop_copy (l : List UInt8) (i B m : Nat) (hm : (l.drop (i * B)).length = m) : (l.drop (i * B)).drop (min m B) = l.drop ((i + 1) * B) := by
  rw [List.drop_drop, Nat.succ_mul]
  simp only [List.length_drop] at hm
  by_cases h : B ≤ m
  · rw [Nat.min_eq_right h]
  · rw [Nat.min_eq_left (by omega), List.drop_eq_nil_of_le (by omega), List.drop_eq_nil_of_le (by omega)]

theorem Five.kept {W W' : World} {b : Nat} {N B Q E F : Int} (h : Five W b N B Q E F) (hk : W'.heap[b]? = W.heap[b]?) : Five W' b N B Q E F := by
  obtain ⟨d0, d1, d2, d3, d4⟩ := h
  exact ⟨(World.cell?_of_block (a := ⟨b, 0, none⟩) hk).trans d0, (World.cell?_of_block (a := ⟨b, 1, none⟩) hk).trans d1, (World.cell?_of_block (a := ⟨b, 2, none⟩) hk).trans d2, (World.cell?_of_block (a := ⟨b, 3, none⟩) hk).trans d3, (World.cell?_of_block (a := ⟨b, 4, none⟩) hk).trans d4⟩

theorem Blk.other {W W' : World} {q : Nat} {x : List UInt8} (h : Blk W q [] x []) (hk : W'.heap[q]? = W.heap[q]?) : Blk W' q [] x [] := h.kept hk

end

section
/-
  segment: allOf, Join.
-/
open Go.RowKit
set_option linter.unusedVariables false

/-- The first n bytes of some, and noughts behind them. -/
def padTo (n : Nat) (x : List UInt8) : List UInt8 := x.take n ++ zeros (n - x.length)
theorem padTo_length (n : Nat) (x : List UInt8) : (padTo n x).length = n := by
  unfold padTo
  simp [zeros]
  omega
theorem padTo_all {n : Nat} {x : List UInt8} (h : n ≤ x.length) : padTo n x = x.take n := by
  unfold padTo
  rw [show n - x.length = 0 by omega]
  simp [zeros]
theorem zeros_drop (n m : Nat) : (zeros n).drop m = zeros (n - m) := by simp [zeros]

theorem pad_copy (n : Nat) (x b : List UInt8) (off m : Nat) (ho : off = min n x.length) (hm : m = min b.length (n - off)) : (padTo n x).take off ++ b.take (n - off) ++ (padTo n x).drop (off + m) = padTo n (x ++ b) := by
  have h1 : (x.take n).length = off := by rw [List.length_take, ho]
  have e1 : (padTo n x).take off = x.take n := by
    unfold padTo
    rw [List.take_append_of_le_length (by omega), List.take_of_length_le (by omega)]
  have e2 : (padTo n x).drop (off + m) = zeros (n - x.length - m) := by
    unfold padTo
    rw [← h1, ← List.drop_drop, List.drop_left, zeros_drop]
  rw [e1, e2]
  unfold padTo
  rw [List.take_append, List.length_append, show n - off = n - x.length by omega, show n - x.length - m = n - (x.length + b.length) by omega]

theorem flat_len {B : Nat} {ls : List (List UInt8)} (hB : ∀ x ∈ ls, x.length = B) : ls.flatten.length = ls.length * B := by
  induction ls with
  | nil => simp
  | cons x r ih =>
    rw [List.flatten_cons, List.length_append, hB x (by simp), ih (fun y hy => hB y (by simp [hy])), List.length_cons, Nat.succ_mul]
    omega

theorem flat_next (ls : List (List UInt8)) (i : Nat) (h : i < ls.length) : (ls.take (i + 1)).flatten = (ls.take i).flatten ++ ls[i] := by
  rw [List.take_succ_eq_append_getElem h, List.flatten_append]
  simp

/-- What is asked of the blocks. -/
def fitJ (N B : Nat) (n : Int) (ls : List (List UInt8)) : Prop := ls.length = N ∧ 0 ≤ n ∧ n ≤ ((N * B : Nat) : Int) ∧ (ls.all fun l => decide ((l.length : Int) = (B : Int))) = true

theorem fitJ.mem {N B : Nat} {n : Int} {ls : List (List UInt8)} (h : fitJ N B n ls) : ∀ x ∈ ls, x.length = B := by
  intro x hx
  have := List.all_eq_true.1 h.2.2.2 x hx
  simp at this
  omega

end

section
/-
  segment: the document's Split and Join; same.
-/
open Go.RowKit
set_option linter.unusedVariables false

/-- Bytes of one's own that grow. -/
def OwB (B : Nat) (w : World) (v : Value) (n : Nat) (l : List UInt8) : Prop := w.ownsRow B 5 1 v n (l.map bv)
theorem OwB.len {B : Nat} {w : World} {v : Value} {n : Nat} {l : List UInt8} (h : OwB B w v n l) : l.length = n := by
  have := h.1
  simpa using this
theorem OwB.bs {B : Nat} {w : World} {v : Value} {n : Nat} {l : List UInt8} (h : OwB B w v n l) : Bs w v l := by
  unfold Bs
  rw [h.len]
  exact owned_sl h
theorem OwB.lt {B : Nat} {w : World} {v : Value} {n : Nat} {l : List UInt8} (h : OwB B w v n l) : ∀ q, v.ownBlock = some q → B ≤ q ∧ q < w.heap.size := fun q hq => World.ownsRow.lt h q hq
theorem OwB.kept {B : Nat} {w w' : World} {v : Value} {n : Nat} {l : List UInt8} (h : OwB B w v n l) (hk : ∀ q, v.ownBlock = some q → w'.heap[q]? = w.heap[q]?) : OwB B w' v n l := owns_kept h hk
theorem OwB.below {B : Nat} {w w' : World} {v : Value} {n : Nat} {l : List UInt8} (h : OwB B w v n l) (hb : Below w.heap.size w w') : OwB B w' v n l := h.kept (fun q hq => hb.block q (h.lt q hq).2)
theorem OwB.alloc {B : Nat} {w : World} {v : Value} {n : Nat} {l : List UInt8} (h : OwB B w v n l) (o : Obj) : OwB B (w.alloc o) v n l := h.below (below_alloc _ _)
theorem OwB.new {B : Nat} (w : World) (h : B ≤ w.heap.size) : OwB B (w.alloc (.cells #[] 5)) (.slice (some ⟨w.heap.size, 0, none⟩) 0 0) 0 [] := World.ownsRow_lit w #[] 0 h (by simp [maxLen]) rfl

theorem wpList_addB (w : World) {ops : Array Oper} {rest : List Oper} {o : Oper} {a : Act} {Q : Exit → Act → World → Prop} (hgd : o.guard = none) (s x : Operand)
    (ho : o.op = .call { callee := .builtin .append, args := #[s, x], argTypes := #[38, 38] })
    (B : Nat) (v : Value) (n : Nat) (l : List UInt8) (hs : a.eval s = v) (hown : OwB B w v n l)
    (xv : Value) (m : Nat) (news : List UInt8) (hx : a.eval x = xv) (hsrc : Sl 1 w xv m (news.map bv))
    (hlen : n + m ≤ 1000000000) (hbase : B ≤ w.heap.size)
    (h : ∀ ao cap w', OwB B w' (.slice ao (n + m) cap) (n + m) (l ++ news) → w.grownBy w' v.ownBlock → n + m ≤ cap → cap ≤ maxLen → wpList Try.prog ops Q rest (a.put o.dst (.slice ao (n + m) cap)) w') : wpList Try.prog ops Q (o :: rest) a w := by
  obtain ⟨i, hi, hz, h1, h8⟩ := info_parts Try.infoByte
  refine wpList_app w hgd s x 38 ho B 5 i (.int .u8 0) 1 1 Try.underlying38 hi hz h1 h8 rfl (by decide) v n _ hs hown xv m _ hx hsrc (bv_oneCell _) (by unfold maxLen; omega) (by omega) hbase ?_
  intro ao cap w' h2 h3 h4 h5 h6 h7
  refine h ao cap w' ?_ h3 h6 h7
  unfold OwB
  rw [List.map_append]
  exact h2

theorem below_addB {B0 B : Nat} {w w1 w2 : World} {v : Value} {n : Nat} {l : List UInt8} (hb : Below B0 w w1) (ho : OwB B w1 v n l) (hB : B0 ≤ B) (hs : B0 ≤ w1.heap.size) (hg : w1.grownBy w2 v.ownBlock) : Below B0 w w2 :=
  hb.grown hg hs (fun k hk => Nat.le_trans hB (ho.lt k hk).1)

theorem bs_one (w : World) (x : UInt8) (e : TypeId) : Sl 1 (w.alloc (.cells #[bv x] e)) (.slice (some ⟨w.heap.size, 0, none⟩) 1 1) 1 ([x].map bv) := alloc_one _ _

theorem take_next (l : List UInt8) (k : Nat) (h : k < l.length) : l.take (k + 1) = l.take k ++ [l[k]] := List.take_succ_eq_append_getElem h

end

section
/-
  segment: the document's Split.
-/
open Go.RowKit
set_option linter.unusedVariables false

/-- Rows of bytes, each of its own. -/
def RowsB (B0 : Nat) (w : World) (vs : List Value) (ls : List (List UInt8)) : Prop := vs.length = ls.length ∧ ∀ (i : Nat) (v : Value) (l : List UInt8), vs[i]? = some v → ls[i]? = some l → OwB B0 w v l.length l

theorem RowsB.parts {B0 : Nat} {w : World} {vs : List Value} {ls : List (List UInt8)} (h : RowsB B0 w vs ls) : Parts w vs ls := ⟨h.1, fun i v l hv hl => (h.2 i v l hv hl).bs⟩
theorem RowsB.below {B0 : Nat} {w w' : World} {vs : List Value} {ls : List (List UInt8)} (h : RowsB B0 w vs ls) (hb : Below w.heap.size w w') : RowsB B0 w' vs ls := ⟨h.1, fun i v l hv hl => (h.2 i v l hv hl).below hb⟩
theorem RowsB.start (B0 : Nat) (w : World) : RowsB B0 w [] [] := ⟨rfl, fun i v l hv => by simp at hv⟩
theorem OwB.mono {B B' : Nat} {w : World} {v : Value} {n : Nat} {l : List UInt8} (h : OwB B w v n l) (hB : B' ≤ B) : OwB B' w v n l := by
  refine ⟨h.1, ?_⟩
  rcases h.2 with h' | ⟨g, cap, cur, hv, hg, hh, hx⟩
  · exact .inl h'
  · exact .inr ⟨g, cap, cur, hv, Nat.le_trans hB hg, hh, hx⟩
theorem RowsB.snoc {B0 : Nat} {w : World} {vs : List Value} {ls : List (List UInt8)} (h : RowsB B0 w vs ls) {v : Value} {l : List UInt8} (hv : OwB B0 w v l.length l) : RowsB B0 w (vs ++ [v]) (ls ++ [l]) := by
  refine ⟨by simp [h.1], fun i u k hu hk => ?_⟩
  by_cases hi : i < vs.length
  · rw [List.getElem?_append_left hi] at hu
    rw [List.getElem?_append_left (by rw [← h.1]; exact hi)] at hk
    exact h.2 i u k hu hk
  · have hi2 : i = vs.length := by
      have := (List.getElem?_eq_some_iff.1 hu).1
      simp at this
      omega
    subst hi2
    rw [List.getElem?_append_right (by omega)] at hu
    rw [List.getElem?_append_right (by rw [h.1]; omega)] at hk
    simp [h.1] at hu hk
    subst hu; subst hk
    exact hv

/-- A row of slices grows: the bytes stay. -/
theorem RowsB.grown {B0 B1 : Nat} {w w' : World} {vs us : List Value} {ls : List (List UInt8)} {ov : Value} {m : Nat} (h : RowsB B0 w vs ls) (ho : w.ownsRow B1 38 1 ov m us) (hg : w.grownBy w' ov.ownBlock) : RowsB B0 w' vs ls := by
  refine ⟨h.1, fun i v l hv hl => ?_⟩
  have h1 := h.2 i v l hv hl
  refine h1.kept (fun q hq => hg.block q (h1.lt q hq).2 (fun e => ?_))
  obtain ⟨c1, e1⟩ := owns_type' h1 q hq
  obtain ⟨c2, e2⟩ := owns_type' ho q e.symm
  rw [e1] at e2
  injection e2 with e2
  injection e2 with _ e2 _
  exact absurd e2 (by decide)

theorem infoBs_parts : ∃ i, Try.prog.info? 38 = some i ∧ i.zero = some (.slice none 0 0) ∧ i.size = 1 ∧ i.bytes = 24 := by
  obtain ⟨i, a, b, c, d⟩ := info_parts Try.infoBs
  exact ⟨i, a, b, c, d⟩

/-- One slice behind a row of slices of one's own. -/
theorem wpList_addS (w : World) {ops : Array Oper} {rest : List Oper} {o : Oper} {a : Act} {Q : Exit → Act → World → Prop} (hgd : o.guard = none) (s x : Operand)
    (ho : o.op = .call { callee := .builtin .append, args := #[s, x], argTypes := #[23, 23] })
    (B : Nat) (v : Value) (n : Nat) (vs : List Value) (hs : a.eval s = v) (hown : w.ownsRow B 38 1 v n vs)
    (xv : Value) (u : Value) (hu : u.oneCell' = true) (hx : a.eval x = xv) (hsrc : Sl 1 w xv 1 [u])
    (hlen : n + 1 ≤ 1000000000) (hbase : B ≤ w.heap.size)
    (h : ∀ ao cap w', w'.ownsRow B 38 1 (.slice ao (n + 1) cap) (n + 1) (vs ++ [u]) → w.grownBy w' v.ownBlock → n + 1 ≤ cap → cap ≤ maxLen → wpList Try.prog ops Q rest (a.put o.dst (.slice ao (n + 1) cap)) w') : wpList Try.prog ops Q (o :: rest) a w := by
  obtain ⟨i, hi, hz, h1, h8⟩ := infoBs_parts
  refine wpList_app w hgd s x 23 ho B 38 i (.slice none 0 0) 1 24 Try.underlying23 hi hz h1 h8 rfl (by decide) v n _ hs hown xv 1 [u] hx hsrc (by intro y hy; rw [List.mem_singleton.1 hy]; exact hu) (by unfold maxLen; omega) (by omega) hbase ?_
  intro ao cap w' h2 h3 h4 h5 h6 h7
  exact h ao cap w' h2 h3 h6 h7

theorem blkAt_take (B : Nat) (l : List UInt8) (i k : Nat) (h : k < B) : (blkAt B l i).take (k + 1) = (blkAt B l i).take k ++ [l.getD (i * B + k) 0] := by
  rw [take_next _ k (by rw [blkAt_length]; exact h)]
  congr 2
  simp [blkAt]

theorem below_ownR {B0 B : Nat} {w w1 w2 : World} {v : Value} {n : Nat} {vs : List Value} (hb : Below B0 w w1) (ho : w1.ownsRow B 38 1 v n vs) (hB : B0 ≤ B) (hs : B0 ≤ w1.heap.size) (hg : w1.grownBy w2 v.ownBlock) : Below B0 w w2 :=
  hb.grown hg hs (fun k hk => Nat.le_trans hB (World.ownsRow.lt ho k hk).1)

theorem owns_mono {B0 B1 : Nat} {w : World} {e : TypeId} {v : Value} {n : Nat} {xs : List Value} (h : w.ownsRow B0 e 1 v n xs) (hB : B1 ≤ B0) : w.ownsRow B1 e 1 v n xs := by
  refine ⟨h.1, ?_⟩
  rcases h.2 with h' | ⟨g, cap, cur, hv, hg, hx⟩
  · exact .inl h'
  · exact .inr ⟨g, cap, cur, hv, Nat.le_trans hB hg, hx⟩
theorem RowsB.mono {B0 B1 : Nat} {w : World} {vs : List Value} {ls : List (List UInt8)} (h : RowsB B0 w vs ls) (hB : B1 ≤ B0) : RowsB B1 w vs ls := ⟨h.1, fun i v l hv hl => (h.2 i v l hv hl).mono hB⟩

end

section
/-
  segment: same; what the statements' speaks says.
-/
open Go.RowKit
set_option linter.unusedVariables false

theorem may_22 : May ((2 : Nat) : Int) ((2 : Nat) : Int) 1 1000 2 := ⟨by omega, by omega, by omega, by omega, by omega, by decide⟩

end

end Go.Proofs.Ytkckbeekehecnaa
