/-
  segment: an object cut into blocks, and put together: mathematics. 'copy' into a block of one's own. Rows of blocks.
-/
import Derived.Test.YtbnedpjfgadkkaaLClear
import Derived.Test.YtbnedpjfgadkkaaLSlice
import Derived.Test.YtbnedpjfgadkkaaLHeap
import Derived.Test.YtbnedpjfgadkkaaBlkB
namespace Go.Proofs.Ytbnedpjfgadkkaa
open Go.RowKit
set_option linter.unusedVariables false

/-- A block of an object: its bytes, and noughts behind its end. -/
def blkAt (B : Nat) (l : List UInt8) (i : Nat) : List UInt8 := (List.range B).map fun k => l.getD (i * B + k) 0
/-- All of them. -/
def splitD (N B : Nat) (l : List UInt8) : List (List UInt8) := (List.range N).map (blkAt B l)
/-- Blocks, one behind the other: the first n bytes. -/
def joinD (n : Nat) (ls : List (List UInt8)) : List UInt8 := ls.flatten.take n

theorem blkAt_length (B : Nat) (l : List UInt8) (i : Nat) : (blkAt B l i).length = B := by simp [blkAt]
theorem splitD_length (N B : Nat) (l : List UInt8) : (splitD N B l).length = N := by simp [splitD]
theorem splitD_at {N B : Nat} {l : List UInt8} {i : Nat} (h : i < N) : (splitD N B l)[i]? = some (blkAt B l i) := by simp [splitD, h]
theorem splitD_next (N B : Nat) (l : List UInt8) : splitD (N + 1) B l = splitD N B l ++ [blkAt B l N] := by
  unfold splitD
  rw [List.range_succ, List.map_append]
  rfl
theorem splitD_mem {N B : Nat} {l x : List UInt8} (h : x ∈ splitD N B l) : x.length = B := by
  unfold splitD at h
  obtain ⟨i, _, rfl⟩ := List.mem_map.1 h
  exact blkAt_length B l i

/-- A block by 'copy'. -/
theorem blkAt_copy (B : Nat) (l : List UInt8) (i : Nat) : (l.drop (i * B)).take B ++ (zeros B).drop (min (l.drop (i * B)).length B) = blkAt B l i := by
  apply List.ext_getElem?
  intro k
  unfold blkAt
  by_cases hk : k < B
  · rw [List.getElem?_map, List.getElem?_range hk]
    simp only [Option.map_some]
    by_cases h1 : k < ((l.drop (i * B)).take B).length
    · rw [List.getElem?_append_left h1]
      simp only [List.length_take, List.length_drop] at h1
      rw [List.getElem?_take, if_pos hk, List.getElem?_drop]
      simp [List.getD, show i * B + k < l.length by omega]
    · rw [List.getElem?_append_right (by omega)]
      simp only [List.length_take, List.length_drop] at h1 ⊢
      rw [List.getElem?_drop]
      have e : l[i * B + k]? = none := List.getElem?_eq_none (by omega)
      simp only [zeros, List.getElem?_replicate, List.getD, e, Option.getD_none]
      rw [if_pos (by omega)]
  · rw [List.getElem?_eq_none (by simp [zeros]; omega), List.getElem?_eq_none (by simp; omega)]

theorem flat_split (N B : Nat) (l : List UInt8) : (splitD N B l).flatten = (List.range (N * B)).map fun k => l.getD k 0 := by
  induction N with
  | zero => simp [splitD]
  | succ N ih =>
    rw [splitD_next, List.flatten_append, ih, Nat.succ_mul, List.range_add, List.map_append, List.map_map]
    simp only [List.flatten_cons, List.flatten_nil, List.append_nil]
    rfl

/-- There and back. -/
theorem join_split {N B : Nat} {l : List UInt8} (h : l.length ≤ N * B) : joinD l.length (splitD N B l) = l := by
  unfold joinD
  rw [flat_split]
  apply List.ext_getElem?
  intro k
  by_cases hk : k < l.length
  · rw [List.getElem?_take, if_pos hk, List.getElem?_map, List.getElem?_range (by omega)]
    simp [List.getD, hk]
  · rw [List.getElem?_eq_none (by simp; omega), List.getElem?_eq_none (by omega)]

theorem getD_pad (l : List UInt8) (m k : Nat) : (l ++ zeros m).getD k 0 = l.getD k 0 := by
  simp only [List.getD]
  by_cases hk : k < l.length
  · rw [List.getElem?_append_left hk]
  · rw [List.getElem?_append_right (by omega), List.getElem?_eq_none (l := l) (by omega)]
    simp only [zeros, List.getElem?_replicate, Option.getD_none]
    split <;> rfl

theorem split_zeros (N B m : Nat) (l : List UInt8) : splitD N B (l ++ zeros m) = splitD N B l := by
  unfold splitD blkAt
  simp only [getD_pad]

theorem joinD_length {n B : Nat} {ls : List (List UInt8)} (hB : ∀ x ∈ ls, x.length = B) (hn : n ≤ ls.length * B) : (joinD n ls).length = n := by
  have : ls.flatten.length = ls.length * B := by
    clear hn
    induction ls with
    | nil => simp
    | cons x r ih =>
      rw [List.flatten_cons, List.length_append, hB x (by simp), ih (fun y hy => hB y (by simp [hy])), List.length_cons, Nat.succ_mul]
      omega
  unfold joinD
  rw [List.length_take, this]
  omega

/-- 'copy(dst, src)' into a part of a block of one's own. -/
theorem wpList_copyM (W : World) {ops : Array Oper} {rest : List Oper} {o : Oper} {a : Act} {Q : Exit → Act → World → Prop} (hgd : o.guard = none) (d s : Operand)
    (ho : o.op = .call { callee := .builtin .copy, args := #[d, s], argTypes := #[40, 40] }) (dp : Option Addr) (dLen dCap q off : Nat) (l b : List UInt8) (v : Value) (hd : a.eval d = .slice dp dLen dCap) (hs : a.eval s = v) (hB : Blk W q [] l []) (hb : Bs W v b)
    (hdp : 0 < dLen → dp = some ⟨q, off, none⟩) (hfit : off + dLen ≤ l.length) (m : Nat) (hm : m = min b.length dLen)
    (h : ∀ W', Blk W' q [] (l.take off ++ b.take dLen ++ l.drop (off + m)) [] → Below q W W' → W'.heap.size = W.heap.size → wpList Try.prog ops Q rest (a.put o.dst (.int .i64 (m : Int))) W') : wpList Try.prog ops Q (o :: rest) a W := by
  have hBq := hB.lt
  obtain ⟨hl, ao, cap, rfl, hnc, hcm, hn0, hc⟩ := hb
  have hg : W.heap[q]? = some (.cells (l.map bv).toArray 5) := by have h := hB; unfold Blk at h; simpa using h
  have hlt : (b.take dLen).length = m := by rw [hm, List.length_take, Nat.min_comm]
  by_cases h0 : m = 0
  · refine wpList_copy_nothing hgd d s 40 40 ho 5 Try.underlying40 infoSize dp ao dLen dCap b.length cap hd hs (by have : Nat.min b.length dLen = min b.length dLen := rfl; omega) ?_
    have e : b.take dLen = [] := List.eq_nil_of_length_eq_zero (by omega)
    have := h W (by rw [e, h0, List.append_nil, Nat.add_zero, List.take_append_drop]; exact hB) (Below.refl _ _) rfl
    rw [h0] at this
    simpa [goInt] using this
  · obtain rfl := hdp (by omega)
    obtain ⟨ad, rfl, hsrc⟩ : ∃ ad, ao = some ad ∧ ∀ j u, ((b.take dLen).map bv)[j]? = some u → W.cell? (ad.add j) = some u := by
      rcases hc with h1 | ⟨b', off', rfl, hc⟩
      · omega
      · refine ⟨_, rfl, fun j u hj => ?_⟩
        rw [Addr.add_lit]
        have hjn : j < dLen := by have := (List.getElem?_eq_some_iff.1 hj).1; rw [List.length_map, hlt] at this; omega
        rw [List.map_take, List.getElem?_take, if_pos hjn] at hj
        exact hc j u hj
    refine wpList_copy_own hgd d s 40 40 ho 5 Try.underlying40 infoSize q off dLen dCap ad b.length cap hd hs (l.map bv).toArray 5 hg ((b.take dLen).map bv) (by rw [List.length_map, hlt, hm]) hsrc (by simp; omega) (bv_oneCell _) ?_
    have h1 := h (W.setRow q ((l.map bv).take off ++ ((b.take dLen).map bv ++ (l.map bv).drop (off + ((b.take dLen).map bv).length))).toArray) ?_ ⟨rfl, rfl, rfl, by simp [World.setRow], fun k hk => setRow_other W q k _ (by omega)⟩ (by simp [World.setRow])
    · rw [List.length_map, hlt] at h1 ⊢
      simpa [goInt] using h1
    · unfold Blk
      rw [setRow_heap W q _ _ 5 (0, 0) hg, List.length_map, hlt]
      simp [List.map_take, List.map_drop]

theorem Bs.drop {w : World} {a : Option Addr} {n c : Nat} {l : List UInt8} (h : Bs w (.slice a n c) l) (T : Nat) (hT : T ≤ n) : Bs w (.slice (if c = T then a else a.map (·.add (T * 1))) (n - T) (c - T)) (l.drop T) := by
  have hn : n = l.length := by
    obtain ⟨_, _, _, hv, _⟩ := h
    injection hv
  have := h.mid T (n - T) (by omega)
  rwa [List.take_of_length_le (by simp; omega)] at this

theorem Try.infoBs : (Try.prog.info? 40).map (fun i => (i.zero, i.size, i.bytes)) = some (some (.slice none 0 0), 1, 24) := by kernel_rfl

/-- A slice over a whole block. -/
def slv (n p : Nat) : Value := .slice (some ⟨p, 0, none⟩) n n
def nilB (n : Nat) : List Value := List.replicate n (.slice none 0 0)

/-- A row of blocks of n bytes each, of their own, as it is filled. -/
structure Cut (B0 : Nat) (W : World) (q n : Nat) (qs : List Nat) (ls : List (List UInt8)) (rest : List Value) : Prop where
  row : W.heap[q]? = some (.cells (qs.map (slv n) ++ rest).toArray 40 (0, 0))
  qb : B0 ≤ q
  len : qs.length = ls.length
  at_ : ∀ (j p : Nat) (x : List UInt8), qs[j]? = some p → ls[j]? = some x → Blk W p [] x [] ∧ B0 ≤ p ∧ x.length = n

section
variable {B0 : Nat} {W W' : World} {q n : Nat} {qs : List Nat} {ls : List (List UInt8)} {rest : List Value}

theorem Cut.lt (h : Cut B0 W q n qs ls rest) : q < W.heap.size := (Array.getElem?_eq_some_iff.1 h.row).1
theorem Cut.get (h : Cut B0 W q n qs ls rest) {j p : Nat} (hp : qs[j]? = some p) : ∃ x, ls[j]? = some x ∧ Blk W p [] x [] ∧ B0 ≤ p ∧ x.length = n := by
  have hj : j < ls.length := by rw [← h.len]; exact (List.getElem?_eq_some_iff.1 hp).1
  exact ⟨ls[j], List.getElem?_eq_getElem hj, h.at_ j p _ hp (List.getElem?_eq_getElem hj)⟩
theorem Cut.ne (h : Cut B0 W q n qs ls rest) {p : Nat} {x : List UInt8} (hp : Blk W p [] x []) : p ≠ q := by
  rintro rfl
  have h1 := h.row
  unfold Blk at hp
  rw [hp] at h1
  injection h1 with h1
  injection h1 with _ h1 _
  exact absurd h1 (by decide)
theorem Cut.kept (h : Cut B0 W q n qs ls rest) (hk : ∀ k, k < W.heap.size → W'.heap[k]? = W.heap[k]?) : Cut B0 W' q n qs ls rest :=
  ⟨(hk q h.lt).trans h.row, h.qb, h.len, fun j p x hp hx => ⟨(h.at_ j p x hp hx).1.kept (hk p (h.at_ j p x hp hx).1.lt), (h.at_ j p x hp hx).2⟩⟩
theorem Cut.below (h : Cut B0 W q n qs ls rest) (hb : Below W.heap.size W W') : Cut B0 W' q n qs ls rest := h.kept (fun k hk => hb.block k hk)
theorem Cut.start (h : W.heap[q]? = some (.cells rest.toArray 40 (0, 0))) (hq : B0 ≤ q) : Cut B0 W q n [] [] rest := ⟨by simpa using h, hq, rfl, fun j p x hp => by simp at hp⟩

/-- The next block's slice is stored. -/
theorem Cut.store (h : Cut B0 W q n qs ls ((Value.slice none 0 0) :: rest)) {p : Nat} {x : List UInt8} (hp : Blk W p [] x []) (hx : x.length = n) (hB : B0 ≤ p) (m : Nat) (hm : m = qs.length) : Cut B0 (W.setCell ⟨q, m, none⟩ (slv n p)) q n (qs ++ [p]) (ls ++ [x]) rest := by
  subst hm
  have hk : ∀ k, k ≠ q → (W.setCell ⟨q, qs.length, none⟩ (slv n p)).heap[k]? = W.heap[k]? := fun k hk => Below.heap_setCell W ⟨q, qs.length, none⟩ _ k hk
  refine ⟨?_, h.qb, by simp [h.len], ?_⟩
  · rw [heap_setCell_at h.row]
    congr 2
    rw [List.set_append_right _ _ (by simp), List.length_map, Nat.sub_self, List.set_cons_zero, List.map_append]
    simp
  · intro j r y hr hy
    by_cases hj : j < qs.length
    · rw [List.getElem?_append_left hj] at hr
      rw [List.getElem?_append_left (by rw [← h.len]; exact hj)] at hy
      have := h.at_ j r y hr hy
      exact ⟨this.1.kept (hk r (h.ne this.1)), this.2⟩
    · have hj2 : j = qs.length := by
        have := (List.getElem?_eq_some_iff.1 hr).1
        simp at this
        omega
      subst hj2
      rw [List.getElem?_append_right (by omega)] at hr
      rw [List.getElem?_append_right (by rw [h.len]; omega)] at hy
      simp [h.len] at hr hy
      subst hr; subst hy
      exact ⟨hp.kept (hk p (h.ne hp)), hB, hx⟩

/-- The last block, the newest of all, is written. -/
theorem Cut.write {p : Nat} {x y : List UInt8} (h : Cut B0 W q n (qs ++ [p]) (ls ++ [x]) rest) (hy : Blk W' p [] y []) (hl : y.length = n) (hk : ∀ k, k < p → W'.heap[k]? = W.heap[k]?) (hq : q < p) (hqs : ∀ r ∈ qs, r < p) : Cut B0 W' q n (qs ++ [p]) (ls ++ [y]) rest := by
  have hlen : qs.length = ls.length := by have := h.len; simpa using this
  refine ⟨(hk q hq).trans h.row, h.qb, by simp [hlen], ?_⟩
  intro j r z hr hz
  by_cases hj : j < qs.length
  · rw [List.getElem?_append_left hj] at hr
    rw [List.getElem?_append_left (by rw [← hlen]; exact hj)] at hz
    have := h.at_ j r z (by rw [List.getElem?_append_left hj]; exact hr) (by rw [List.getElem?_append_left (by rw [← hlen]; exact hj)]; exact hz)
    exact ⟨this.1.kept (hk r (hqs r (List.mem_of_getElem? hr))), this.2⟩
  · have hj2 : j = qs.length := by
      have := (List.getElem?_eq_some_iff.1 hr).1
      simp at this
      omega
    subst hj2
    have := h.at_ qs.length p x (by simp) (by rw [hlen]; simp)
    rw [List.getElem?_append_right (by omega)] at hr
    rw [List.getElem?_append_right (by rw [hlen]; omega)] at hz
    simp [hlen] at hr hz
    subst hr; subst hz
    exact ⟨hy, this.2.1, hl⟩

theorem Cut.cell (h : Cut B0 W q n qs ls rest) {j : Nat} {v : Value} (hv : (qs.map (slv n) ++ rest)[j]? = some v) : W.cell? ⟨q, j, none⟩ = some v := by
  simp only [World.cell?, h.row]
  simpa using hv
theorem Cut.fr (h : Cut B0 W q n qs ls rest) (j : Nat) : W.frozen? ⟨q, j, none⟩ = false := by simp [World.frozen?, h.row]

/-- All of them are there: what is read. -/
theorem Cut.sl (h : Cut B0 W q n qs ls []) (N : Nat) (hN : N = qs.length) (hm : N ≤ 1000000000) : Sl 1 W (.slice (some ⟨q, 0, none⟩) N N) (qs.map (slv n)).length (qs.map (slv n)) := by
  subst hN
  refine ⟨by simp, some ⟨q, 0, none⟩, qs.length, by simp, by simp, by unfold maxLen; omega, fun h => by simp at h, .inr ⟨q, 0, rfl, fun j u hj => ?_⟩⟩
  rw [Nat.zero_add]
  exact h.cell (by simpa using hj)
theorem Cut.parts (h : Cut B0 W q n qs ls rest) (hm : n ≤ 1000000000) : Parts W (qs.map (slv n)) ls := by
  refine ⟨by simp [h.len], fun i v p hv hp => ?_⟩
  rw [List.getElem?_map] at hv
  cases hq : qs[i]? with
  | none => rw [hq] at hv; cases hv
  | some r =>
    rw [hq] at hv
    obtain rfl := Option.some.inj hv
    have := h.at_ i r p hq hp
    exact this.1.bs0 n n this.2.2.symm (Nat.le_refl _) (by unfold maxLen; omega)
end

theorem made_nilB {w2 : World} {base q n : Nat} (ho : w2.ownsRow base 40 1 (.slice (some ⟨q, 0, none⟩) n n) n (madeCells (Value.slice none 0 0).cells (n * 1)).toList) : w2.heap[q]? = some (.cells (nilB n).toArray 40 (0, 0)) := by
  simp only [Value.cells, Nat.mul_one, toList_madeCells_one] at ho
  rcases ho.2 with ⟨hv, _⟩ | ⟨g, cap, cur, hv, _, hh, _, _, hcs, htake⟩
  · cases hv
  · injection hv with e1 _ e3
    injection e1 with e1
    injection e1 with e1 _ _
    subst e1; subst e3
    rw [hh]
    have hl : cur.toList.length = n := by rw [Array.length_toList, hcs, Nat.mul_one]
    have : cur.toList = nilB n := by
      rw [← List.take_of_length_le (l := cur.toList) (i := n * 1) (by omega), htake]
      rfl
    rw [← this]

end Go.Proofs.Ytbnedpjfgadkkaa
