/-
  Blocks in an arena, and the same ones outside it: what holds of both, and how it is kept.
-/
import Derived.Test.YtofbklabapmdcaaARoom
import Derived.Test.YtofbklabapmdcaaLPairs
namespace Go.Proofs.Ytofbklabapmdcaa
open Go.RowKit
set_option linter.unusedVariables false

def heapRow (n : Nat) (qs : List Nat) : List Value := qs.map fun q => Value.slice (some ⟨q, 0, none⟩) n n

/-- The blocks outside (where each lies: qs, what it holds: cs), the arena's own (ds), their numbers. -/
structure HeapSt (w : World) (a : Nat) (s : Ar) (n : Nat) (vo va : Value) (qs : List Nat) (cs ds : List (List UInt8)) : Prop where
  ar : IsAr w a a s
  size : s.size = n
  blen : s.bl.length = cs.length
  nob : s.back = []
  qlen : qs.length = cs.length
  dlen : ds.length = cs.length
  row : w.ownsRow a 28 1 vo cs.length (heapRow n qs)
  nums : w.ownsRow a 3 1 va cs.length (upTo cs.length)
  blk : ∀ (i : Nat) q c, qs[i]? = some q → cs[i]? = some c → Blk w q [] c [] ∧ c.length = n ∧ a ≤ q
  apart : ∀ (i j : Nat) q, qs[i]? = some q → qs[j]? = some q → i = j
  offq : ∀ q ∈ qs, ¬ s.own a q
  offo : ∀ q, vo.ownBlock = some q → ¬ s.own a q
  offa : ∀ q, va.ownBlock = some q → ¬ s.own a q
  same : ∀ (i : Nat) c, ds[i]? = some c → ∃ q, s.bl[i]? = some ⟨q, c, true⟩

theorem HeapSt.blkAt {w : World} {a : Nat} {s : Ar} {n : Nat} {vo va : Value} {qs : List Nat} {cs ds : List (List UInt8)} (h : HeapSt w a s n vo va qs cs ds) {i q : Nat} (hq : qs[i]? = some q) : ∃ c, cs[i]? = some c ∧ Blk w q [] c [] ∧ c.length = n ∧ a ≤ q := by
  have hi : i < cs.length := by rw [← h.qlen]; exact (List.getElem?_eq_some_iff.1 hq).1
  have hc := List.getElem?_eq_getElem hi
  exact ⟨_, hc, h.blk i q _ hq hc⟩

theorem HeapSt.qlt {w : World} {a : Nat} {s : Ar} {n : Nat} {vo va : Value} {qs : List Nat} {cs ds : List (List UInt8)} (h : HeapSt w a s n vo va qs cs ds) {q : Nat} (hq : q ∈ qs) : q < w.heap.size := by
  obtain ⟨i, hi, rfl⟩ := List.mem_iff_getElem.1 hq
  obtain ⟨c, _, hb, _⟩ := h.blkAt (List.getElem?_eq_getElem hi)
  exact hb.lt

/-- What is written is the arena's alone. -/
theorem HeapSt.arena {w w' : World} {a : Nat} {s s' : Ar} {n : Nat} {vo va : Value} {qs : List Nat} {cs ds ds' : List (List UInt8)} (h : HeapSt w a s n vo va qs cs ds) (hA : IsAr w' a a s') (hk : KeepsBut (s.own a) w w') (hown : ∀ j, s'.own a j → s.own a j ∨ w.heap.size ≤ j)
    (hs : s'.size = n) (hl : s'.bl.length = cs.length) (hb : s'.back = []) (hd : ds'.length = cs.length) (hsame : ∀ (i : Nat) c, ds'[i]? = some c → ∃ q, s'.bl[i]? = some ⟨q, c, true⟩) : HeapSt w' a s' n vo va qs cs ds' where
  ar := hA
  size := hs
  blen := hl
  nob := hb
  qlen := h.qlen
  dlen := hd
  row := owns_kept h.row (fun q hq => hk.block q (h.row.lt q hq).2 (h.offo q hq))
  nums := owns_kept h.nums (fun q hq => hk.block q (h.nums.lt q hq).2 (h.offa q hq))
  blk := fun i q c hq hc => by
    obtain ⟨h1, h2, h3⟩ := h.blk i q c hq hc
    exact ⟨h1.kept (hk.block q h1.lt (h.offq q (List.mem_of_getElem? hq))), h2, h3⟩
  apart := h.apart
  offq := fun q hq ho => by
    rcases hown q ho with h1 | h1
    · exact h.offq q hq h1
    · have := h.qlt hq; omega
  offo := fun q hq ho => by
    rcases hown q ho with h1 | h1
    · exact h.offo q hq h1
    · have := (h.row.lt q hq).2; omega
  offa := fun q hq ho => by
    rcases hown q ho with h1 | h1
    · exact h.offa q hq h1
    · have := (h.nums.lt q hq).2; omega
  same := hsame

theorem HeapSt.below {w w' : World} {a : Nat} {s : Ar} {n : Nat} {vo va : Value} {qs : List Nat} {cs ds : List (List UInt8)} (h : HeapSt w a s n vo va qs cs ds) (hb : Below w.heap.size w w') : HeapSt w' a s n vo va qs cs ds :=
  h.arena (h.ar.below hb) (KeepsBut.ofBelow hb) (fun _ => .inl) h.size h.blen h.nob h.dlen h.same

/-- One of the arena's blocks is turned. -/
theorem HeapSt.onto {w w' : World} {a : Nat} {s : Ar} {n : Nat} {vo va : Value} {qs : List Nat} {cs ds : List (List UInt8)} (h : HeapSt w a s n vo va qs cs ds) {i : Nat} {b : List UInt8} (hA : IsAr w' a a (s.setB i b)) (hk : KeepsBut (s.own a) w w') : HeapSt w' a (s.setB i b) n vo va qs cs (ds.set i b) := by
  refine h.arena hA hk (fun j hj => .inl (setB_own hj)) h.size (by rw [setB_len]; exact h.blen) h.nob (by rw [List.length_set]; exact h.dlen) ?_
  intro j c hc
  rw [List.getElem?_set] at hc
  rw [setB_at]
  by_cases e : i = j
  · subst e
    rw [if_pos rfl] at hc ⊢
    split at hc
    · rename_i hi
      obtain rfl := Option.some.inj hc
      obtain ⟨q, hq⟩ := h.same i _ (List.getElem?_eq_getElem hi)
      exact ⟨q, by rw [hq]; rfl⟩
    · cases hc
  · rw [if_neg e] at hc ⊢
    exact h.same j c hc

/-- One of the blocks outside is turned. -/
theorem HeapSt.xor {w w' : World} {a : Nat} {s : Ar} {n : Nat} {vo va : Value} {qs : List Nat} {cs ds : List (List UInt8)} (h : HeapSt w a s n vo va qs cs ds) {i q : Nat} {b : List UInt8} (hq : qs[i]? = some q) (keep : ∀ k, k < w.heap.size → k ≠ q → w'.heap[k]? = w.heap[k]?) (hb : Blk w' q [] b []) (hl : b.length = n) : HeapSt w' a s n vo va qs (cs.set i b) ds := by
  obtain ⟨c0, hc0, hB, _, _⟩ := h.blkAt hq
  have e1 : (cs.set i b).length = cs.length := List.length_set
  refine ⟨h.ar.kept (fun k hk => keep k (h.ar.own_lt k hk) (fun e => h.offq q (List.mem_of_getElem? hq) (by rw [← e]; exact hk))), h.size, by rw [e1]; exact h.blen, h.nob, by rw [e1]; exact h.qlen, by rw [e1]; exact h.dlen, ?_, ?_, ?_, h.apart, h.offq, h.offo, h.offa, h.same⟩
  · rw [e1]
    refine owns_kept h.row (fun k hk => keep k (h.row.lt k hk).2 (fun e => ?_))
    obtain ⟨cur, hcur⟩ := owns_type' h.row k hk
    exact kind_ne hcur hB (by decide) e
  · rw [e1]
    refine owns_kept h.nums (fun k hk => keep k (h.nums.lt k hk).2 (fun e => ?_))
    obtain ⟨cur, hcur⟩ := owns_type' h.nums k hk
    exact kind_ne hcur hB (by decide) e
  · intro j q' c hq' hc
    rw [List.getElem?_set] at hc
    by_cases e : i = j
    · subst e
      rw [if_pos rfl] at hc
      split at hc
      · obtain rfl := Option.some.inj hc
        rw [hq] at hq'
        obtain rfl := Option.some.inj hq'
        obtain ⟨_, _, _, _, h5⟩ := h.blkAt hq
        exact ⟨hb, hl, h5⟩
      · cases hc
    · rw [if_neg e] at hc
      obtain ⟨h1, h2, h3⟩ := h.blk j q' c hq' hc
      exact ⟨h1.kept (keep q' h1.lt (fun e2 => e (h.apart i j q hq (by rw [← e2]; exact hq')))), h2, h3⟩

theorem heapRow_at {n i q : Nat} {qs : List Nat} (h : qs[i]? = some q) : (heapRow n qs)[i]? = some (.slice (some ⟨q, 0, none⟩) n n) := by
  simp [heapRow, h]

theorem HeapSt.numK {w W : World} {a : Nat} {s : Ar} {n qa J ca : Nat} {vo : Value} {qs : List Nat} {cs ds : List (List UInt8)} (h : HeapSt w a s n vo (.slice (some ⟨qa, 0, none⟩) J ca) qs cs ds) (hJ : cs.length = J) (hk : KeepsBut (s.own a) w W) {i : Nat} (hi : i < J) : W.cell? ⟨qa, i, none⟩ = some (.int .i64 (i : Int)) := by
  have h1 := owns_kept h.nums (fun q hq => hk.block q (h.nums.lt q hq).2 (h.offa q hq))
  rw [hJ] at h1
  rw [h1.cellAt i (by omega)]
  exact upTo_at hi

theorem HeapSt.rowK {w W : World} {a : Nat} {s : Ar} {n qo J co : Nat} {va : Value} {qs : List Nat} {cs ds : List (List UInt8)} (h : HeapSt w a s n (.slice (some ⟨qo, 0, none⟩) J co) va qs cs ds) (hJ : cs.length = J) (hk : W.heap[qo]? = w.heap[qo]?) {i q : Nat} (hi : qs[i]? = some q) : W.cell? ⟨qo, i, none⟩ = some (.slice (some ⟨q, 0, none⟩) n n) := by
  have h1 := owns_kept (w' := W) h.row (fun q hq => by simp [Value.ownBlock] at hq; subst hq; exact hk)
  rw [hJ] at h1
  rw [h1.cellAt i (by have := (List.getElem?_eq_some_iff.1 hi).1; rw [h.qlen, hJ] at this; omega)]
  exact heapRow_at hi

theorem HeapSt.rowNe {w : World} {a : Nat} {s : Ar} {n qo J co : Nat} {va : Value} {qs : List Nat} {cs ds : List (List UInt8)} (h : HeapSt w a s n (.slice (some ⟨qo, 0, none⟩) J co) va qs cs ds) : (∀ q ∈ qs, qo ≠ q) ∧ qo < w.heap.size := by
  refine ⟨fun q hq e => ?_, (h.row.lt qo rfl).2⟩
  obtain ⟨i, hi, rfl⟩ := List.mem_iff_getElem.1 hq
  obtain ⟨c, _, hb, _⟩ := h.blkAt (List.getElem?_eq_getElem hi)
  obtain ⟨cur, hcur⟩ := owns_type' h.row qo rfl
  exact kind_ne hcur hb (by decide) e

theorem HeapSt.parts {w : World} {a : Nat} {s : Ar} {n : Nat} {vo va : Value} {qs : List Nat} {cs ds : List (List UInt8)} (h : HeapSt w a s n vo va qs cs ds) (hn : n ≤ 1000000) : Parts w (heapRow n qs) cs := by
  refine ⟨by simp [heapRow, h.qlen], fun i v p hv hp => ?_⟩
  unfold heapRow at hv
  rw [List.getElem?_map] at hv
  cases hq : qs[i]? with
  | none => rw [hq] at hv; simp at hv
  | some q =>
    rw [hq] at hv
    simp at hv
    subst hv
    obtain ⟨h1, h2, h3⟩ := h.blk i q p hq hp
    exact h1.bs0 n n h2.symm (Nat.le_refl _) (by unfold maxLen; omega)

theorem HeapSt.fit {w : World} {a : Nat} {s : Ar} {n : Nat} {vo va : Value} {qs : List Nat} {cs ds : List (List UInt8)} (h : HeapSt w a s n vo va qs cs ds) : fitB n cs = true := by
  refine fitB_of (fun l hl => ?_)
  obtain ⟨i, hi, rfl⟩ := List.mem_iff_getElem.1 hl
  have hq := List.getElem?_eq_getElem (show i < qs.length by rw [h.qlen]; exact hi)
  exact (h.blk i _ _ hq (List.getElem?_eq_getElem hi)).2.1

/-- The blocks outside alone; S: what isn't theirs. -/
structure OutSt (w : World) (a : Nat) (S : Nat → Prop) (n : Nat) (vo va : Value) (qs : List Nat) (cs : List (List UInt8)) : Prop where
  qlen : qs.length = cs.length
  row : w.ownsRow a 28 1 vo cs.length (heapRow n qs)
  nums : w.ownsRow a 3 1 va cs.length (upTo cs.length)
  blk : ∀ (i : Nat) q c, qs[i]? = some q → cs[i]? = some c → Blk w q [] c [] ∧ c.length = n ∧ a ≤ q
  apart : ∀ (i j : Nat) q, qs[i]? = some q → qs[j]? = some q → i = j
  offq : ∀ q ∈ qs, ¬ S q
  offo : ∀ q, vo.ownBlock = some q → ¬ S q
  offa : ∀ q, va.ownBlock = some q → ¬ S q

theorem OutSt.mem_blk {w : World} {a : Nat} {S : Nat → Prop} {n : Nat} {vo va : Value} {qs : List Nat} {cs : List (List UInt8)} (h : OutSt w a S n vo va qs cs) {q : Nat} (hq : q ∈ qs) : ∃ c, Blk w q [] c [] := by
  obtain ⟨i, hi, rfl⟩ := List.mem_iff_getElem.1 hq
  have hi' : i < cs.length := by rw [← h.qlen]; exact hi
  exact ⟨_, (h.blk i _ _ (List.getElem?_eq_getElem hi) (List.getElem?_eq_getElem hi')).1⟩

theorem OutSt.keep {w w' : World} {a : Nat} {S S' : Nat → Prop} {n : Nat} {vo va : Value} {qs : List Nat} {cs : List (List UInt8)} (h : OutSt w a S n vo va qs cs) (hk : KeepsBut S w w') (hS : ∀ j, S' j → S j ∨ w.heap.size ≤ j) : OutSt w' a S' n vo va qs cs where
  qlen := h.qlen
  row := owns_kept h.row (fun q hq => hk.block q (h.row.lt q hq).2 (h.offo q hq))
  nums := owns_kept h.nums (fun q hq => hk.block q (h.nums.lt q hq).2 (h.offa q hq))
  blk := fun i q c hq hc => by
    obtain ⟨h1, h2, h3⟩ := h.blk i q c hq hc
    exact ⟨h1.kept (hk.block q h1.lt (h.offq q (List.mem_of_getElem? hq))), h2, h3⟩
  apart := h.apart
  offq := fun q hq ho => by
    rcases hS q ho with h1 | h1
    · exact h.offq q hq h1
    · obtain ⟨c, hc⟩ := h.mem_blk hq
      have := hc.lt
      omega
  offo := fun q hq ho => by
    rcases hS q ho with h1 | h1
    · exact h.offo q hq h1
    · have := (h.row.lt q hq).2; omega
  offa := fun q hq ho => by
    rcases hS q ho with h1 | h1
    · exact h.offa q hq h1
    · have := (h.nums.lt q hq).2; omega

theorem OutSt.below {w w' : World} {a : Nat} {S : Nat → Prop} {n : Nat} {vo va : Value} {qs : List Nat} {cs : List (List UInt8)} (h : OutSt w a S n vo va qs cs) (hb : Below w.heap.size w w') : OutSt w' a S n vo va qs cs :=
  h.keep (KeepsBut.ofBelow hb) (fun _ => .inl)

theorem HeapSt.out {w : World} {a : Nat} {s : Ar} {n : Nat} {vo va : Value} {qs : List Nat} {cs ds : List (List UInt8)} (h : HeapSt w a s n vo va qs cs ds) : OutSt w a (s.own a) n vo va qs cs := ⟨h.qlen, h.row, h.nums, h.blk, h.apart, h.offq, h.offo, h.offa⟩

/-- The row of numbers where the row of blocks is written. -/
theorem OutSt.nums_kept {w w' : World} {a : Nat} {S : Nat → Prop} {n : Nat} {vo va : Value} {qs : List Nat} {cs : List (List UInt8)} (h : OutSt w a S n vo va qs cs) (hg : w.grownBy w' vo.ownBlock) : w'.ownsRow a 3 1 va cs.length (upTo cs.length) := by
  refine owns_kept h.nums (fun q hq => hg.block q (h.nums.lt q hq).2 (fun e => ?_))
  obtain ⟨c1, h1⟩ := owns_type' h.nums q hq
  obtain ⟨c2, h2⟩ := owns_type' h.row q e.symm
  exact kind_ne h1 h2 (by decide) rfl

/-- One block more. -/
theorem OutSt.push {w w7 w7' w9 : World} {a : Nat} {S : Nat → Prop} {n : Nat} {vo va vo' va' : Value} {qs : List Nat} {cs : List (List UInt8)} (h : OutSt w a S n vo va qs cs) {q : Nat} {c : List UInt8}
    (hq : Blk w q [] c []) (hl : c.length = n) (haq : a ≤ q) (hSq : ¬ S q) (hnew : ∀ q' ∈ qs, q' ≠ q) (hSlt : ∀ j, S j → j < w.heap.size)
    (hg7 : w.grownBy w7 vo.ownBlock) (hO7 : w7.ownsRow a 28 1 vo' (cs.length + 1) (heapRow n qs ++ [.slice (some ⟨q, 0, none⟩) n n])) (hat7 : vo'.ownBlock = vo.ownBlock ∨ vo'.ownBlock = some w.heap.size)
    (hx7 : Below w7.heap.size w7 w7')
    (hg9 : w7'.grownBy w9 va.ownBlock) (hO9 : w9.ownsRow a 3 1 va' (cs.length + 1) (upTo cs.length ++ [.int .i64 (cs.length : Int)])) (hat9 : va'.ownBlock = va.ownBlock ∨ va'.ownBlock = some w7'.heap.size) :
    OutSt w9 a S n vo' va' (qs ++ [q]) (cs ++ [c]) ∧ (∀ k, k < w.heap.size → S k → w9.heap[k]? = w.heap[k]?) := by
  have hs7 : w.heap.size ≤ w7'.heap.size := Nat.le_trans hg7.size hx7.size
  have k7 : ∀ k, k < w.heap.size → vo.ownBlock ≠ some k → w7'.heap[k]? = w.heap[k]? := fun k hk hn => (hx7.block k (Nat.lt_of_lt_of_le hk hg7.size)).trans (hg7.block k hk (fun e => hn e.symm))
  have k9 : ∀ k, k < w.heap.size → vo.ownBlock ≠ some k → va.ownBlock ≠ some k → w9.heap[k]? = w.heap[k]? := fun k hk hn hn' => (hg9.block k (Nat.lt_of_lt_of_le hk hs7) (fun e => hn' e.symm)).trans (k7 k hk hn)
  have kb : ∀ q' c', Blk w q' [] c' [] → vo.ownBlock ≠ some q' ∧ va.ownBlock ≠ some q' := by
    intro q' c' hb
    constructor
    · intro e
      obtain ⟨c1, h1⟩ := owns_type' h.row q' e
      exact kind_ne h1 hb (by decide) rfl
    · intro e
      obtain ⟨c1, h1⟩ := owns_type' h.nums q' e
      exact kind_ne h1 hb (by decide) rfl
  have hl1 : (cs ++ [c]).length = cs.length + 1 := by simp
  refine ⟨⟨by simp [h.qlen], ?_, ?_, ?_, ?_, ?_, ?_, ?_⟩, ?_⟩
  · rw [hl1]
    have e : heapRow n (qs ++ [q]) = heapRow n qs ++ [.slice (some ⟨q, 0, none⟩) n n] := by simp [heapRow]
    rw [e]
    refine owns_kept hO7 (fun k hk => ?_)
    have hlt := (hO7.lt k hk).2
    refine (hg9.block k (Nat.lt_of_lt_of_le hlt hx7.size) (fun e => ?_)).trans (hx7.block k hlt)
    obtain ⟨c1, h1⟩ := owns_type' hO7 k hk
    have h2 := h.nums_kept hg7
    obtain ⟨c2, h3⟩ := owns_type' h2 k e.symm
    exact kind_ne h1 h3 (by decide) rfl
  · rw [hl1, upTo_succ]
    exact hO9
  · intro i q' c' hq' hc'
    by_cases hi : i < cs.length
    · rw [List.getElem?_append_left (by rw [h.qlen]; exact hi)] at hq'
      rw [List.getElem?_append_left hi] at hc'
      obtain ⟨h1, h2, h3⟩ := h.blk i q' c' hq' hc'
      obtain ⟨n1, n2⟩ := kb q' c' h1
      exact ⟨h1.kept (k9 q' h1.lt n1 n2), h2, h3⟩
    · have hi2 : i = cs.length := by
        have := (List.getElem?_eq_some_iff.1 hc').1
        simp at this
        omega
      subst hi2
      rw [← h.qlen] at hq'
      simp at hq' hc'
      subst hq'; subst hc'
      obtain ⟨n1, n2⟩ := kb q c hq
      exact ⟨hq.kept (k9 q hq.lt n1 n2), hl, haq⟩
  · intro i j q' hi hj
    have look : ∀ i, (qs ++ [q])[i]? = some q' → (i < qs.length ∧ qs[i]? = some q') ∨ (i = qs.length ∧ q' = q) := by
      intro i hi
      by_cases hlt : i < qs.length
      · left
        rw [List.getElem?_append_left hlt] at hi
        exact ⟨hlt, hi⟩
      · right
        have := (List.getElem?_eq_some_iff.1 hi).1
        simp at this
        have e : i = qs.length := by omega
        subst e
        exact ⟨rfl, by simpa using hi.symm⟩
    rcases look i hi with ⟨_, h1⟩ | ⟨e1, h1⟩ <;> rcases look j hj with ⟨_, h2⟩ | ⟨e2, h2⟩
    · exact h.apart i j q' h1 h2
    · exact absurd h2 (hnew q' (List.mem_of_getElem? h1))
    · exact absurd h1 (hnew q' (List.mem_of_getElem? h2))
    · omega
  · intro q' hq'
    rw [List.mem_append] at hq'
    rcases hq' with h1 | h1
    · exact h.offq q' h1
    · simp at h1
      subst h1
      exact hSq
  · intro k hk ho
    rcases hat7 with h1 | h1
    · exact h.offo k (by rw [← h1]; exact hk) ho
    · rw [h1] at hk
      obtain rfl := Option.some.inj hk
      have := hSlt _ ho
      omega
  · intro k hk ho
    rcases hat9 with h1 | h1
    · exact h.offa k (by rw [← h1]; exact hk) ho
    · rw [h1] at hk
      obtain rfl := Option.some.inj hk
      have := hSlt _ ho
      omega
  · intro k hk ho
    exact k9 k hk (fun e => h.offo k e ho) (fun e => h.offa k e ho)

/-- The first n bytes, noughts behind them. -/
def pad (n : Nat) (l : List UInt8) : List UInt8 := l.take n ++ zeros (n - l.length)

theorem pad_length (n : Nat) (l : List UInt8) : (pad n l).length = n := by
  simp [pad, zeros]
  omega

/-- 'copy(c, b)' into noughts. -/
theorem wpList_copyPad (W : World) {ops : Array Oper} {rest : List Oper} {o : Oper} {a : Act} {Q : Exit → Act → World → Prop} (hgd : o.guard = none) (d s : Operand)
    (ho : o.op = .call { callee := .builtin .copy, args := #[d, s], argTypes := #[28, 28] }) (q n c : Nat) (b : List UInt8) (v : Value) (hd : a.eval d = .slice (some ⟨q, 0, none⟩) n c) (hs : a.eval s = v) (hB : Blk W q [] (zeros n) []) (hb : Bs W v b)
    (B : Nat) (w0 : World) (hbel : Below B w0 W) (hBq : B ≤ q)
    (h : ∀ W' (m : Nat), Blk W' q [] (pad n b) [] → Below B w0 W' → wpList Try.prog ops Q rest (a.put o.dst (.int .i64 m)) W') : wpList Try.prog ops Q (o :: rest) a W := by
  obtain ⟨hl, ao, cap, rfl, hnc, hcm, hn0, hc⟩ := hb
  have hg : W.heap[q]? = some (.cells ((zeros n).map bv).toArray 5) := by have h := hB; unfold Blk at h; simpa using h
  refine wpList_copy_splice hgd d s 28 28 ho 5 Try.underlying28 infoSize (some ⟨q, 0, none⟩) ao n c b.length cap hd hs q 0 ((zeros n).map bv) 5 hg ((b.take n).map bv) (by simp [Nat.min_comm]) ?_ (by simp [zeros]; omega) (bv_oneCell _) B w0 hbel hBq ?_
  · intro hpos
    refine ⟨rfl, ?_⟩
    rcases hc with h0 | ⟨b', off, rfl, hc⟩
    · simp at hpos; omega
    · refine ⟨_, rfl, fun j u hj => ?_⟩
      rw [Addr.add_lit]
      have hjn : j < n := by have := (List.getElem?_eq_some_iff.1 hj).1; simp at this; omega
      rw [List.map_take, List.getElem?_take, if_pos hjn] at hj
      exact hc j u hj
  · intro W' hW hb'
    have e : splice ((zeros n).map bv) 0 ((b.take n).map bv) = (pad n b).map bv := by
      simp only [splice, pad, List.take_zero, List.nil_append, Nat.zero_add, List.map_append, List.length_map, List.length_take, zeros, List.map_replicate, List.drop_replicate]
      congr 2
      omega
    rw [e] at hW
    have := h W' ((b.take n).map bv).length (by unfold Blk; simpa using hW.out) hb'
    simpa [goInt] using this

end Go.Proofs.Ytofbklabapmdcaa
