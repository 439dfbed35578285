/-
  Regions that draw their order and write: what stays but for some blocks; phases by which writing operation is done.
-/
import Derived.Test.YtbnedpjfgadkkaaLOrd
import Derived.Test.YtbnedpjfgadkkaaLBlk
namespace Go.Proofs.Ytbnedpjfgadkkaa
open Go.RowKit
set_option linter.unusedVariables false

/-- Whatever is listed, all that it waits for is. -/
def Down (md : Region.Mode) (ops : Array Oper) (listed : Array Bool) : Prop :=
  ∀ j, j < ops.size → listed.getD j false = true → ((ops[j]?).map (·.after.all fun e => !Region.binds md e || listed.getD e.on false)).getD false = true

theorem Down.set {md : Region.Mode} {ops : Array Oper} {listed : Array Bool} (h : Down md ops listed) {i : Nat} (hi : ((ops[i]?).map (·.after.all fun e => !Region.binds md e || listed.getD e.on false)).getD false = true) : Down md ops (listed.setIfInBounds i true) := by
  have mono : ∀ k, listed.getD k false = true → (listed.setIfInBounds i true).getD k false = true := by
    intro k hk
    by_cases e : k = i
    · subst e
      rw [Array.getD_eq_getD_getElem?] at hk ⊢
      by_cases hs : k < listed.size
      · rw [Array.getElem?_setIfInBounds_self_of_lt hs]
        rfl
      · rw [Array.getElem?_eq_none (by omega)] at hk
        simp at hk
    · rw [Array.getD_eq_getD_getElem?] at hk ⊢
      rw [Array.getElem?_setIfInBounds_ne (Ne.symm e)]
      exact hk
  have lift : ∀ o : Oper, (o.after.all fun e => !Region.binds md e || listed.getD e.on false) = true → (o.after.all fun e => !Region.binds md e || (listed.setIfInBounds i true).getD e.on false) = true := by
    intro o ho
    rw [Array.all_eq_true'] at ho ⊢
    intro e he
    have := ho e he
    simp only [Bool.or_eq_true] at this ⊢
    rcases this with h1 | h1
    · exact .inl h1
    · exact .inr (mono _ h1)
  intro j hj hl
  have hjo := Array.getElem?_eq_getElem hj
  by_cases e : j = i
  · subst e
    rw [hjo] at hi ⊢
    simp only [Option.map_some, Option.getD_some] at hi ⊢
    exact lift _ hi
  · have hl' : listed.getD j false = true := by
      rw [Array.getD_eq_getD_getElem?] at hl ⊢
      rw [Array.getElem?_setIfInBounds_ne (Ne.symm e)] at hl
      exact hl
    have := h j hj hl'
    rw [hjo] at this ⊢
    simp only [Option.map_some, Option.getD_some] at this ⊢
    exact lift _ this

theorem Down.start {md : Region.Mode} {ops : Array Oper} (n : Nat) : Down md ops (Array.replicate n false) := by
  intro j _ hj
  exfalso
  rw [Array.getD_eq_getD_getElem?, Array.getElem?_replicate] at hj
  split at hj <;> simp at hj

/-- The law by an invariant, where each operation is done once and whatever it waits for is done. -/
theorem wpAny_inv3 {P : Program} {md : Region.Mode} {ops : Array Oper} {Q : Exit → Act → World → Prop} (I : Array Bool → Act → World → Prop) (hb : backB ops = true)
    (step : ∀ listed a w, I listed a w → Down md ops listed → ∀ i, i < ops.size → listed.getD i true = false → ((ops[i]?).map (·.after.all fun e => !Region.binds md e || listed.getD e.on false)).getD false = true → wpOp P ops Q i (I (listed.setIfInBounds i true)) a w)
    (fin : ∀ listed a w, I listed a w → (∀ i, i < ops.size → listed.getD i false = true) → Q .normal a w) :
    ∀ (fuel : Nat) (listed : Array Bool) (a : Act) (w : World), listed.size = ops.size → listed.toList.count false ≤ fuel → Down md ops listed → I listed a w → wpAny P md ops Q fuel listed a w := by
  intro fuel
  induction fuel with
  | zero =>
    intro listed a w hs hc hD hI
    have hr : Region.ready md ops listed = [] := by
      rw [List.eq_nil_iff_forall_not_mem]
      intro i hi
      obtain ⟨h1, h2, _⟩ := ready_mem.1 hi
      rw [getD_ne (by omega)] at h2
      have h3 : false ∈ listed.toList := by
        rw [← h2]
        exact Array.getElem_mem_toList (by omega)
      have := List.count_pos_iff.2 h3
      omega
    exact ⟨hr, fin listed a w hI (ready_nil hb hs hr)⟩
  | succ fuel ih =>
    intro listed a w hs hc hD hI
    refine ⟨fun hr => fin listed a w hI (ready_nil hb hs hr), fun i hi => ?_⟩
    obtain ⟨h1, h2, h3⟩ := ready_mem.1 hi
    refine wpOp_mono (fun a' w' hI' => ih _ a' w' (by simpa using hs) ?_ (hD.set h3) hI') (step listed a w hI hD i h1 h2 h3)
    rw [getD_ne (by omega)] at h2
    rw [Array.toList_setIfInBounds, List.count_set (by simpa [hs] using h1)]
    have h4 : false ∈ listed.toList := by
      rw [← h2]
      exact Array.getElem_mem_toList (by omega)
    have := List.count_pos_iff.2 h4
    have h5 : listed.toList[i]'(by simpa [hs] using h1) = false := by simpa using h2
    have e : (true == false) = false := rfl
    rw [h5, e]
    simp only [beq_self_eq_true, if_true, Bool.false_eq_true, if_false]
    omega

/-- Numbers below n, none twice: n at most. -/
theorem nodup_le : ∀ (n : Nat) (l : List Nat), l.Nodup → (∀ x ∈ l, x < n) → l.length ≤ n := by
  intro n
  induction n with
  | zero =>
    intro l _ h
    cases l with
    | nil => simp
    | cons x l => exact absurd (h x (by simp)) (by omega)
  | succ n ih =>
    intro l hn h
    have h1 := ih (l.erase n) (hn.erase n) (fun x hx => by
      have h2 := h x (List.mem_of_mem_erase hx)
      have h3 : x ≠ n := fun e => by subst e; exact hn.not_mem_erase hx
      omega)
    have h4 := List.length_erase (a := n) (l := l)
    split at h4 <;> omega

theorem getD_false {listed : Array Bool} {i : Nat} (h : listed.getD i true = false) : listed.getD i false = false := by
  rw [Array.getD_eq_getD_getElem?] at h ⊢
  cases hx : listed[i]? with
  | none => rfl
  | some b => rw [hx] at h; simpa using h

theorem getD_set_self {listed : Array Bool} {i : Nat} (h : listed.getD i true = false) : (listed.setIfInBounds i true).getD i false = true := by
  rw [Array.getD_eq_getD_getElem?] at h ⊢
  cases hx : listed[i]? with
  | none => rw [hx] at h; simp at h
  | some b =>
    have hi : i < listed.size := (Array.getElem?_eq_some_iff.1 hx).1
    rw [Array.getElem?_setIfInBounds_self_of_lt hi]
    rfl

theorem getD_set_other {listed : Array Bool} {i j : Nat} (h : j ≠ i) : (listed.setIfInBounds i true).getD j false = listed.getD j false := by
  rw [Array.getD_eq_getD_getElem?, Array.getD_eq_getD_getElem?, Array.getElem?_setIfInBounds_ne (Ne.symm h)]

/-- Old memory stays as it was, but for some blocks. -/
structure KeepsBut (S : Nat → Prop) (w w' : World) : Prop where
  os : w'.os = w.os
  tape : w'.tape = w.tape
  output : w'.output = w.output
  size : w.heap.size ≤ w'.heap.size
  block : ∀ k, k < w.heap.size → ¬ S k → w'.heap[k]? = w.heap[k]?

theorem KeepsBut.refl (S : Nat → Prop) (w : World) : KeepsBut S w w := ⟨rfl, rfl, rfl, Nat.le_refl _, fun _ _ _ => rfl⟩
theorem KeepsBut.trans {S : Nat → Prop} {a b c : World} (h : KeepsBut S a b) (k : KeepsBut S b c) : KeepsBut S a c :=
  ⟨k.os.trans h.os, k.tape.trans h.tape, k.output.trans h.output, Nat.le_trans h.size k.size, fun j hj hs => (k.block j (Nat.lt_of_lt_of_le hj h.size) hs).trans (h.block j hj hs)⟩
theorem KeepsBut.ofBelow {S : Nat → Prop} {a b : World} (h : Below a.heap.size a b) : KeepsBut S a b := ⟨h.os, h.tape, h.output, h.size, fun k hk _ => h.block k hk⟩
theorem KeepsBut.ofGrown {S : Nat → Prop} {a b : World} {q : Nat} (h : a.grownBy b (some q)) (hq : S q) : KeepsBut S a b :=
  ⟨h.os, h.tape, h.output, h.size, fun k hk hs => h.block k hk (fun e => hs (by rw [Option.some.inj e]; exact hq))⟩
theorem KeepsBut.ofGrownO {S : Nat → Prop} {a b : World} {row : Option Nat} (h : a.grownBy b row) (hq : ∀ q, row = some q → S q ∨ a.heap.size ≤ q) : KeepsBut S a b :=
  ⟨h.os, h.tape, h.output, h.size, fun k hk hs => h.block k hk (fun e => by rcases hq k e.symm with h1 | h1; exact hs h1; omega)⟩
theorem KeepsBut.setCell {S : Nat → Prop} (w : World) (q j : Nat) (u : Value) (hq : S q) : KeepsBut S w (w.setCell ⟨q, j, none⟩ u) := KeepsBut.ofGrown (grown_setCell w q j u) hq
theorem KeepsBut.below {S : Nat → Prop} {a b : World} {B : Nat} (h : KeepsBut S a b) (hB : B ≤ a.heap.size) (hS : ∀ k, S k → B ≤ k) : Below B a b :=
  ⟨h.os, h.tape, h.output, h.size, fun k hk => h.block k (by omega) (fun hs => by have := hS k hs; omega)⟩
theorem KeepsBut.mono {S T : Nat → Prop} {a b : World} (h : KeepsBut S a b) (hST : ∀ k, S k → T k) : KeepsBut T a b := ⟨h.os, h.tape, h.output, h.size, fun k hk hs => h.block k hk (fun h' => hs (hST k h'))⟩
theorem KeepsBut.drew (S : Nat → Prop) (w : World) : KeepsBut S w w.drew := KeepsBut.ofBelow (below0 w)

/-- A slice that lies outside some blocks, or has no elements. -/
def OffS (S : Nat → Prop) (v : Value) : Prop := ∀ a n c, v = .slice (some a) n c → n = 0 ∨ ¬ S a.block

theorem OffS.of {S : Nat → Prop} {v : Value} (h : ∀ q, S q → Off q v) : OffS S v := by
  intro a n c hv
  by_cases hs : S a.block
  · rcases h _ hs a n c hv with h0 | h0
    · exact .inl h0
    · exact absurd rfl h0
  · exact .inr hs

theorem Sl.keeps {size : Nat} {w w' : World} {v : Value} {n : Nat} {cs : List Value} {S : Nat → Prop} (h : Sl size w v n cs) (ho : OffS S v) (hg : KeepsBut S w w') : Sl size w' v n cs := by
  obtain ⟨h1, ao, cap, hv, h2, h3, h4, h5⟩ := h
  refine ⟨h1, ao, cap, hv, h2, h3, h4, ?_⟩
  rcases h5 with h5 | ⟨b, off, hao, h5⟩
  · exact .inl h5
  · rcases ho ⟨b, off, none⟩ n cap (by rw [hv, hao]) with h0 | hne
    · exact .inl h0
    · refine .inr ⟨b, off, hao, fun j u hj => ?_⟩
      have hc := h5 j u hj
      rw [← hc]
      exact World.cell?_of_block (a := ⟨b, off + j, none⟩) (hg.block b (cell_block_lt hc) hne)

theorem Bs.keeps {w w' : World} {v : Value} {l : List UInt8} {S : Nat → Prop} (h : Bs w v l) (ho : OffS S v) (hg : KeepsBut S w w') : Bs w' v l := Sl.keeps h ho hg

/-- What stays but for some blocks. -/
def StaysS (S : Nat → Prop) (p : Value → World → Prop) : Prop := ∀ v W W', KeepsBut S W W' → p v W → p v W'
def IsBsS (S : Nat → Prop) (l : List UInt8) : Value → World → Prop := fun v W => Bs W v l ∧ OffS S v
def IsOneS (S : Nat → Prop) (u : Value) : Value → World → Prop := fun v W => ∃ p, v = .slice (some ⟨p, 0, none⟩) 1 1 ∧ ¬ S p ∧ W.cell? ⟨p, 0, none⟩ = some u
def IsRowS (S : Nat → Prop) (us : List Value) : Value → World → Prop := fun v W => ∃ p, v = .slice (some ⟨p, 0, none⟩) us.length us.length ∧ ¬ S p ∧ ∀ j u, us[j]? = some u → W.cell? ⟨p, j, none⟩ = some u

theorem staysS_v (S : Nat → Prop) (u : Value) : StaysS S (IsV u) := fun _ _ _ _ h => h
theorem staysS_bss (S : Nat → Prop) (l : List UInt8) : StaysS S (IsBsS S l) := fun _ _ _ hb h => ⟨h.1.keeps h.2 hb, h.2⟩
theorem staysS_ones (S : Nat → Prop) (u : Value) : StaysS S (IsOneS S u) := fun _ _ _ hb ⟨p, h1, h2, h3⟩ => ⟨p, h1, h2, by rw [← h3]; exact World.cell?_of_block (a := ⟨p, 0, none⟩) (hb.block p (cell_block_lt h3) h2)⟩
theorem staysS_rows (S : Nat → Prop) (us : List Value) : StaysS S (IsRowS S us) := fun _ _ _ hb ⟨p, h1, h2, h3⟩ => ⟨p, h1, h2, fun j u hj => by rw [← h3 j u hj]; exact World.cell?_of_block (a := ⟨p, j, none⟩) (hb.block p (cell_block_lt (h3 j u hj)) h2)⟩

theorem IsRowS.sl {S : Nat → Prop} {us : List Value} {v : Value} {W : World} (h : IsRowS S us v W) (hu : us.length ≤ 1000000) : Sl 1 W v us.length us := by
  obtain ⟨p, rfl, _, h3⟩ := h
  refine ⟨by simp, _, _, rfl, Nat.le_refl _, by unfold maxLen; omega, fun h => by simp at h, .inr ⟨p, 0, rfl, fun j u hj => ?_⟩⟩
  rw [Nat.zero_add]
  exact h3 j u hj

theorem Lst.stepS {S : Nat → Prop} {gs : List (Value → World → Prop)} {listed : Array Bool} {x : Nat → Value} {W W' : World} (h : Lst gs listed x W) (hs : ∀ p ∈ gs, StaysS S p) (hb : KeepsBut S W W') {i : Nat} {p : Value → World → Prop} (hg : gs[i]? = some p) (v : Value)
    (hv : p v W') : Lst gs (listed.setIfInBounds i true) (updV x i v) W' := by
  intro j p' hp' hj
  unfold updV
  by_cases hji : j = i
  · subst hji
    rw [if_pos rfl]
    rw [hg] at hp'
    obtain rfl := Option.some.inj hp'
    exact hv
  · rw [if_neg hji]
    refine hs p' (List.mem_of_getElem? hp') _ _ _ hb (h j p' hp' ?_)
    rw [getD_set_other hji] at hj
    exact hj

/-- The phase: below the k-th writing operation. -/
def Ph (cs : List Nat) (ps : List (World → Prop)) (listed : Array Bool) (W : World) : Prop :=
  ∀ k p, ps[k]? = some p → (k ≠ 0 → ∃ c, cs[k - 1]? = some c ∧ listed.getD c false = true) → (∀ c, cs[k]? = some c → listed.getD c false = false) → p W

theorem Ph.other {cs : List Nat} {ps : List (World → Prop)} {listed : Array Bool} {W W' : World} (h : Ph cs ps listed W) {i : Nat} (hi : ∀ c ∈ cs, c ≠ i) (hp : ∀ p ∈ ps, p W → p W') : Ph cs ps (listed.setIfInBounds i true) W' := by
  intro k p hk h1 h2
  refine hp p (List.mem_of_getElem? hk) (h k p hk ?_ ?_)
  · intro hk0
    obtain ⟨c, hc, this⟩ := h1 hk0
    rw [getD_set_other (hi c (List.mem_of_getElem? hc))] at this
    exact ⟨c, hc, this⟩
  · intro c hc
    have := h2 c hc
    rw [getD_set_other (hi c (List.mem_of_getElem? hc))] at this
    exact this

theorem Ph.write {cs : List Nat} {ps : List (World → Prop)} {listed : Array Bool} {W' : World} (k c : Nat) (hc : cs[k]? = some c) (hnl : listed.getD c true = false) (hnd : ∀ j, cs[j]? = some c → j = k)
    (hl : ∀ j c', j < k → cs[j]? = some c' → listed.getD c' false = true) (hr : ∀ j c', k < j → cs[j]? = some c' → listed.getD c' false = false) (hp : ∀ p, ps[k + 1]? = some p → p W') : Ph cs ps (listed.setIfInBounds c true) W' := by
  intro j p hj h1 h2
  by_cases e : j = k + 1
  · subst e
    exact hp p hj
  · exfalso
    by_cases hjk : j ≤ k
    · by_cases e2 : j = k
      · subst e2
        have := h2 c hc
        rw [getD_set_self hnl] at this
        cases this
      · cases hx : cs[j]? with
        | none =>
          have h3 : cs.length ≤ j := by rcases Nat.lt_or_ge j cs.length with h | h; (rw [List.getElem?_eq_getElem h] at hx; cases hx); exact h
          have h4 : k < cs.length := (List.getElem?_eq_some_iff.1 hc).1
          omega
        | some c' =>
          have h3 := h2 c' hx
          have hne : c' ≠ c := fun e3 => by subst e3; exact e2 (hnd j hx)
          rw [getD_set_other hne, hl j c' (by omega) hx] at h3
          cases h3
    · obtain ⟨c', hx, h3⟩ := h1 (by omega)
      have hne : c' ≠ c := fun e3 => by subst e3; have := hnd (j - 1) hx; omega
      rw [getD_set_other hne, hr (j - 1) c' (by omega) hx] at h3
      cases h3

end Go.Proofs.Ytbnedpjfgadkkaa
