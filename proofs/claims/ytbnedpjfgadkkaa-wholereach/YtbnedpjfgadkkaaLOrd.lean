/-
  A law on a region that draws its order: what every operation keeps holds at its end, whatever the order. No order is walked by itself.
-/
import Derived.Test.YtbnedpjfgadkkaaLBase
import Derived.RegionTactic
namespace Go.Proofs.Ytbnedpjfgadkkaa
open Go.RowKit
set_option linter.unusedVariables false

/-- Each operation waits for earlier ones alone. -/
def backB (ops : Array Oper) : Bool := (List.range ops.size).all fun i => ((ops[i]?).map fun o => o.after.all fun e => decide (e.on < i)).getD true

theorem ready_mem {md : Region.Mode} {ops : Array Oper} {listed : Array Bool} {i : Nat} : i ∈ Region.ready md ops listed ↔
    i < ops.size ∧ listed.getD i true = false ∧ ((ops[i]?).map (·.after.all fun e => !Region.binds md e || listed.getD e.on false)).getD false = true := by
  unfold Region.ready
  rw [List.mem_filter, List.mem_range, Bool.and_eq_true]
  simp only [Bool.not_eq_true']

theorem getD_ne {listed : Array Bool} {i : Nat} (h : i < listed.size) (d : Bool) : listed.getD i d = listed[i] := by
  simp [Array.getD, h]

theorem ready_nil {md : Region.Mode} {ops : Array Oper} {listed : Array Bool} (hb : backB ops = true) (hs : listed.size = ops.size) (hr : Region.ready md ops listed = []) :
    ∀ i, i < ops.size → listed.getD i false = true := by
  intro i
  induction i using Nat.strongRecOn with
  | _ i ih =>
    intro hi
    cases hx : listed.getD i false with
    | true => rfl
    | false =>
      exfalso
      have hm : i ∈ Region.ready md ops listed := by
        rw [ready_mem]
        refine ⟨hi, ?_, ?_⟩
        · rw [getD_ne (by omega)] at hx ⊢
          exact hx
        · have h1 := List.all_eq_true.1 hb i (List.mem_range.2 hi)
          rw [Array.getElem?_eq_getElem hi] at h1 ⊢
          simp only [Option.map_some, Option.getD_some] at h1 ⊢
          rw [Array.all_eq_true'] at h1 ⊢
          intro e he
          have h2 := h1 e he
          simp only [decide_eq_true_eq] at h2
          rw [ih e.on h2 (by omega)]
          simp
      rw [hr] at hm
      cases hm

theorem wpAny_inv {P : Program} {md : Region.Mode} {ops : Array Oper} {Q : Exit → Act → World → Prop} (I : Array Bool → Act → World → Prop) (hb : backB ops = true)
    (step : ∀ listed a w, I listed a w → ∀ i, i < ops.size → ((ops[i]?).map (·.after.all fun e => !Region.binds md e || listed.getD e.on false)).getD false = true → wpOp P ops Q i (I (listed.setIfInBounds i true)) a w)
    (fin : ∀ listed a w, I listed a w → (∀ i, i < ops.size → listed.getD i false = true) → Q .normal a w) :
    ∀ (fuel : Nat) (listed : Array Bool) (a : Act) (w : World), listed.size = ops.size → listed.toList.count false ≤ fuel → I listed a w → wpAny P md ops Q fuel listed a w := by
  intro fuel
  induction fuel with
  | zero =>
    intro listed a w hs hc hI
    have hr : Region.ready md ops listed = [] := by
      rw [List.eq_nil_iff_forall_not_mem]
      intro i hi
      obtain ⟨h1, h2, _⟩ := ready_mem.1 hi
      rw [getD_ne (by omega)] at h2
      have h3 : false ∈ listed.toList := by
        rw [← h2]
        exact Array.getElem_mem_toList (by omega)
      have := List.count_pos_iff.2 h3
      omega
    exact ⟨hr, fin listed a w hI (ready_nil hb hs hr)⟩
  | succ fuel ih =>
    intro listed a w hs hc hI
    refine ⟨fun hr => fin listed a w hI (ready_nil hb hs hr), fun i hi => ?_⟩
    obtain ⟨h1, h2, h3⟩ := ready_mem.1 hi
    refine wpOp_mono (fun a' w' hI' => ih _ a' w' (by simpa using hs) ?_ hI') (step listed a w hI i h1 h3)
    rw [getD_ne (by omega)] at h2
    rw [Array.toList_setIfInBounds, List.count_set (by simpa [hs] using h1)]
    have h4 : false ∈ listed.toList := by
      rw [← h2]
      exact Array.getElem_mem_toList (by omega)
    have := List.count_pos_iff.2 h4
    have h5 : listed.toList[i]'(by simpa [hs] using h1) = false := by simpa using h2
    have e : (true == false) = false := rfl
    rw [h5, e]
    simp only [beq_self_eq_true, if_true, Bool.false_eq_true, if_false]
    omega

/-- What holds of each listed operation's value. -/
def Listed (G : Nat → Value → World → Prop) (listed : Array Bool) (x : Nat → Value) (W : World) : Prop := ∀ j, listed.getD j false = true → G j (x j) W

def updV (x : Nat → Value) (i : Nat) (v : Value) : Nat → Value := fun j => if j = i then v else x j

theorem Listed.step {G : Nat → Value → World → Prop} {listed : Array Bool} {x : Nat → Value} {W W' : World} (h : Listed G listed x W) (i : Nat) (v : Value)
    (hm : ∀ j u, G j u W → G j u W') (hv : G i v W') : Listed G (listed.setIfInBounds i true) (updV x i v) W' := by
  intro j hj
  unfold updV
  by_cases hji : j = i
  · subst hji
    rw [if_pos rfl]
    exact hv
  · rw [if_neg hji]
    refine hm _ _ (h j ?_)
    rw [Array.getD_eq_getD_getElem?] at hj ⊢
    rw [Array.getElem?_setIfInBounds_ne (Ne.symm hji)] at hj
    exact hj

theorem Listed.start (G : Nat → Value → World → Prop) (n : Nat) (x : Nat → Value) (W : World) : Listed G (Array.replicate n false) x W := by
  intro j hj
  exfalso
  rw [Array.getD_eq_getD_getElem?, Array.getElem?_replicate] at hj
  split at hj <;> simp at hj

/-- What holds of a value, in a world. -/
def IsV (u : Value) : Value → World → Prop := fun v _ => v = u
def IsBs (l : List UInt8) : Value → World → Prop := fun v W => Bs W v l
def IsOne (u : Value) : Value → World → Prop := fun v W => OneIn v u W
/-- A new row of some values. -/
def IsRow (us : List Value) : Value → World → Prop := fun v W => ∃ p, v = .slice (some ⟨p, 0, none⟩) us.length us.length ∧ ∀ j u, us[j]? = some u → W.cell? ⟨p, j, none⟩ = some u

/-- It stays, where old memory stays as it was. -/
def Stays (p : Value → World → Prop) : Prop := ∀ v W W', Below W.heap.size W W' → p v W → p v W'

theorem stays_v (u : Value) : Stays (IsV u) := fun _ _ _ _ h => h
theorem stays_bs (l : List UInt8) : Stays (IsBs l) := fun _ _ _ hb h => Bs.below h hb
theorem stays_one (u : Value) : Stays (IsOne u) := fun _ _ _ hb h => OneIn.below h hb
theorem stays_row (us : List Value) : Stays (IsRow us) := fun _ _ _ hb ⟨p, h1, h2⟩ => ⟨p, h1, fun j u hj => (hb.cell (cell_block_lt (h2 j u hj))).trans (h2 j u hj)⟩

/-- Of each operation that is done its own holds. -/
def Lst (gs : List (Value → World → Prop)) (listed : Array Bool) (x : Nat → Value) (W : World) : Prop := ∀ j p, gs[j]? = some p → listed.getD j false = true → p (x j) W

theorem Lst.get {gs : List (Value → World → Prop)} {listed : Array Bool} {x : Nat → Value} {W : World} (h : Lst gs listed x W) {j : Nat} {p : Value → World → Prop} (hg : gs[j]? = some p) (hl : listed.getD j false = true) : p (x j) W := h j p hg hl

theorem Lst.start (gs : List (Value → World → Prop)) (n : Nat) (x : Nat → Value) (W : World) : Lst gs (Array.replicate n false) x W := by
  intro j p _ hj
  exfalso
  rw [Array.getD_eq_getD_getElem?, Array.getElem?_replicate] at hj
  split at hj <;> simp at hj

theorem Lst.step {gs : List (Value → World → Prop)} {listed : Array Bool} {x : Nat → Value} {W W' : World} (h : Lst gs listed x W) (hs : ∀ p ∈ gs, Stays p) (hb : Below W.heap.size W W') {i : Nat} {p : Value → World → Prop} (hg : gs[i]? = some p) (v : Value)
    (hv : p v W') : Lst gs (listed.setIfInBounds i true) (updV x i v) W' := by
  intro j p' hp' hj
  unfold updV
  by_cases hji : j = i
  · subst hji
    rw [if_pos rfl]
    rw [hg] at hp'
    obtain rfl := Option.some.inj hp'
    exact hv
  · rw [if_neg hji]
    refine hs p' (List.mem_of_getElem? hp') _ _ _ hb (h j p' hp' ?_)
    rw [Array.getD_eq_getD_getElem?] at hj ⊢
    rw [Array.getElem?_setIfInBounds_ne (Ne.symm hji)] at hj
    exact hj

/-- An operation that leaves the world as it is. -/
theorem Lst.same {gs : List (Value → World → Prop)} {listed : Array Bool} {x : Nat → Value} {W : World} (h : Lst gs listed x W) (hs : ∀ p ∈ gs, Stays p) {i : Nat} {p : Value → World → Prop} (hg : gs[i]? = some p) (v : Value)
    (hv : p v W) : Lst gs (listed.setIfInBounds i true) (updV x i v) W := h.step hs (Below.refl _ _) hg v hv

theorem calls_same {P : Program} {f : FuncId} {args : Array Value} {W : World} {v : Value} (h : Calls P f args W fun e w' => e = .returned v ∧ w' = W) : Calls P f args W fun e w' => ∃ u, e = .returned u ∧ IsV v u w' ∧ Below W.heap.size W w' := by
  refine h.mono ?_
  rintro e w' ⟨rfl, rfl⟩
  exact ⟨v, rfl, rfl, Below.refl _ _⟩

theorem calls_below {P : Program} {f : FuncId} {args : Array Value} {W : World} {v : Value} (h : Calls P f args W fun e w' => e = .returned v ∧ Below W.heap.size W w') : Calls P f args W fun e w' => ∃ u, e = .returned u ∧ IsV v u w' ∧ Below W.heap.size W w' := by
  refine h.mono ?_
  rintro e w' ⟨rfl, hb⟩
  exact ⟨v, rfl, rfl, hb⟩

end Go.Proofs.Ytbnedpjfgadkkaa
