/-
  Facts that a drawn region keeps from one operation until another one, or from one on, or until one.
-/
import Derived.Test.YtbnedpjfgadkkaaLPh
namespace Go.Proofs.Ytbnedpjfgadkkaa
open Go.RowKit
set_option linter.unusedVariables false

def IsAnyV : Value → World → Prop := fun _ _ => True
theorem stays_anyv : Stays IsAnyV := fun _ _ _ _ h => h

/-- From i on, until j. -/
def Fd (listed : Array Bool) (xv : Nat → Value) (W : World) (i j : Nat) (p : Value → World → Prop) : Prop := listed.getD i false = true → listed.getD j false = false → p (xv i) W

theorem Fd.start (n : Nat) (xv : Nat → Value) (W : World) (i j : Nat) (p : Value → World → Prop) : Fd (Array.replicate n false) xv W i j p := by
  intro h
  exfalso
  rw [Array.getD_eq_getD_getElem?, Array.getElem?_replicate] at h
  split at h <;> simp at h

theorem Fd.get {listed : Array Bool} {xv : Nat → Value} {W : World} {i j : Nat} {p : Value → World → Prop} (h : Fd listed xv W i j p) (hi : listed.getD i false = true) (hj : listed.getD j true = false) : p (xv i) W := h hi (getD_false hj)

theorem Fd.step {listed : Array Bool} {xv : Nat → Value} {W W' : World} {i j : Nat} {p : Value → World → Prop} (h : Fd listed xv W i j p) (hp : ∀ v, p v W → p v W') {o : Nat} (hi : i ≠ o) (hj : j ≠ o) (v : Value) : Fd (listed.setIfInBounds o true) (updV xv o v) W' i j p := by
  intro a b
  rw [getD_set_other hi] at a
  rw [getD_set_other hj] at b
  have e : updV xv o v i = xv i := by unfold updV; rw [if_neg hi]
  rw [e]
  exact hp _ (h a b)

theorem Fd.on {listed : Array Bool} {xv : Nat → Value} {W W' : World} {i j : Nat} {p : Value → World → Prop} (h : Fd listed xv W i j p) (hs : Stays p) (hb : Below W.heap.size W W') {o : Nat} (hi : i ≠ o) (hj : j ≠ o) (v : Value) : Fd (listed.setIfInBounds o true) (updV xv o v) W' i j p := h.step (fun v hv => hs v W W' hb hv) hi hj v

theorem Fd.new {listed : Array Bool} {xv : Nat → Value} {W : World} {i j : Nat} {p : Value → World → Prop} {v : Value} (hv : p v W) : Fd (listed.setIfInBounds i true) (updV xv i v) W i j p := by
  intro _ _
  have e : updV xv i v i = v := by unfold updV; rw [if_pos rfl]
  rw [e]
  exact hv

theorem Fd.off {listed : Array Bool} {xv : Nat → Value} {W : World} {i j : Nat} {p : Value → World → Prop} (hj : listed.getD j true = false) : Fd (listed.setIfInBounds j true) xv W i j p := by
  intro _ b
  rw [getD_set_self hj] at b
  cases b

theorem Fd.gone {listed : Array Bool} {xv : Nat → Value} {W : World} {i j o : Nat} {p : Value → World → Prop} (hj : listed.getD j false = true) (hne : j ≠ o) : Fd (listed.setIfInBounds o true) xv W i j p := by
  intro _ b
  rw [getD_set_other hne, hj] at b
  cases b

/-- All predicates that look at no world. -/
theorem Lst.any {gs : List (Value → World → Prop)} {listed : Array Bool} {x : Nat → Value} {W W' : World} (h : Lst gs listed x W) (hs : ∀ p ∈ gs, ∀ v U U', p v U → p v U') {i : Nat} {p : Value → World → Prop} (hg : gs[i]? = some p) (v : Value)
    (hv : p v W') : Lst gs (listed.setIfInBounds i true) (updV x i v) W' := by
  intro j p' hp' hj
  unfold updV
  by_cases hji : j = i
  · subst hji
    rw [if_pos rfl]
    rw [hg] at hp'
    obtain rfl := Option.some.inj hp'
    exact hv
  · rw [if_neg hji]
    rw [getD_set_other hji] at hj
    exact hs p' (List.mem_of_getElem? hp') _ _ _ (h j p' hp' hj)

/-- From i on. -/
def Fe (listed : Array Bool) (xv : Nat → Value) (W : World) (i : Nat) (p : Value → World → Prop) : Prop := listed.getD i false = true → p (xv i) W

theorem Fe.start (n : Nat) (xv : Nat → Value) (W : World) (i : Nat) (p : Value → World → Prop) : Fe (Array.replicate n false) xv W i p := by
  intro h
  exfalso
  rw [Array.getD_eq_getD_getElem?, Array.getElem?_replicate] at h
  split at h <;> simp at h

theorem Fe.step {listed : Array Bool} {xv : Nat → Value} {W W' : World} {i : Nat} {p : Value → World → Prop} (h : Fe listed xv W i p) (hp : ∀ v, p v W → p v W') {o : Nat} (hi : i ≠ o) (v : Value) : Fe (listed.setIfInBounds o true) (updV xv o v) W' i p := by
  intro a
  rw [getD_set_other hi] at a
  have e : updV xv o v i = xv i := by unfold updV; rw [if_neg hi]
  rw [e]
  exact hp _ (h a)

theorem Fe.on {listed : Array Bool} {xv : Nat → Value} {W W' : World} {i : Nat} {p : Value → World → Prop} (h : Fe listed xv W i p) (hs : Stays p) (hb : Below W.heap.size W W') {o : Nat} (hi : i ≠ o) (v : Value) : Fe (listed.setIfInBounds o true) (updV xv o v) W' i p := h.step (fun v hv => hs v W W' hb hv) hi v

theorem Fe.new {listed : Array Bool} {xv : Nat → Value} {W : World} {i : Nat} {p : Value → World → Prop} {v : Value} (hv : p v W) : Fe (listed.setIfInBounds i true) (updV xv i v) W i p := by
  intro _
  have e : updV xv i v i = v := by unfold updV; rw [if_pos rfl]
  rw [e]
  exact hv

theorem Fe.yet {listed : Array Bool} {xv : Nat → Value} {W : World} {i : Nat} {p : Value → World → Prop} {o : Nat} (h : listed.getD i false = false) (hi : i ≠ o) (v : Value) : Fe (listed.setIfInBounds o true) (updV xv o v) W i p := by
  intro a
  rw [getD_set_other hi, h] at a
  cases a

/-- Until j. -/
def Fz (listed : Array Bool) (W : World) (j : Nat) (p : World → Prop) : Prop := listed.getD j false = false → p W

theorem Fz.start {n : Nat} {W : World} {j : Nat} {p : World → Prop} (h : p W) : Fz (Array.replicate n false) W j p := fun _ => h
theorem Fz.get {listed : Array Bool} {W : World} {j : Nat} {p : World → Prop} (h : Fz listed W j p) (hj : listed.getD j true = false) : p W := h (getD_false hj)
theorem Fz.step {listed : Array Bool} {W W' : World} {j : Nat} {p : World → Prop} (h : Fz listed W j p) (hp : p W → p W') {o : Nat} (hj : j ≠ o) : Fz (listed.setIfInBounds o true) W' j p := by
  intro a
  rw [getD_set_other hj] at a
  exact hp (h a)
theorem Fz.off {listed : Array Bool} {W : World} {j : Nat} {p : World → Prop} (hj : listed.getD j true = false) : Fz (listed.setIfInBounds j true) W j p := by
  intro b
  rw [getD_set_self hj] at b
  cases b
theorem Fz.gone {listed : Array Bool} {W : World} {j o : Nat} {p : World → Prop} (hj : listed.getD j false = true) (hne : j ≠ o) : Fz (listed.setIfInBounds o true) W j p := by
  intro b
  rw [getD_set_other hne, hj] at b
  cases b

/-- Each operation waits for earlier ones alone, as far as the mode binds. -/
def backM (md : Region.Mode) (ops : Array Oper) : Bool := (List.range ops.size).all fun i => ((ops[i]?).map fun o => o.after.all fun e => !Region.binds md e || decide (e.on < i)).getD true

theorem ready_nilM {md : Region.Mode} {ops : Array Oper} {listed : Array Bool} (hb : backM md ops = true) (hs : listed.size = ops.size) (hr : Region.ready md ops listed = []) :
    ∀ i, i < ops.size → listed.getD i false = true := by
  intro i
  induction i using Nat.strongRecOn with
  | _ i ih =>
    intro hi
    cases hx : listed.getD i false with
    | true => rfl
    | false =>
      exfalso
      have hm : i ∈ Region.ready md ops listed := by
        rw [ready_mem]
        refine ⟨hi, ?_, ?_⟩
        · rw [getD_ne (by omega)] at hx ⊢
          exact hx
        · have h1 := List.all_eq_true.1 hb i (List.mem_range.2 hi)
          rw [Array.getElem?_eq_getElem hi] at h1 ⊢
          simp only [Option.map_some, Option.getD_some] at h1 ⊢
          rw [Array.all_eq_true'] at h1 ⊢
          intro e he
          have h2 := h1 e he
          cases hbd : Region.binds md e with
          | false => rfl
          | true =>
            rw [hbd] at h2
            have h3 : e.on < i := by simpa using h2
            rw [ih e.on h3 (by omega)]
            rfl
      rw [hr] at hm
      cases hm

theorem wpAny_inv4 {P : Program} {md : Region.Mode} {ops : Array Oper} {Q : Exit → Act → World → Prop} (I : Array Bool → Act → World → Prop) (hb : backM md ops = true)
    (step : ∀ listed a w, I listed a w → Down md ops listed → ∀ i, i < ops.size → listed.getD i true = false → ((ops[i]?).map (·.after.all fun e => !Region.binds md e || listed.getD e.on false)).getD false = true → wpOp P ops Q i (I (listed.setIfInBounds i true)) a w)
    (fin : ∀ listed a w, I listed a w → (∀ i, i < ops.size → listed.getD i false = true) → Q .normal a w) :
    ∀ (fuel : Nat) (listed : Array Bool) (a : Act) (w : World), listed.size = ops.size → listed.toList.count false ≤ fuel → Down md ops listed → I listed a w → wpAny P md ops Q fuel listed a w := by
  intro fuel
  induction fuel with
  | zero =>
    intro listed a w hs hc hD hI
    have hr : Region.ready md ops listed = [] := by
      rw [List.eq_nil_iff_forall_not_mem]
      intro i hi
      obtain ⟨h1, h2, _⟩ := ready_mem.1 hi
      rw [getD_ne (by omega)] at h2
      have h3 : false ∈ listed.toList := by
        rw [← h2]
        exact Array.getElem_mem_toList (by omega)
      have := List.count_pos_iff.2 h3
      omega
    exact ⟨hr, fin listed a w hI (ready_nilM hb hs hr)⟩
  | succ fuel ih =>
    intro listed a w hs hc hD hI
    refine ⟨fun hr => fin listed a w hI (ready_nilM hb hs hr), fun i hi => ?_⟩
    obtain ⟨h1, h2, h3⟩ := ready_mem.1 hi
    refine wpOp_mono (fun a' w' hI' => ih _ a' w' (by simpa using hs) ?_ (hD.set h3) hI') (step listed a w hI hD i h1 h2 h3)
    rw [getD_ne (by omega)] at h2
    rw [Array.toList_setIfInBounds, List.count_set (by simpa [hs] using h1)]
    have h4 : false ∈ listed.toList := by
      rw [← h2]
      exact Array.getElem_mem_toList (by omega)
    have := List.count_pos_iff.2 h4
    have h5 : listed.toList[i]'(by simpa [hs] using h1) = false := by simpa using h2
    have e : (true == false) = false := rfl
    rw [h5, e]
    simp only [beq_self_eq_true, if_true, Bool.false_eq_true, if_false]
    omega

end Go.Proofs.Ytbnedpjfgadkkaa
