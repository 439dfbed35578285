/-
  batch: what equations wait for, in memory.
-/
import Derived.Test.YtkckbeekehecnaaZKA
import Derived.Test.YtkckbeekehecnaaZKB
import Derived.Carry
namespace Go.Proofs.Ytkckbeekehecnaa
open Go.RowKit
set_option linter.unusedVariables false
set_option maxRecDepth 100000

structure Wt (B : Nat) (W : World) (p : Nat) (s : SpS) : Prop where
  box : W.heap[p]? = some (.cells #[.map (some s.mb), s.lv, s.fsv] 85 (0, 0))
  map : MpO W s.mb s.k s.f
  rows : ∀ b v, s.f b = some v → OwnZ B W v (s.G b).length (s.G b)
  out : ∀ b, s.f b = none → s.G b = []
  left : OwnZ B W s.lv s.m (tabZ s.m s.h)
  first : OwnZ B W s.fsv s.FF.length s.FF
  bp : B ≤ p
  bm : B ≤ s.mb
  dfl : s.fsv.ownBlock ≠ some s.lb
  drow : ∀ b v, s.f b = some v → v.ownBlock ≠ some s.lb ∧ ∀ q, v.ownBlock = some q → s.fsv.ownBlock ≠ some q
  dtwo : ∀ b v b' v', s.f b = some v → s.f b' = some v' → b ≠ b' → ∀ q, v.ownBlock = some q → v'.ownBlock ≠ some q

theorem Wt.lt {B : Nat} {W : World} {p : Nat} {s : SpS} (h : Wt B W p s) : p < W.heap.size := (Array.getElem?_eq_some_iff.1 h.box).1
theorem Wt.lltB {B : Nat} {W : World} {p : Nat} {s : SpS} (h : Wt B W p s) : B ≤ s.lb ∧ s.lb < W.heap.size := h.left.lt s.lb rfl
/-- All of a spread's blocks are as they were. -/
theorem Wt.kept {B : Nat} {W W' : World} {p : Nat} {s : SpS} (h : Wt B W p s) (hk : ∀ q, B ≤ q → q < W.heap.size → W'.heap[q]? = W.heap[q]?) : Wt B W' p s where
  box := (hk p h.bp h.lt).trans h.box
  map := h.map.kept (hk _ h.bm h.map.lt)
  rows b v hv := (h.rows b v hv).kept fun q hq => hk q ((h.rows b v hv).lt q hq).1 ((h.rows b v hv).lt q hq).2
  out := h.out
  left := h.left.kept fun q hq => hk q (h.left.lt q hq).1 (h.left.lt q hq).2
  first := h.first.kept fun q hq => hk q (h.first.lt q hq).1 (h.first.lt q hq).2
  bp := h.bp
  bm := h.bm
  dfl := h.dfl
  drow := h.drow
  dtwo := h.dtwo
theorem Wt.below {B : Nat} {W W' : World} {p : Nat} {s : SpS} (h : Wt B W p s) (hb : Below W.heap.size W W') : Wt B W' p s := h.kept fun q _ hq => hb.block q hq

theorem Wt.setLeft {B : Nat} {W : World} {p : Nat} {s : SpS} (h : Wt B W p s) {e : Nat} (he : e < s.m) (v : Int) : Wt B (W.setCell ⟨s.lb, e, none⟩ (.int .i64 v)) p { s with h := updN s.h e v } := by
  obtain ⟨cl, hl⟩ := h.left.kind (q := s.lb) rfl
  have kp : p ≠ s.lb := heap_ne h.box hl (by decide)
  obtain ⟨es, c, hm⟩ := h.map.isMap
  have km : s.mb ≠ s.lb := fun e => heap_neM hl hm e.symm
  have K : ∀ q, q ≠ s.lb → (W.setCell ⟨s.lb, e, none⟩ (.int .i64 v)).heap[q]? = W.heap[q]? := fun q hq => heap_set_other _ _ _ _ hq
  exact
    { box := (K p kp).trans h.box
      map := h.map.kept (K _ km)
      rows := fun b v hv => (h.rows b v hv).kept fun q hq => K q (fun e => (h.drow b v hv).1 (by rw [hq, e]))
      out := h.out
      left := tab_set_own h.left he v
      first := h.first.kept fun q hq => K q (fun e => h.dfl (by rw [hq, e]))
      bp := h.bp, bm := h.bm, dfl := h.dfl, drow := h.drow, dtwo := h.dtwo }
/-- A cell of the spread itself is turned. -/
theorem Wt.box_other {B : Nat} {W : World} {p : Nat} {s : SpS} (h : Wt B W p s) (j : Nat) (u : Value) : (∀ (q : Nat) (cs : Array Value) (t : TypeId) (fr : Nat × Nat), t ≠ 85 → W.heap[q]? = some (Obj.cells cs t fr) → (W.setCell ⟨p, j, none⟩ u).heap[q]? = W.heap[q]?) ∧ (W.setCell ⟨p, j, none⟩ u).heap[s.mb]? = W.heap[s.mb]? := by
  refine ⟨fun q cs t fr ht hq => heap_set_other _ _ _ _ (heap_ne hq h.box ht), ?_⟩
  obtain ⟨es, c, hm⟩ := h.map.isMap
  exact heap_set_other _ _ _ _ (fun e => heap_neM h.box hm e.symm)
/-- The list to be looked at is another one. -/
theorem Wt.setFirst {B : Nat} {W : World} {p : Nat} {s : SpS} (h : Wt B W p s) {v : Value} {F : List Int} (hF : OwnZ B W v F.length F) (hv : v.ownBlock = s.fsv.ownBlock ∨ ∀ q, v.ownBlock = some q → q ≠ s.lb ∧ ∀ b u, s.f b = some u → u.ownBlock ≠ some q) :
    Wt B (W.setCell ⟨p, 2, none⟩ v) p { s with fsv := v, FF := F } := by
  obtain ⟨K, Km⟩ := h.box_other 2 v
  exact
    { box := by
        have := box_set h.box (j := 2) v
        simpa [SpS.lv, SpS.rv] using this
      map := h.map.kept Km
      rows := fun b v hv => (h.rows b v hv).kept fun q hq => by obtain ⟨cs, hc⟩ := (h.rows b v hv).kind hq; exact K q cs _ _ (by decide) hc
      out := h.out
      left := h.left.kept fun q hq => by obtain ⟨cs, hc⟩ := h.left.kind hq; exact K q cs _ _ (by decide) hc
      first := hF.kept fun q hq => by obtain ⟨cs, hc⟩ := hF.kind hq; exact K q cs _ _ (by decide) hc
      bp := h.bp, bm := h.bm
      dfl := by
        rcases hv with hv | hv
        · show v.ownBlock ≠ _
          rw [hv]
          exact h.dfl
        · exact fun e => (hv _ e).1 rfl
      drow := fun b u hu => by
        obtain ⟨h1, h3⟩ := h.drow b u hu
        refine ⟨h1, fun q hq => ?_⟩
        show v.ownBlock ≠ some q
        rcases hv with hv | hv
        · rw [hv]; exact h3 q hq
        · intro e
          exact (hv q e).2 b u hu hq
      dtwo := h.dtwo }
/-- Behind an 'append' onto the list. -/
theorem Wt.grownF {B : Nat} {W W' : World} {p : Nat} {s : SpS} (h : Wt B W p s) (hg : W.grownBy W' s.fsv.ownBlock) {v : Value} {F : List Int} (hF : OwnZ B W' v F.length F) (hv : v.ownBlock = s.fsv.ownBlock ∨ v.ownBlock = some W.heap.size) :
    Wt B (W'.setCell ⟨p, 2, none⟩ v) p { s with fsv := v, FF := F } := by
  have K : ∀ q, q < W.heap.size → s.fsv.ownBlock ≠ some q → W'.heap[q]? = W.heap[q]? := fun q hq hne => hg.block q hq (fun e => hne e.symm)
  have kp : s.fsv.ownBlock ≠ some p := fun e => by
    obtain ⟨cs, hc⟩ := h.first.kind e
    exact heap_ne hc h.box (by decide) rfl
  have km : s.fsv.ownBlock ≠ some s.mb := fun e => by
    obtain ⟨cs, hc⟩ := h.first.kind e
    obtain ⟨es, c, hm⟩ := h.map.isMap
    exact heap_neM hc hm rfl
  have K2 : ∀ q, q < W.heap.size → s.fsv.ownBlock ≠ some q → q ≠ p → (W'.setCell ⟨p, 2, none⟩ v).heap[q]? = W.heap[q]? := fun q hq hne hp => (heap_set_other _ _ _ _ hp).trans (K q hq hne)
  have np : ∀ (q : Nat) (cs : Array Value) (t : TypeId), t ≠ 85 → W.heap[q]? = some (Obj.cells cs t (0, 0)) → q ≠ p := fun q cs t ht hq => heap_ne hq h.box ht
  obtain ⟨es, c, hm⟩ := h.map.isMap
  have mp : s.mb ≠ p := fun e => heap_neM h.box hm e.symm
  have hF' : ∀ q, v.ownBlock = some q → q ≠ p := fun q hq e => by
    obtain ⟨cs, hc⟩ := hF.kind hq
    have hp' : W'.heap[p]? = _ := (K p h.lt kp).trans h.box
    exact heap_ne hc hp' (by decide) e
  exact
    { box := by
        have := box_set ((K p h.lt kp).trans h.box) (j := 2) v
        simpa [SpS.lv, SpS.rv] using this
      map := h.map.kept (K2 _ h.map.lt km mp)
      rows := fun b u hu => (h.rows b u hu).kept fun q hq => by
        obtain ⟨cs, hc⟩ := (h.rows b u hu).kind hq
        exact K2 q ((h.rows b u hu).lt q hq).2 ((h.drow b u hu).2 q hq) (np q cs _ (by decide) hc)
      out := h.out
      left := h.left.kept fun q hq => by
        obtain ⟨cs, hc⟩ := h.left.kind hq
        have e1 : s.lb = q := Option.some.inj hq
        exact K2 q (h.left.lt q hq).2 (by rw [← e1]; exact h.dfl) (np q cs _ (by decide) hc)
      first := hF.kept fun q hq => heap_set_other _ _ _ _ (hF' q hq)
      bp := h.bp, bm := h.bm
      dfl := by
        show v.ownBlock ≠ _
        rcases hv with hv | hv
        · rw [hv]; exact h.dfl
        · rw [hv]
          intro e
          have := h.lltB.2
          have e2 : W.heap.size = s.lb := Option.some.inj e
          omega
      drow := fun b u hu => by
        obtain ⟨h1, h3⟩ := h.drow b u hu
        refine ⟨h1, fun q hq => ?_⟩
        show v.ownBlock ≠ some q
        rcases hv with hv | hv
        · rw [hv]; exact h3 q hq
        · rw [hv]
          intro e
          have := ((h.rows b u hu).lt q hq).2
          have := Option.some.inj e
          omega
      dtwo := h.dtwo }
/-- What the spread's cells hold. -/
theorem Wt.cells {B : Nat} {W : World} {p : Nat} {s : SpS} (h : Wt B W p s) : W.cell? ⟨p, 0, none⟩ = some (.map (some s.mb)) ∧ W.cell? ⟨p, 1, none⟩ = some s.lv ∧ W.cell? ⟨p, 2, none⟩ = some s.fsv := by
  simp [World.cell?, h.box]
theorem Wt.frozen {B : Nat} {W : World} {p : Nat} {s : SpS} (h : Wt B W p s) (j : Nat) : W.frozen? ⟨p, j, none⟩ = false := by simp [World.frozen?, h.box]

/-- All of a spread but what its map says. -/
structure WtC (B : Nat) (W : World) (p : Nat) (s : SpS) : Prop where
  box : W.heap[p]? = some (.cells #[.map (some s.mb), s.lv, s.fsv] 85 (0, 0))
  rows : ∀ b v, s.f b = some v → OwnZ B W v (s.G b).length (s.G b)
  out : ∀ b, s.f b = none → s.G b = []
  left : OwnZ B W s.lv s.m (tabZ s.m s.h)
  first : OwnZ B W s.fsv s.FF.length s.FF
  bp : B ≤ p
  bm : B ≤ s.mb
  dfl : s.fsv.ownBlock ≠ some s.lb
  drow : ∀ b v, s.f b = some v → v.ownBlock ≠ some s.lb ∧ ∀ q, v.ownBlock = some q → s.fsv.ownBlock ≠ some q
  dtwo : ∀ b v b' v', s.f b = some v → s.f b' = some v' → b ≠ b' → ∀ q, v.ownBlock = some q → v'.ownBlock ≠ some q
theorem WtC.toWt {B : Nat} {W : World} {p : Nat} {s : SpS} (h : WtC B W p s) (hm : MpO W s.mb s.k s.f) : Wt B W p s :=
  ⟨h.box, hm, h.rows, h.out, h.left, h.first, h.bp, h.bm, h.dfl, h.drow, h.dtwo⟩
theorem WtC.kept {B : Nat} {W W' : World} {p : Nat} {s : SpS} (h : WtC B W p s) (hk : ∀ (q : Nat) (cs : Array Value) (t : TypeId), W.heap[q]? = some (Obj.cells cs t (0, 0)) → W'.heap[q]? = W.heap[q]?) : WtC B W' p s :=
  { box := (hk p _ _ h.box).trans h.box
    rows := fun b v hv => (h.rows b v hv).kept fun q hq => by obtain ⟨cs, hc⟩ := (h.rows b v hv).kind hq; exact hk q cs _ hc
    out := h.out
    left := h.left.kept fun q hq => by obtain ⟨cs, hc⟩ := h.left.kind hq; exact hk q cs _ hc
    first := h.first.kept fun q hq => by obtain ⟨cs, hc⟩ := h.first.kind hq; exact hk q cs _ hc
    bp := h.bp, bm := h.bm, dfl := h.dfl, drow := h.drow, dtwo := h.dtwo }
theorem WtC.below {B : Nat} {W W' : World} {p : Nat} {s : SpS} (h : WtC B W p s) (hb : Below W.heap.size W W') : WtC B W' p s := h.kept fun q cs t hq => hb.block q (Array.getElem?_eq_some_iff.1 hq).1

theorem Wt.row0 {B : Nat} {W : World} {p : Nat} {s : SpS} (h : Wt B W p s) (b : Int) : OwnZ B W ((s.f b).getD (.slice none 0 0)) (s.G b).length (s.G b) := by
  cases hf : s.f b with
  | none => rw [h.out b hf]; exact OwnZ.nil _ _
  | some v => exact h.rows b v hf
theorem Wt.row0_ne {B : Nat} {W : World} {p : Nat} {s : SpS} (h : Wt B W p s) (b : Int) {q : Nat} (hq : ((s.f b).getD (.slice none 0 0)).ownBlock = some q) : ∃ v, s.f b = some v ∧ v.ownBlock = some q := by
  cases hf : s.f b with
  | none => rw [hf] at hq; cases hq
  | some v => rw [hf] at hq; exact ⟨v, rfl, hq⟩
theorem Wt.grownRow {B : Nat} {W W' : World} {p : Nat} {s : SpS} (h : Wt B W p s) (b x : Int) (hg : W.grownBy W' ((s.f b).getD (.slice none 0 0)).ownBlock) {v : Value} (ho : OwnZ B W' v ((s.G b).length + 1) (s.G b ++ [x]))
    (hv : v.ownBlock = ((s.f b).getD (.slice none 0 0)).ownBlock ∨ v.ownBlock = some W.heap.size) : WtC B W' p (rowS s b x v) ∧ MpO W' s.mb s.k s.f := by
  have K : ∀ q, q < W.heap.size → (∀ u, s.f b = some u → u.ownBlock ≠ some q) → W'.heap[q]? = W.heap[q]? := fun q hq hne => hg.block q hq (fun e => by
    obtain ⟨u, h1, h2⟩ := h.row0_ne b e.symm
    exact hne u h1 h2)
  obtain ⟨es, c, hm⟩ := h.map.isMap
  have hkind : ∀ u, s.f b = some u → ∀ q, u.ownBlock = some q → ∃ cs, W.heap[q]? = some (.cells cs 3) := fun u hu q hq => (h.rows b u hu).kind hq
  have KT : ∀ (q : Nat) (cs : Array Value) (t : TypeId), t ≠ 3 → W.heap[q]? = some (Obj.cells cs t (0, 0)) → W'.heap[q]? = W.heap[q]? := fun q cs t ht hq => K q (Array.getElem?_eq_some_iff.1 hq).1 (fun u hu e => by
    obtain ⟨cs', hc'⟩ := hkind u hu q e
    exact heap_ne hq hc' ht rfl)
  refine ⟨?_, h.map.kept (K _ h.map.lt (fun u hu e => by obtain ⟨cs', hc'⟩ := hkind u hu _ e; exact heap_neM hc' hm rfl))⟩
  have newv : ∀ q, v.ownBlock = some q → (∃ u, s.f b = some u ∧ u.ownBlock = some q) ∨ q = W.heap.size := by
    intro q hq
    rcases hv with hv | hv
    · rw [hv] at hq
      exact .inl (h.row0_ne b hq)
    · rw [hv] at hq
      exact .inr (Option.some.inj hq).symm
  exact
    { box := (KT p _ _ (by decide) h.box).trans h.box
      rows := fun b' v' hv' => by
        by_cases hb : b' = b
        · subst hb
          have e1 : v = v' := by
            have h1 : setO s.f b' v b' = some v' := hv'
            rw [setO_same] at h1
            exact Option.some.inj h1
          rw [← e1]
          show OwnZ B W' v (if b' = b' then s.G b' ++ [x] else s.G b').length (if b' = b' then s.G b' ++ [x] else s.G b')
          rw [if_pos rfl, List.length_append, List.length_singleton]
          exact ho
        · have h1 : s.f b' = some v' := by
            have h1 : setO s.f b v b' = some v' := hv'
            rwa [setO_other hb] at h1
          show OwnZ B W' v' (if b' = b then s.G b ++ [x] else s.G b').length (if b' = b then s.G b ++ [x] else s.G b')
          rw [if_neg hb]
          exact (h.rows b' v' h1).kept fun q hq => K q ((h.rows b' v' h1).lt q hq).2 (fun u hu e => h.dtwo b' v' b u h1 hu hb q hq e)
      out := fun b' hn => by
        by_cases hb : b' = b
        · subst hb
          have h1 : setO s.f b' v b' = none := hn
          rw [setO_same] at h1
          cases h1
        · have h1 : setO s.f b v b' = none := hn
          rw [setO_other hb] at h1
          show (if b' = b then s.G b ++ [x] else s.G b') = []
          rw [if_neg hb]
          exact h.out b' h1
      left := h.left.kept fun q hq => K q (h.left.lt q hq).2 (fun u hu e => by
        have e1 : s.lb = q := Option.some.inj hq
        exact (h.drow b u hu).1 (by rw [e, e1]))
      first := h.first.kept fun q hq => K q (h.first.lt q hq).2 (fun u hu e => (h.drow b u hu).2 q e hq)
      bp := h.bp, bm := h.bm, dfl := h.dfl
      drow := fun b' v' hv' => by
        by_cases hb : b' = b
        · subst hb
          have e1 : v = v' := by
            have h1 : setO s.f b' v b' = some v' := hv'
            rw [setO_same] at h1
            exact Option.some.inj h1
          rw [← e1]
          refine ⟨fun e => ?_, fun q hq e => ?_⟩
          · rcases newv _ e with ⟨u, h1, h2⟩ | h1
            · exact (h.drow b' u h1).1 h2
            · have := h.lltB.2
              have h1' : s.lb = W.heap.size := h1
              omega
          · have e' : s.fsv.ownBlock = some q := e
            rcases newv q hq with ⟨u, h1, h2⟩ | h1
            · exact (h.drow b' u h1).2 q h2 e'
            · have := (h.first.lt q e').2
              omega
        · have h1 : s.f b' = some v' := by
            have h1 : setO s.f b v b' = some v' := hv'
            rwa [setO_other hb] at h1
          exact h.drow b' v' h1
      dtwo := fun b1 v1 b2 v2 h1 h2 hne q hq e => by
        have s1 : setO s.f b v b1 = some v1 := h1
        have s2 : setO s.f b v b2 = some v2 := h2
        by_cases hb1 : b1 = b
        · subst hb1
          rw [setO_same] at s1
          have e1 := Option.some.inj s1
          subst e1
          rw [setO_other (fun e => hne e.symm)] at s2
          rcases newv q hq with ⟨u, h3, h4⟩ | h3
          · exact h.dtwo b1 u b2 v2 h3 s2 hne q h4 e
          · have := ((h.rows b2 v2 s2).lt q e).2
            omega
        · rw [setO_other hb1] at s1
          by_cases hb2 : b2 = b
          · subst hb2
            rw [setO_same] at s2
            have e1 := Option.some.inj s2
            subst e1
            rcases newv q e with ⟨u, h3, h4⟩ | h3
            · exact h.dtwo b1 v1 b2 u s1 h3 hne q hq h4
            · have := ((h.rows b1 v1 s1).lt q hq).2
              omega
          · rw [setO_other hb2] at s2
            exact h.dtwo b1 v1 b2 v2 s1 s2 hne q hq e }
theorem WtC.mapped {B : Nat} {W W' : World} {p : Nat} {s : SpS} (h : WtC B W p s) {k : Nat} {f : Int → Option Value} (ho : MpO W s.mb k f) (hg : W.grownBy W' (some s.mb)) (hm : MpO W' s.mb s.k s.f) : Wt B W' p s := by
  obtain ⟨es, c, hm0⟩ := ho.isMap
  refine (h.kept fun q cs t hq => hg.block q (Array.getElem?_eq_some_iff.1 hq).1 (fun e => ?_)).toWt hm
  have e1 : q = s.mb := Option.some.inj e
  subst e1
  rw [hq] at hm0
  cases hm0


/-- Whatever isn't what waits, nor numbers, is as it was. -/
def KeepT (w w' : World) : Prop := ∀ (q : Nat) (cs : Array Value) (t : TypeId), t ≠ 85 → t ≠ 3 → w.heap[q]? = some (.cells cs t (0, 0)) → w'.heap[q]? = some (.cells cs t (0, 0))
theorem KeepT.refl (w : World) : KeepT w w := fun _ _ _ _ _ h => h
theorem KeepT.trans {a b c : World} (h : KeepT a b) (k : KeepT b c) : KeepT a c := fun q cs t h1 h2 h3 => k q cs t h1 h2 (h q cs t h1 h2 h3)
theorem KeepT.ofBelow {a b : World} (h : Below a.heap.size a b) : KeepT a b := fun q cs t _ _ h3 => (h.block q (Array.getElem?_eq_some_iff.1 h3).1).trans h3
theorem KeepT.ofGrown {a b : World} {v : Value} (h : a.grownBy b v.ownBlock) (ht : ∀ q, v.ownBlock = some q → ∃ cs, a.heap[q]? = some (.cells cs 3)) : KeepT a b := fun q cs t _ h2 h3 => (h.block q (Array.getElem?_eq_some_iff.1 h3).1 (fun e => by
  obtain ⟨cs', hc⟩ := ht q e.symm
  exact heap_ne h3 hc h2 rfl)).trans h3
theorem KeepT.setInt {w : World} {q : Nat} {cs : Array Value} (h : w.heap[q]? = some (.cells cs 3)) (j : Nat) (u : Value) : KeepT w (w.setCell ⟨q, j, none⟩ u) := fun k cs' t _ h2 h3 => (heap_set_other w q j u (heap_ne h3 h h2)).trans h3
theorem KeepT.setWt {w : World} {q : Nat} {cs : Array Value} (h : w.heap[q]? = some (.cells cs 85)) (j : Nat) (u : Value) : KeepT w (w.setCell ⟨q, j, none⟩ u) := fun k cs' t h1 _ h3 => (heap_set_other w q j u (heap_ne h3 h h1)).trans h3
/-- All of its blocks are as they were, by their kinds. -/
theorem Wt.keptK {B : Nat} {W W' : World} {p : Nat} {s : SpS} (h : Wt B W p s) (hc : ∀ (q : Nat) (cs : Array Value) (t : TypeId), (t = 85 ∨ t = 3) → W.heap[q]? = some (.cells cs t (0, 0)) → W'.heap[q]? = W.heap[q]?) (hm : ∀ (q : Nat) (es : Array MapEntry) (c : Nat), W.heap[q]? = some (.map es c) → W'.heap[q]? = W.heap[q]?) : Wt B W' p s where
  box := (hc p _ _ (.inl rfl) h.box).trans h.box
  map := h.map.kept (by obtain ⟨es, c, hh⟩ := h.map.isMap; exact hm _ es c hh)
  rows b v hv := (h.rows b v hv).kept fun q hq => by obtain ⟨cs, hh⟩ := (h.rows b v hv).kind hq; exact hc q cs _ (.inr rfl) hh
  out := h.out
  left := h.left.kept fun q hq => by obtain ⟨cs, hh⟩ := h.left.kind hq; exact hc q cs _ (.inr rfl) hh
  first := h.first.kept fun q hq => by obtain ⟨cs, hh⟩ := h.first.kind hq; exact hc q cs _ (.inr rfl) hh
  bp := h.bp
  bm := h.bm
  dfl := h.dfl
  drow := h.drow
  dtwo := h.dtwo

end Go.Proofs.Ytkckbeekehecnaa
