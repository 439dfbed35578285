/-
  Maps whose keys are pairs of whole numbers: the key's law; how often a pair was counted; 'm[k]++'.
-/
import Derived.Test.YthlladpappldbaaLInts
import Derived.Maps.Own
import Derived.Maps.OwnOps
import Derived.Maps.Views
import Derived.DeepKeys4
import Derived.WideKeyArr
import Derived.WideKeyEntry
namespace Go.Proofs.Ythlladpappldbaa
open Go.RowKit Go.Maps
open Go.WideMaps (KeyLaw ArrKey)
open Go.ChangeMaps (setBlock heap_setBlock_same heap_setBlock_other)
set_option linter.unusedVariables false
set_option maxRecDepth 100000

theorem Try.laidOutK : laidOutB Try.prog = true := by kernel_rfl
theorem Try.rowK : (58 : TypeId) < Try.prog.types.size := of_decide_eq_true (by kernel_rfl)
theorem Try.cellsK : Try.prog.cellsOf 58 = 2 := by kernel_rfl
theorem Try.cells1 : Try.prog.cellsOf 3 = 1 := by kernel_rfl
theorem Try.arrK : ArrKey Try.prog 58 3 2 := ⟨Try.underlying58, by kernel_rfl, by kernel_rfl, Try.cellsK⟩
theorem Try.wideK : (match Try.prog.underlying 58 with | some (.array _ _) | some (.struct _) => true | _ => false) = true := by rw [Try.underlying58]
theorem Try.lawK : KeyLaw Try.prog 58 := deep_law_laid Try.laidOutK (m := 2) (by omega) Try.rowK (by kernel_rfl) Try.wideK
theorem Try.keyedK : Keyed Try.prog 58 := Keyed.of_law Try.lawK
theorem Try.sizeK : ∃ m, Try.prog.types.size = m + 1 := ⟨Try.prog.types.size - 1, by have h : (58 : Nat) < Try.prog.types.size := Try.rowK; omega⟩

/-- The key of a pair. -/
def pairV (i j : Int) : Value := .agg #[.int .i64 i, .int .i64 j]
def pairL (i j : Int) : Lit := .string (keyBytes [.int .i64 i, .int .i64 j])

theorem key_pair {i j : Int} (hi : (Lit.int .i64 i).wf = true) (hj : (Lit.int .i64 j).wf = true) : keyOf Try.prog 58 (pairV i j) = some (pairL i j) := by
  have hkt := Try.arrK.keyType Try.sizeK
  obtain ⟨m0, hm0⟩ := Try.sizeK
  obtain ⟨m1, hm1⟩ : ∃ m1, m0 = m1 + 1 := ⟨m0 - 1, by have h : (58 : Nat) < Try.prog.types.size := Try.rowK; omega⟩
  subst hm1
  unfold keyOf pairV pairL
  simp only [Try.underlying58]
  rw [if_pos (by simp [hkt, Value.formed, Try.underlying58, Try.cellsK]), hm0]
  unfold Program.keyLits
  simp only [Try.underlying58, Value.cells]
  rw [if_pos (by rw [Try.cellsK]; rfl)]
  have e : List.range 2 = [0, 1] := rfl
  rw [e]
  unfold Program.keyLits
  simp [Try.cells1, Try.underlying3, hi, hj]

theorem pairL_inj {i j i' j' : Int} (hi : (Lit.int .i64 i).wf = true) (hj : (Lit.int .i64 j).wf = true) (hi' : (Lit.int .i64 i').wf = true) (hj' : (Lit.int .i64 j').wf = true) (h : pairL i j = pairL i' j') : i = i' ∧ j = j' := by
  have h1 := key_pair hi hj
  have h2 := key_pair hi' hj'
  rw [h] at h1
  have := Try.lawK.inj h1 h2
  unfold pairV at this
  injection this with this
  simp at this
  exact this

theorem pairL_key (i j : Int) : WideAt.IsKeyLit (pairL i j) := by simp [pairL, WideAt.IsKeyLit]

/-- The map: how often each pair was counted. -/
def PrI (w : World) (mb k : Nat) (f : Int → Int → Int) : Prop :=
  ∃ D : DataW Unit, w.ownsMap Try.prog 58 (plainElem Try.prog 3) mb k D ∧ IsMap D ∧ ∀ i j : Int, (Lit.int .i64 i).wf = true → (Lit.int .i64 j).wf = true → D.atKey (pairL i j) (.lit (.int .i64 0)) = .lit (.int .i64 (f i j))

theorem Try.zeroK (w : World) : (zeroValue 3).run Try.prog w = .ok (.int .i64 0) w := by kernel_rfl

theorem PrI.start (w : World) : PrI (w.alloc (.map #[] 0)) w.heap.size 0 (fun _ _ => 0) := ⟨_, World.ownsMap_made _ _ _ _, isMap_empty, fun i j _ _ => rfl⟩
theorem PrI.kept {w w' : World} {mb k : Nat} {f : Int → Int → Int} (h : PrI w mb k f) (hk : w'.heap[mb]? = w.heap[mb]?) : PrI w' mb k f := by
  obtain ⟨D, ⟨es, clock, h1, h2⟩, h3, h4⟩ := h
  exact ⟨D, ⟨es, clock, hk.trans h1, h2⟩, h3, h4⟩
theorem PrI.lt {w : World} {mb k : Nat} {f : Int → Int → Int} (h : PrI w mb k f) : mb < w.heap.size := by
  obtain ⟨D, h1, _⟩ := h
  exact h1.lt
theorem PrI.below {w w' : World} {mb k : Nat} {f : Int → Int → Int} (h : PrI w mb k f) (hb : Below w.heap.size w w') : PrI w' mb k f := h.kept (hb.block mb h.lt)

theorem PrI.look {w : World} {mb k : Nat} {f : Int → Int → Int} (h : PrI w mb k f) {i j : Int} (hi : (Lit.int .i64 i).wf = true) (hj : (Lit.int .i64 j).wf = true) : (Instr.lookup 57 (.map (some mb)) (pairV i j) false).run Try.prog w = .ok (.int .i64 (f i j)) w := by
  obtain ⟨D, h1, h2, h3⟩ := h
  obtain ⟨c, hrun, hat, -⟩ := h1.lookup_int Try.keyedK Try.underlying57 Try.underlying3 (Try.zeroK _) (key_pair hi hj)
  rw [h3 i j hi hj] at hat
  injection hat with hat
  injection hat with _ hat
  rw [hrun, hat]

/-- One pair's count is another one. -/
def setF (f : Int → Int → Int) (i j c : Int) : Int → Int → Int := fun a b => if a = i ∧ b = j then c else f a b

theorem PrI.update {w : World} {mb k : Nat} {f : Int → Int → Int} (h : PrI w mb k f) (hk : k ≤ 1000000000) {i j c : Int} (hi : (Lit.int .i64 i).wf = true) (hj : (Lit.int .i64 j).wf = true) (hc : (Lit.int .i64 c).wf = true) :
    ∃ w', (Instr.mapUpdate 57 (.map (some mb)) (pairV i j) (.int .i64 c)).run Try.prog w = .ok () w' ∧ PrI w' mb (k + 1) (setF f i j c) ∧ w.grownBy w' (some mb) := by
  obtain ⟨D, h1, h2, h3⟩ := h
  obtain ⟨w', hrun, ho, hg⟩ := h1.update Try.keyedK Try.underlying57 (by unfold maxLen; omega) (key_pair hi hj) (plainElem_int Try.underlying3 hc)
  refine ⟨w', hrun, ⟨_, ho, h2.put _ _, fun a b ha hb => ?_⟩, hg⟩
  by_cases e : a = i ∧ b = j
  · obtain ⟨rfl, rfl⟩ := e
    rw [atKey_put_same h2 (pairL_key _ _)]
    simp [setF]
  · rw [atKey_put_other (fun q => e (pairL_inj ha hb hi hj q)), h3 a b ha hb]
    simp [setF, e]

theorem setF_self (f : Int → Int → Int) (i j : Int) : setF f i j (f i j) = f := by
  funext a b
  unfold setF
  split
  · rename_i h
    rw [h.1, h.2]
  · rfl

theorem setBlock_grown {w : World} {b : Nat} {es es' : Array MapEntry} {c c' : Nat} (hb : w.heap[b]? = some (.map es c)) : w.grownBy (setBlock w b (.map es' c')) (some b) :=
  ⟨rfl, rfl, rfl, by simp [setBlock], fun i _ hi => heap_setBlock_other hb _ (fun e => hi (by rw [e]))⟩

/-- The first half of 'm[k]++': the map reads as it did. -/
theorem PrI.entry {w : World} {mb k : Nat} {f : Int → Int → Int} (h : PrI w mb k f) (hk : k ≤ 1000000000) {i j : Int} (hi : (Lit.int .i64 i).wf = true) (hj : (Lit.int .i64 j).wf = true) (hf : (Lit.int .i64 (f i j)).wf = true) :
    ∃ (st : Nat) (es1 : Array MapEntry) (c1 : Nat) (w1 : World), (Instr.mapEntry 57 (.map (some mb)) (pairV i j)).run Try.prog w = .ok (.tuple #[.int .i64 (f i j), goInt st]) w1 ∧ w1.heap[mb]? = some (.map es1 c1) ∧ PrI w1 mb (k + 1) f ∧ w.grownBy w1 (some mb) ∧
      ∀ (w2 : World) (c : Int), (Lit.int .i64 c).wf = true → w2.heap[mb]? = some (.map es1 c1) → ∃ w3, (Instr.entryStore 57 (.map (some mb)) (goInt st) (.int .i64 c)).run Try.prog w2 = .ok () w3 ∧ PrI w3 mb (k + 1) (setF f i j c) ∧ w2.grownBy w3 (some mb) := by
  have hlook := h.look hi hj
  have h0 := h
  obtain ⟨D, ⟨es, clock, hb, F, hs, hD⟩, h2, h3⟩ := h
  have hkey := key_pair hi hj
  obtain ⟨v0, st, es1, c1, hE, -, hS⟩ := Go.WideElems.entry_then_store Try.lawK Try.underlying57 Try.zeroK hb F hkey
  have hmid : v0 = .int .i64 (f i j) ∧ PrI (setBlock w mb (.map es1 c1)) mb (k + 1) f := by
    rcases Try.lawK.find w hkey es.toList F.keys with ⟨q1, q2⟩ | ⟨jx, e0, q1, q2, q3⟩
    · have my : (Instr.mapEntry 57 (.map (some mb)) (pairV i j)).run Try.prog w = .ok (.tuple #[.int .i64 0, goInt clock]) (setBlock w mb (.map (es.push ⟨pairV i j, .int .i64 0, clock⟩) (clock + 1))) := by
        simp [Instr.mapEntry, run_underlying Try.underlying57, MapKept.run_getObj_map hb, Try.lawK.check w false hkey, q1, MapKept.run_setObj_map _ hb, Result.andThen, setBlock]
      have ml : (Instr.lookup 57 (.map (some mb)) (pairV i j) false).run Try.prog w = .ok (.int .i64 0) w := by
        simp [Instr.lookup, run_underlying Try.underlying57, MapKept.run_getObj_map hb, Try.lawK.check w es.isEmpty hkey, q1, Result.andThen]
      rw [hlook] at ml
      injection ml with ml _
      have hf0 : f i j = 0 := by injection ml
      rw [hE] at my
      injection my with e1 e2
      injection e1 with e1
      simp at e1
      refine ⟨by rw [e1.1, hf0], ?_⟩
      obtain ⟨w', hrun, hP, -⟩ := h0.update hk hi hj (c := 0) (by decide)
      have mu : (Instr.mapUpdate 57 (.map (some mb)) (pairV i j) (.int .i64 0)).run Try.prog w = .ok () (setBlock w mb (.map (es.push ⟨pairV i j, .int .i64 0, clock⟩) (clock + 1))) := by
        simp [Instr.mapUpdate, run_underlying Try.underlying57, MapKept.run_getObj_map hb, Try.lawK.check w false hkey, q1, MapKept.run_setObj_map _ hb, Result.andThen, setBlock]
      rw [hrun] at mu
      injection mu with _ mu
      rw [e2, ← mu]
      rw [← hf0, setF_self] at hP
      exact hP
    · have hjx : es[jx]? = some e0 := by simpa using q2
      have ml : (Instr.lookup 57 (.map (some mb)) (pairV i j) false).run Try.prog w = .ok e0.val w := by
        simp [Instr.lookup, run_underlying Try.underlying57, MapKept.run_getObj_map hb, Try.lawK.check w es.isEmpty hkey, q1, Result.andThen]
      rw [hlook] at ml
      injection ml with ml _
      have hsame : es.modify jx (fun e => { e with key := pairV i j }) = es := by
        apply Array.ext'
        rw [Array.toList_modify]
        apply List.ext_getElem?
        intro m
        rw [List.getElem?_modify]
        by_cases e : jx = m
        · subst e
          rw [q2]
          simp only [if_true]
          rw [← q3]
          rfl
        · simp only [if_neg e]
          cases es.toList[m]? <;> rfl
      have my : (Instr.mapEntry 57 (.map (some mb)) (pairV i j)).run Try.prog w = .ok (.tuple #[e0.val, goInt e0.born]) (setBlock w mb (.map es clock)) := by
        simp [Instr.mapEntry, run_underlying Try.underlying57, MapKept.run_getObj_map hb, Try.lawK.check w false hkey, q1, hjx, q3, Try.lawK.stays w hkey, hsame, MapKept.run_setObj_map _ hb, Result.andThen, setBlock]
      rw [hE] at my
      injection my with e1 e2
      injection e1 with e1
      simp at e1
      refine ⟨by rw [e1.1, ← ml], ?_⟩
      rw [e2]
      obtain ⟨D', g1, g2, g3⟩ := h0
      exact PrI.kept (w := w) ⟨D', g1.mono (Nat.le_succ _), g2, g3⟩ ((heap_setBlock_same hb _).trans hb.symm)
  obtain ⟨rfl, hmP⟩ := hmid
  refine ⟨st, es1, c1, _, hE, heap_setBlock_same hb _, hmP, setBlock_grown hb, ?_⟩
  intro w2 c hc hw2
  obtain ⟨es', c', r1, r2⟩ := hS w2 (.int .i64 c) hw2
  obtain ⟨w', hrun, hP, -⟩ := h0.update hk hi hj hc
  rw [hrun] at r2
  injection r2 with _ r2
  refine ⟨_, r1, ?_, setBlock_grown hw2⟩
  rw [r2] at hP
  exact hP.kept ((heap_setBlock_same hw2 _).trans (heap_setBlock_same hb _).symm)

end Go.Proofs.Ythlladpappldbaa
