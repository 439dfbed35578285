/-
  batch: what Solve's loop keeps.
-/
import Derived.Test.YtkckbeekehecnaaBF
import Derived.Maps.Own
namespace Go.Proofs.Ytkckbeekehecnaa
open Go.RowKit
set_option linter.unusedVariables false
set_option maxRecDepth 100000

theorem bmax2Z (a b : Int) (W : World) : (Builtin.max_ #[3, 3] 3 #[.int .i64 a, .int .i64 b]).run Try.prog W = .ok (.int .i64 (max a b)) W := by
  simp only [Builtin.max_, List.foldlM, Builtin.max2, Sem.run_pure, pure_bind]
  congr 2
  split <;> omega

theorem Run.fs {fl : List (List Int)} {FV : Value} {s : SpS} (R : Run fl FV s) (v : Value) (F : List Int) (hF : s.FF = F) : Run fl FV { s with fsv := v, FF := F } := by
  subst hF
  exact ⟨R.m, R.fv, R.G, R.h, R.r, R.d, R.F, R.N, R.len⟩
/-- NEXT, in either case. -/
theorem wnext_any (B p : Nat) (s : SpS) (w : World) (fl : List (List Int)) (FV : Value) (hs : Wt B w p s) (R : Run fl FV s) :
    Calls Try.prog 29 #[.pointer (some ⟨p, 0, none⟩)] w fun e w' => ∃ (q : Nat) (b : Bool) (v : Value) (F : List Int), e = .returned (.tuple #[.int .i64 (q : Int), .bool b]) ∧ Wt B w' p { s with fsv := v, FF := F } ∧ (b = true → s.FF = F ++ [(q : Int)] ∧ q < fl.length) ∧ (b = false → s.FF = [] ∧ F = []) ∧ Below B w w' ∧ KeepT w w' := by
  rcases List.eq_nil_or_concat s.FF with hF | ⟨F, z, hF⟩
  · refine (wnext_none B p s w hs hF).mono ?_
    rintro e w' ⟨rfl, rfl⟩
    refine ⟨0, false, s.fsv, s.FF, rfl, hs, (fun h => by cases h), fun _ => ⟨hF, hF⟩, Below.refl _ _, KeepT.refl _⟩
  · rw [List.concat_eq_append] at hF
    obtain ⟨q, rfl, hq⟩ := R.N z (by rw [hF]; simp)
    refine (wnext_some B p s w hs F (q : Int) hF).mono ?_
    rintro e w' ⟨rfl, ⟨v, h1⟩, h2, h3⟩
    exact ⟨q, true, v, F, rfl, h1, fun _ => ⟨hF, hq⟩, (fun h => by cases h), h2, h3⟩

/-- What is still to be done. -/
def muT (p lb m : Nat) (W : World) : Nat := (match W.cell? ⟨p, 2, none⟩ with | some (.slice _ n _) => n | _ => 0) + 2 * (List.range m).countP (fun e => match W.cell? ⟨lb, e, none⟩ with | some (.int _ z) => decide (2 ≤ z) | _ => false)
theorem muT_eq {B p m lb : Nat} {W : World} {s : SpS} (h : Wt B W p s) (hm : s.m = m) (hl : s.lb = lb) : muT p lb m W = s.FF.length + 2 * cnt2 m s.h := by
  subst hm
  subst hl
  obtain ⟨-, -, c4⟩ := h.cells
  obtain ⟨a, c, e4⟩ := own_shape h.first
  unfold muT cnt2
  rw [c4, e4]
  congr 2
  refine List.countP_congr fun e he => ?_
  have hc := OwnZ.cell (b := s.lb) (c := s.m) (n := s.m) h.left (tab_get s.h (List.mem_range.1 he))
  rw [hc]
def oneT : Value → Nat
  | .bool true => 1
  | _ => 0

/-- One value more. -/
theorem Vs.put {W W' : World} {bx vb n size z : Nat} {us : List Value} {K : List Int} {V : Int → List UInt8} {X : List UInt8} {q c : Nat} (h : Vs W bx vb n size us K V) (hz : z < n) (hzk : (z : Int) ∉ K)
    (hk : ∀ (k : Nat) (cs : Array Value) (t : TypeId), t ≠ 38 → W.heap[k]? = some (.cells cs t (0, 0)) → W'.heap[k]? = some (.cells cs t (0, 0)))
    (hr : W'.ownsRow 0 38 1 (.slice (some ⟨vb, 0, none⟩) n n) n (us.set z (.slice (some ⟨q, 0, none⟩) size c))) (hX : OwB 0 W' (.slice (some ⟨q, 0, none⟩) size c) size X) : Vs W' bx vb n size (us.set z (.slice (some ⟨q, 0, none⟩) size c)) (K ++ [(z : Int)]) (updV1 V z X) where
  box := hk _ _ _ (by decide) h.box
  row := hr
  kn i u hu hi := by
    by_cases hiz : i = z
    · subst hiz
      have e1 : (us.set i (.slice (some ⟨q, 0, none⟩) size c))[i]? = some (.slice (some ⟨q, 0, none⟩) size c) := by
        have := h.len
        rw [List.getElem?_set_self (by omega)]
      rw [e1] at hu
      obtain rfl := Option.some.inj hu
      exact ⟨q, c, rfl, by rw [updV1_same]; exact hX⟩
    · rw [List.getElem?_set_ne (fun e => hiz e.symm)] at hu
      have hi' : (i : Int) ∈ K := by
        rcases List.mem_append.1 hi with h1 | h1
        · exact h1
        · have := List.mem_singleton.1 h1; omega
      obtain ⟨q', c', h1, h2⟩ := h.kn i u hu hi'
      refine ⟨q', c', h1, ?_⟩
      rw [updV1_other (by omega)]
      exact h2.kept fun k hkq => by obtain ⟨cs, hc⟩ := owns_type' h2 k hkq; exact (hk k cs _ (by decide) hc).trans hc.symm
  un i u hu hi := by
    by_cases hiz : i = z
    · subst hiz
      exact absurd (List.mem_append_right _ (List.mem_singleton.2 rfl)) hi
    · rw [List.getElem?_set_ne (fun e => hiz e.symm)] at hu
      exact h.un i u hu fun h1 => hi (List.mem_append_left _ h1)
  rg x hx := by
    rcases List.mem_append.1 hx with h1 | h1
    · exact h.rg x h1
    · rw [List.mem_singleton.1 h1]; omega
theorem Vs.start {W : World} {vb n size : Nat} (hr0 : W.ownsRow 0 38 1 (.slice (some ⟨vb, 0, none⟩) n n) n (madeCells (Value.slice none 0 0).cells (n * 1)).toList) : Vs (W.alloc (.cells #[.slice (some ⟨vb, 0, none⟩) n n] 23)) W.heap.size vb n size (List.replicate n (.slice none 0 0)) [] (fun _ => []) := by
  simp only [Value.cells, Nat.mul_one, toList_madeCells_one] at hr0
  exact
    { box := heap_alloc_new W _
      row := owns_kept hr0 fun q hq => (below_alloc W _).block q (World.ownsRow.lt hr0 q hq).2
      kn := fun i u hu hi => by cases hi
      un := fun i u hu _ => by
        rw [List.getElem?_replicate] at hu
        split at hu
        · exact (Option.some.inj hu).symm
        · cases hu
      rg := fun x hx => by cases hx }
theorem store_own {W : World} {vb n z : Nat} {us : List Value} (h : W.ownsRow 0 38 1 (.slice (some ⟨vb, 0, none⟩) n n) n us) (hz : z < n) (u : Value) : (W.setCell ⟨vb, z, none⟩ u).ownsRow 0 38 1 (.slice (some ⟨vb, 0, none⟩) n n) n (us.set z u) := by
  rcases h.2 with ⟨h0, -⟩ | ⟨g, cap, cur, hv, hg, hh, hnc, hcm, hcs, ht⟩
  · cases h0
  · injection hv with e1 e2 e3
    injection e1 with e1
    injection e1 with e1 _ _
    subst e1
    subst e3
    refine ⟨by rw [List.length_set]; exact h.1, .inr ⟨vb, n, cur.set! z u, rfl, hg, ?_, Nat.le_refl _, hcm, by simpa using hcs, ?_⟩⟩
    · simp [World.setCell, Array.getElem?_modify, hh]
    · rw [Nat.mul_one] at ht hcs ⊢
      rw [Array.set!_eq_setIfInBounds, Array.toList_setIfInBounds]
      rw [List.take_of_length_le (by rw [List.length_set, Array.length_toList, hcs]; exact Nat.le_refl _)]
      rw [List.take_of_length_le (by rw [Array.length_toList, hcs]; exact Nat.le_refl _)] at ht
      rw [ht]
theorem pairs_snoc (fit : List Qe) (ss : List (Nat × Int)) (q : Nat) (b : Int) : pairsQ fit (ss ++ [(q, b)]) = pairsQ fit ss ++ [(pairQ (fit.getD q Qe.none), b)] := by simp [pairsQ]
theorem slv_next {fit : List Qe} {ss : List (Nat × Int)} {V : Int → List UInt8} {q : Nat} {e : Qe} {b : Int} (h : Slv (fit.map pairQ) (pairsQ fit ss) V) (he : fit[q]? = some e) (hL : leftZ (ss.map Prod.snd) e.of = [b]) : Slv (fit.map pairQ) (pairsQ fit (ss ++ [(q, b)])) (updV1 V b (xorAll e.va ((knZ (ss.map Prod.snd) e.of).map V))) := by
  have hd : fit.getD q Qe.none = e := by rw [List.getD_eq_getElem?_getD, he]; rfl
  rw [pairs_snoc, hd]
  have h1 := h.snoc (p := pairQ e) (b := b) (List.mem_map.2 ⟨e, List.mem_of_getElem? he, rfl⟩) (by rw [pairs_snd]; exact hL)
  rw [pairs_snd] at h1
  exact h1

theorem flat_sub (p : Qe → Bool) : ∀ es : List Qe, ((es.filter p).map Qe.of).flatten.length ≤ (es.map Qe.of).flatten.length
  | [] => by simp
  | e :: es => by
    have h1 := flat_sub p es
    rw [List.filter_cons]
    split
    · rw [List.map_cons, List.map_cons, List.flatten_cons, List.flatten_cons, List.length_append, List.length_append]
      omega
    · rw [List.map_cons, List.flatten_cons, List.length_append]
      omega
def IsLz (B : Nat) (L : List Int) : Value → World → Prop := fun v W => ∃ a m c, v = .slice a m c ∧ OwnZ B W (.slice a m c) m L
theorem stays_lz (B : Nat) (L : List Int) : Stays (IsLz B L) := fun _ _ _ hb ⟨a, m, c, h1, h2⟩ => ⟨a, m, c, h1, h2.below hb⟩
def IsRst (B size : Nat) (X : List UInt8) : Value → World → Prop := fun v W => ∃ q c, v = .slice (some ⟨q, 0, none⟩) size c ∧ OwB B W v size X
theorem stays_rst (B size : Nat) (X : List UInt8) : Stays (IsRst B size X) := fun _ _ _ hb ⟨q, c, h1, h2⟩ => ⟨q, c, h1, h2.below hb⟩
def IsPutV (vb n z size : Nat) (us : List Value) (X : List UInt8) : Value → World → Prop := fun _ W => ∃ q c, W.ownsRow 0 38 1 (.slice (some ⟨vb, 0, none⟩) n n) n (us.set z (.slice (some ⟨q, 0, none⟩) size c)) ∧ OwB 0 W (.slice (some ⟨q, 0, none⟩) size c) size X
theorem stays_putv (vb n z size : Nat) (us : List Value) (X : List UInt8) : Stays (IsPutV vb n z size us X) := fun _ _ _ hb ⟨q, c, h1, h2⟩ => ⟨q, c, owns_kept h1 fun k hk => hb.block k (World.ownsRow.lt h1 k hk).2, h2.below hb⟩

end Go.Proofs.Ytkckbeekehecnaa
