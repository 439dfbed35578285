/-
  BatchOdd: what it needs.
-/
import Derived.Test.YtkckbeekehecnaaBK
import Derived.RegionTactic
import Derived.Deep.Light
import Derived.BigQuiet
namespace Go.Proofs.Ytkckbeekehecnaa
open Go.RowKit
set_option linter.unusedVariables false
set_option maxRecDepth 100000

/-- An equation that isn't usable is passed over. -/
theorem useQ_odd {n size : Nat} {es : List Qe} {o : Qe} (k : Nat) (h : ¬ (FitI (n : Int) o.of ∧ o.va.length = size)) : useQ n size (es.take k ++ [o] ++ es.drop k) = useQ n size es := by
  have h1 : useQ n size [o] = [] := by
    unfold useQ
    refine List.filter_eq_nil_iff.2 fun e he => ?_
    rw [List.mem_singleton.1 he, Bool.and_eq_true, fitsI_iff, decide_eq_true_eq]
    exact h
  rw [useQ_append, useQ_append, h1, List.append_nil, ← useQ_append, List.take_append_drop]
theorem odd_math {n size : Nat} {es L : List Qe} {K K' : List Int} {V V' : Int → List UInt8} (hU : useQ n size L = useQ n size es) (h : Found n size es K V) (h' : Found n size L K' V') :
    kRise K' n = kRise K n ∧ ((∃ e ∈ useQ n size L, FailP n K' V' e) ↔ ∃ e ∈ useQ n size es, FailP n K V e) := by
  refine ⟨kRise_ext h'.rg h.rg fun x => ?_, ?_⟩
  · rw [h'.mem, h.mem, hU]
  · rw [h'.fail, h.fail, hU]

theorem Qs.take {w : World} {ao : Option Addr} {n c N : Nat} {l : List Qe} (h : Qs w (.slice ao n c) l) (hN : N ≤ n) : Qs w (.slice ao N c) (l.take N) := by
  obtain ⟨⟨h1, a, c', hv, h2, h3, h4, h5⟩, hq⟩ := h
  injection hv with e1 e2 e3
  subst e1; subst e2; subst e3
  have e4 : (l.take N).length = N := by rw [List.length_take]; omega
  refine ⟨⟨length_qs _, ao, c, by rw [e4], by rw [e4]; omega, h3, h4, ?_⟩, fun e he => hq e (List.mem_of_mem_take he)⟩
  rw [e4]
  rcases h5 with h0 | ⟨b, off, hao, hc⟩
  · exact .inl (by omega)
  · refine .inr ⟨b, off, hao, fun j u hj => hc j u ?_⟩
    have e5 : l.flatMap Qe.cells = (l.take N).flatMap Qe.cells ++ (l.drop N).flatMap Qe.cells := by rw [← List.flatMap_append, List.take_append_drop]
    rw [e5, List.getElem?_append_left (List.getElem?_eq_some_iff.1 hj).1]
    exact hj
theorem Qs.drop {w : World} {b off n c N : Nat} {l : List Qe} (h : Qs w (.slice (some ⟨b, off, none⟩) n c) l) (hN : N ≤ n) : Qs w (.slice (some ⟨b, off + N * 2, none⟩) (n - N) (c - N)) (l.drop N) := by
  obtain ⟨⟨h1, a, c', hv, h2, h3, h4, h5⟩, hq⟩ := h
  injection hv with e1 e2 e3
  subst e1; subst e2; subst e3
  have e4 : (l.drop N).length = l.length - N := List.length_drop ..
  refine ⟨⟨length_qs _, _, _, by rw [e4], by rw [e4]; omega, by omega, fun h => by simp at h, ?_⟩, fun e he => hq e (List.mem_of_mem_drop he)⟩
  rw [e4]
  rcases h5 with h0 | ⟨b', off', hao, hc⟩
  · exact .inl (by omega)
  · injection hao with hao
    injection hao with e5 e6
    subst e5; subst e6
    refine .inr ⟨b, off + N * 2, rfl, fun j u hj => ?_⟩
    have e5 : l.flatMap Qe.cells = (l.take N).flatMap Qe.cells ++ (l.drop N).flatMap Qe.cells := by rw [← List.flatMap_append, List.take_append_drop]
    have e6 : ((l.take N).flatMap Qe.cells).length = N * 2 := by rw [length_qs, List.length_take]; omega
    have := hc (N * 2 + j) u (by
      rw [e5, List.getElem?_append_right (by omega), e6, Nat.add_sub_cancel_left]
      exact hj)
    rw [← Nat.add_assoc] at this
    exact this
theorem Qs.none0 {w : World} {ao : Option Addr} : ao.isSome = true → Qs w (.slice ao 0 0) [] := fun h => by
  refine ⟨⟨rfl, ao, 0, rfl, by simp, by simp [maxLen], fun _ => rfl, .inl rfl⟩, fun e he => by cases he⟩

theorem Qs.dropV {w : World} {la : Option Addr} {n c N : Nat} {l : List Qe} (h : Qs w (.slice la n c) l) (hN : N ≤ n) : Qs w (.slice (if c = N then la else la.map (·.add (N * 2))) (n - N) (c - N)) (l.drop N) := by
  by_cases hc : c = N
  · subst hc
    obtain ⟨⟨h1, a, c', hv, h2, h3, h4, h5⟩, hq⟩ := h
    injection hv with e1 e2 e3
    subst e1; subst e2; subst e3
    have e4 : c = l.length := by omega
    subst e4
    rw [if_pos rfl, List.drop_length, Nat.sub_self]
    exact ⟨⟨rfl, la, 0, rfl, by simp, by simp [maxLen], fun _ => rfl, .inl rfl⟩, fun e he => by cases he⟩
  · rw [if_neg hc]
    cases la with
    | none =>
      obtain ⟨⟨h1, a, c', hv, h2, h3, h4, h5⟩, hq⟩ := h
      injection hv with e1 e2 e3
      subst e1; subst e2; subst e3
      have := h4 rfl
      omega
    | some p =>
      have h' := h
      obtain ⟨⟨h1, a, c', hv, h2, h3, h4, h5⟩, hq⟩ := h
      injection hv with e1 e2 e3
      subst e1; subst e2; subst e3
      rcases h5 with h0 | ⟨b, off, hao, hc'⟩
      · have e0 : l = [] := List.eq_nil_of_length_eq_zero h0
        subst e0
        have e1 : N = 0 := by simpa using hN
        subst e1
        exact ⟨⟨rfl, _, _, rfl, by simp, by omega, fun h => by simp at h, .inl rfl⟩, fun e he => by cases he⟩
      · injection hao with hao
        subst hao
        have h2 := h'.drop hN
        have e7 : Addr.add ⟨b, off, none⟩ (N * 2) = ⟨b, off + N * 2, none⟩ := by
          by_cases h0 : N * 2 = 0
          · simp [Addr.add, h0]
          · simp [Addr.add, h0]
        rw [Option.map_some, e7]
        exact h2
theorem qs_sl {w : World} {v : Value} {l : List Qe} (h : Qs w v l) : Sl 2 w v l.length (l.flatMap Qe.cells) := h.1
theorem elemEqns : Try.prog.underlying 28 = some (.slice 43) := by kernel_rfl
theorem sizeEqn (W : World) : (sizeOf 43).run Try.prog W = .ok 2 W := by
  obtain ⟨i, hi, hz, h1, h8⟩ := infoE_parts
  simp [sizeOf, typeInfo, hi, h1]

theorem step_addV (w : World) {ops : Array Oper} {o : Oper} {a : Act} {K : Act → World → Prop} {Q : Exit → Act → World → Prop} {E : Prop} (hgd : o.guard = none) (s x : Operand)
    (ho : o.op = .call { callee := .builtin .append, args := #[s, x], argTypes := #[28, 28] })
    (B : Nat) (v : Value) (n : Nat) (l : List Qe) (hs : a.eval s = v) (hown : OwnE B w v n l)
    (xv : Value) (m : Nat) (news : List Qe) (hx : a.eval x = xv) (hsrc : Sl 2 w xv m (news.flatMap Qe.cells)) (hone : ∀ u ∈ news.flatMap Qe.cells, u.oneCell' = true)
    (hlen : n + m ≤ 1000000000) (hbase : B ≤ w.heap.size)
    (h : ∀ ao cap w', OwnE B w' (.slice ao (n + m) cap) (n + m) (l ++ news) → w.grownBy w' v.ownBlock → K (a.put o.dst (.slice ao (n + m) cap)) w') :
    if Region.wanted o (yielded ops a.tmps) = true then Oper.wp Try.prog o a w K Q else E := by
  obtain ⟨i, hi, hz, h1, h8⟩ := infoE_parts
  refine step_app w hgd s x 28 ho B 43 i (.agg #[.slice none 0 0, .slice none 0 0]) 2 48 Try.underlying28 hi hz h1 h8 rfl (by decide) v n _ hs hown xv m _ hx hsrc hone (by unfold maxLen; omega) (by omega) hbase ?_
  intro ao cap w' h2 h3 h4 h5 h6 h7
  refine h ao cap w' ?_ h3
  unfold OwnE
  rw [List.flatMap_append]
  exact h2

/-- An empty row is one's own. -/
theorem OwnE.zero {B : Nat} (w : World) (h : B ≤ w.heap.size) : OwnE B (w.alloc (.cells #[] 43)) (.slice (some ⟨w.heap.size, 0, none⟩) 0 0) 0 [] := World.ownsRow_lit w #[] 0 h (by simp [maxLen]) rfl
def IsE0E (B : Nat) : Value → World → Prop := fun v W => OwnE B W v 0 [] ∧ ∃ g, v = .slice (some ⟨g, 0, none⟩) 0 0
theorem stays_e0e (B : Nat) : Stays (IsE0E B) := fun _ _ _ hb h => ⟨h.1.below hb, h.2⟩
def IsQs (l : List Qe) : Value → World → Prop := fun v W => Qs W v l
theorem stays_qs (l : List Qe) : Stays (IsQs l) := fun _ _ _ hb h => h.below hb

set_option maxHeartbeats 1000000 in
/-- The document's SAME, and that it only reads. -/
theorem same9_quiet (v1 v2 : Value) (l1 l2 : List Int) (w : World) (h1 : Zs w v1 l1) (h2 : Zs w v2 l2) :
    Calls Try.prog 15 #[v1, v2] w fun e w' => e = .returned (.int .i64 (sameI l1 l2)) ∧ ∃ m, w' = w.drewN m := by
  obtain ⟨-, a1, c1, rfl, g1, g2, -, g3⟩ := h1
  obtain ⟨-, a2, c2, rfl, k1, k2, -, k3⟩ := h2
  unfold maxLen at g2 k2
  obtain ⟨n1, hn1⟩ : ∃ n, l1.length = n := ⟨_, rfl⟩
  obtain ⟨n2, hn2⟩ : ∃ n, l2.length = n := ⟨_, rfl⟩
  rw [hn1] at g1 g3 ⊢
  rw [hn2] at k1 k3 ⊢
  have N1 : Hid (l1.length = n1) := hn1
  have N2 : Hid (l2.length = n2) := hn2
  have C1 : Hid (n1 = 0 ∨ ∃ b off, a1 = some ⟨b, off, none⟩ ∧ ∀ j u, (l1.map (Value.int .i64))[j]? = some u → w.cell? ⟨b, off + j, none⟩ = some u) := g3
  have C2 : Hid (n2 = 0 ∨ ∃ b off, a2 = some ⟨b, off, none⟩ ∧ ∀ j u, (l2.map (Value.int .i64))[j]? = some u → w.cell? ⟨b, off + j, none⟩ = some u) := k3
  clear hn1 hn2 g3 k3
  by_cases hn : n1 = n2
  · subst hn
    go_enter Try.func15, Try.ntmps15
    go_wp2
    go_loopw [13] (fun iv wr => ∃ i : Nat, i ≤ n1 ∧ iv = .int .i64 i ∧ Hid (l1.take i = l2.take i) ∧ Hid (∃ m, wr = w.drewN m)) (fun iv _ => n1 - (intOf iv).toNat)
    case atStart => exact ⟨0, by omega, rfl, rfl, 0, rfl⟩
    case round =>
      obtain ⟨i, hi, rfl, HT, HB⟩ := hrel
      obtain ⟨mk, rfl⟩ := HB.out
      have HB2 : Hid (Below w.heap.size w (w.drewN mk)) := below_drewN (Below.refl _ _) _
      by_cases hlt : i < n1
      · have i1 : i < l1.length := by rw [N1.out]; exact hlt
        have i2 : i < l2.length := by rw [N2.out]; exact hlt
        obtain ⟨b1, o1, rfl, hc1⟩ : ∃ b off, a1 = some ⟨b, off, none⟩ ∧ ∀ j u, (l1.map (Value.int .i64))[j]? = some u → w.cell? ⟨b, off + j, none⟩ = some u := by
          rcases C1.out with h | h
          · omega
          · exact h
        obtain ⟨b2, o2, rfl, hc2⟩ : ∃ b off, a2 = some ⟨b, off, none⟩ ∧ ∀ j u, (l2.map (Value.int .i64))[j]? = some u → w.cell? ⟨b, off + j, none⟩ = some u := by
          rcases C2.out with h | h
          · omega
          · exact h
        have x1 := hc1 i _ (map_z_at l1 i i1)
        have x2 := hc2 i _ (map_z_at l2 i i2)
        have y1 := (HB2.out.cell (cell_block_lt x1)).trans x1
        have y2 := (HB2.out.cell (cell_block_lt x2)).trans x2
        have HE : Hid (l1[i] = l2[i] → l1.take (i + 1) = l2.take (i + 1)) := by
          intro e
          rw [List.take_succ_eq_append_getElem i1, List.take_succ_eq_append_getElem i2, HT.out, e]
        have HD : Hid (l1[i] ≠ l2[i] → sameI l1 l2 = 0) := fun e => sameI_no (eq_at (by rw [N1.out, N2.out]) i1 e)
        clear hc1 hc2 y1 y2
        generalize l1[i] = z1 at *
        generalize l2[i] = z2 at *
        by_cases hz : z1 = z2
        · have hne : (z1 != z2) = false := by simpa using hz
          have HE2 : Hid (l1.take (i + 1) = l2.take (i + 1)) := HE.out hz
          clear HE HD
          go_wp2_with fail
          go_quiet (fail)
          go_wp2
          go_roundw
          case rel => exact ⟨i + 1, by omega, by go_num, HE2, _, rfl⟩
          case measure => simp [intOf]; omega
        · have hne : (z1 != z2) = true := by simpa using hz
          have HD2 : Hid (sameI l1 l2 = 0) := HD.out hz
          clear HE HD
          go_wp2_with fail
          go_quiet (fail)
          go_wp2
          go_ret
          exact ⟨ret_int HD2.out.symm, _, World.drewN_drewN _ _ _⟩
      · have HE : Hid (sameI l1 l2 = 1) := by
          refine sameI_yes ?_
          have := HT.out
          rw [List.take_of_length_le (by rw [N1.out]; omega), List.take_of_length_le (by rw [N2.out]; omega)] at this
          exact this
        clear HT
        go_wp2
        go_ret
        exact ⟨ret_int HE.out.symm, mk, rfl⟩
  · have HE : Hid (sameI l1 l2 = 0) := sameI_no (fun e => hn (by rw [← N1.out, ← N2.out, e]))
    have hne : ((n1 : Int) != (n2 : Int)) = true := by simp; omega
    go_enter Try.func15, Try.ntmps15
    go_wp2
    go_ret
    exact ⟨ret_int HE.out.symm, 0, rfl⟩


end Go.Proofs.Ytkckbeekehecnaa
