/-
  compose: the statements' same and big; the document's Pick and Blocks.
-/
import Derived.Test.YtkcijbejngnalaaGreatCoC
import Derived.Test.YtkcijbejngnalaaGreatCoB
import Derived.Test.YtkcijbejngnalaaGreatZOut
namespace Go.Proofs.YtkcijbejngnalaaGreat
open Go.RowKit
set_option linter.unusedVariables false

def bigP (N B : Int) : Prop := N > 60 ∨ B > 60 ∨ N < -60

/-- Blocks by their numbers, as they lie. -/
def pkV (vs : List Value) (of : List Int) : List Value := of.map fun i => vs.getD i.toNat (.slice none 0 0)
theorem pkV_length (vs : List Value) (of : List Int) : (pkV vs of).length = of.length := by simp [pkV]
theorem pkV_next {vs : List Value} {of : List Int} {i k : Nat} {v : Value} (hi : i < of.length) (hk : of[i] = (k : Int)) (hv : vs[k]? = some v) : (pkV vs of).take (i + 1) = (pkV vs of).take i ++ [v] := by
  rw [List.take_succ_eq_append_getElem (by rw [pkV_length]; exact hi)]
  congr 2
  simp [pkV, hk, List.getD, hv]
theorem pkV_parts {w : World} {vs : List Value} {ls : List (List UInt8)} {of : List Int} (h : Parts w vs ls) (hok : ∀ i ∈ of, 0 ≤ i ∧ i < (ls.length : Int)) : Parts w (pkV vs of) (pkD ls of) := by
  refine ⟨by rw [pkV_length, pkD_length], fun i v p hv hp => ?_⟩
  unfold pkV at hv
  unfold pkD at hp
  rw [List.getElem?_map] at hv hp
  cases ho : of[i]? with
  | none => rw [ho] at hv; cases hv
  | some z =>
    rw [ho] at hv hp
    have hz := hok z (List.mem_of_getElem? ho)
    have k1 : z.toNat < ls.length := by omega
    have k2 : z.toNat < vs.length := by rw [h.1]; exact k1
    have e1 := Option.some.inj hv
    have e2 := Option.some.inj hp
    simp only [List.getD, List.getElem?_eq_getElem k1, List.getElem?_eq_getElem k2, Option.getD_some] at e1 e2
    rw [← e1, ← e2]
    exact h.2 _ _ _ (List.getElem?_eq_getElem k2) (List.getElem?_eq_getElem k1)
theorem Bs.oneCell {w : World} {v : Value} {l : List UInt8} (h : Bs w v l) : v.oneCell' = true := by
  obtain ⟨-, a, c, rfl, -⟩ := h
  rfl
theorem Parts.oneCell {w : World} {vs : List Value} {ls : List (List UInt8)} (h : Parts w vs ls) : ∀ u ∈ vs, u.oneCell' = true := by
  intro u hu
  obtain ⟨i, hi⟩ := List.mem_iff_getElem?.1 hu
  have k1 : i < ls.length := by have := (List.getElem?_eq_some_iff.1 hi).1; rw [← h.1]; exact this
  exact (h.2 i u _ hi (List.getElem?_eq_getElem k1)).oneCell

set_option maxRecDepth 100000 in
set_option maxHeartbeats 1000000 in
/-- The document's Pick. -/
theorem pick_any (pv ov : Value) (vs : List Value) (ls : List (List UInt8)) (of : List Int) (n : Nat) (w : World) (hp : Sl 1 w pv vs.length vs) (hps : Parts w vs ls) (ho : Zs w ov of) (hok : ∀ i ∈ of, 0 ≤ i ∧ i < (ls.length : Int)) (hn : of.length = n) (hn2 : n ≤ 100000000) :
    Calls Tryz.prog 31 #[pv, ov] w fun e w' => ∃ a c, e = .returned (.slice a n c) ∧ Sl 1 w' (.slice a n c) (pkV vs of).length (pkV vs of) ∧ Parts w' (pkV vs of) (pkD ls of) ∧ Below w.heap.size w w' := by
  have HP : Hid (Sl 1 w pv vs.length vs) := hp
  obtain ⟨-, ao, pc, rfl, hp2, hp3, -, -⟩ := hp
  have HO : Hid (Zs w ov of) := ho
  obtain ⟨-, bo, oc, rfl, ho2, ho3, -, -⟩ := ho
  unfold maxLen at hp3 ho3
  have HPS : Hid (Parts w vs ls) := hps
  have HK : Hid (∀ i ∈ of, 0 ≤ i ∧ i < (ls.length : Int)) := hok
  obtain ⟨M, hM⟩ : ∃ M, vs.length = M := ⟨_, rfl⟩
  have HM : Hid (vs.length = M) := hM
  have Hm : Hid (of.length = n) := hn
  have HL : Hid (ls.length = M) := by have := hps.1; unfold Hid; omega
  rw [hM] at HP hp2 ⊢
  rw [hn] at ho2 ⊢
  clear hM hn hps hok
  go_enter Tryz.func31, Tryz.ntmps31
  go_wp2
  go_loopw [5, 6] (fun rv iv wr => ∃ (i c : Nat) (a : Option Addr), i ≤ n ∧ rv = .slice a i c ∧ iv = .int .i64 i ∧ Hid (wr.ownsRow w.heap.size 25 1 (.slice a i c) i ((pkV vs of).take i)) ∧ Hid (Below w.heap.size w wr)) (fun _ iv _ => n - (intOf iv).toNat)
  case atStart => exact ⟨0, 0, _, by omega, rfl, rfl, World.ownsRow_lit w #[] 0 (Nat.le_refl _) (by simp [maxLen]) rfl, below_alloc _ _⟩
  case round =>
    obtain ⟨i, c, a, hi, rfl, rfl, O, BB⟩ := hrel
    by_cases hlt : i < n
    · have hio : i < of.length := by rw [Hm.out]; exact hlt
      have hz := HK.out of[i] (List.getElem_mem hio)
      rw [HL.out] at hz
      obtain ⟨k, hk⟩ : ∃ k : Nat, of[i] = (k : Int) := ⟨of[i].toNat, by omega⟩
      have hkM : k < M := by omega
      have hkv : k < vs.length := by rw [HM.out]; exact hkM
      have NX : Hid ((pkV vs of).take (i + 1) = (pkV vs of).take i ++ [vs[k]]) := pkV_next hio hk (List.getElem?_eq_getElem hkv)
      have HO2 : Zs wr (.slice bo n oc) of := by have := HO.out.below BB.out; rw [Hm.out] at this; exact this
      have ci : ∃ b off, bo = some ⟨b, off, none⟩ ∧ wr.cell? ⟨b, off + i, none⟩ = some (.int .i64 (k : Int)) := by
        obtain ⟨_, a', c', hv, _, _, _, h5⟩ := HO2
        injection hv with e1 e2 e3
        subst e1
        rcases h5 with h0 | ⟨b, off, e, hc⟩
        · omega
        · refine ⟨b, off, e, hc i _ ?_⟩
          rw [map_z_at of i hio, hk]
      have ck : ∃ b off, ao = some ⟨b, off, none⟩ ∧ wr.cell? ⟨b, off + k, none⟩ = some vs[k] := by
        have hpw : Sl 1 wr (.slice ao M pc) M vs := HP.out.below BB.out
        obtain ⟨_, a', c', hv, _, _, _, h5⟩ := hpw
        injection hv with e1 e2 e3
        subst e1
        rcases h5 with h0 | ⟨b, off, e, hc⟩
        · omega
        · exact ⟨b, off, e, hc k _ (List.getElem?_eq_getElem hkv)⟩
      obtain ⟨b, off, rfl, ci⟩ := ci
      obtain ⟨b2, off2, rfl, ck⟩ := ck
      have V1 : ∃ va vn vc, vs[k] = .slice va vn vc := by
        obtain ⟨-, va, vc, hv, -⟩ := HPS.out.2 k _ _ (List.getElem?_eq_getElem hkv) (List.getElem?_eq_getElem (show k < ls.length by rw [HL.out]; exact hkM))
        exact ⟨va, _, vc, hv⟩
      generalize vs[k] = v at *
      obtain ⟨va, vn, vc, rfl⟩ := V1
      clear hk HO2 hio hz hkv
      go_wp2_with (at_builtin; refine wpList_addS _ rfl (.tmp 14) (.tmp 22) rfl w.heap.size (.slice a i c) i _ rfl (owns_below O.out (below_alloc _ _)) _ (.slice va vn vc) rfl rfl (alloc_one _ _) (by omega) (by have := BB.out.size; simp; omega) ?_; intro a4 c4 w4 ho4 hg4 hnc4 hcm4)
      have OA : w.heap.size ≤ (wr.alloc (.cells #[.slice va vn vc] 25)).heap.size := by have := BB.out.size; simp; omega
      have B4 : Hid (Below w.heap.size w w4) := below_ownR (BB.out.alloc BB.out.size _) (owns_below O.out (below_alloc _ _)) (Nat.le_refl _) OA hg4
      have O4 : Hid (w4.ownsRow w.heap.size 25 1 (.slice a4 (i + 1) c4) (i + 1) ((pkV vs of).take (i + 1))) := by unfold Hid; rw [NX.out]; exact ho4
      clear ho4 hg4 hnc4 hcm4 OA O BB NX ci ck
      go_roundw
      case rel => exact ⟨i + 1, c4, a4, by omega, rfl, by go_num, O4, B4⟩
      case measure => simp [intOf]; omega
    · obtain rfl : i = n := by omega
      have R : Hid (Sl 1 wr (.slice a i c) (pkV vs of).length (pkV vs of) ∧ Parts wr (pkV vs of) (pkD ls of) ∧ Below w.heap.size w wr) := by
        have h1 := owned_sl O.out
        rw [List.take_of_length_le (by rw [pkV_length, Hm.out]; exact Nat.le_refl _)] at h1
        exact ⟨by rw [pkV_length, Hm.out]; exact h1, pkV_parts (HPS.out.below BB.out) HK.out, BB.out⟩
      clear O BB
      go_wp2
      go_ret
      exact ⟨a, c, rfl, R.out⟩

end Go.Proofs.YtkcijbejngnalaaGreat
