/-
  The document's own answer of the first layer: what is sealed.
-/
import Derived.Test.YtecohgmllmddhaaCRefA
namespace Go.Proofs.Ytecohgmllmddhaa
open Go.RowKit
set_option linter.unusedVariables false

theorem four_oneCell {k1 k2 k3 k4 : IntKind} {a b c d : Int} : ∀ u ∈ [Value.int k1 a, .int k2 b, .int k3 c, .int k4 d], u.oneCell' = true := by
  intro u hu
  simp at hu
  rcases hu with rfl | rfl | rfl | rfl <;> rfl

theorem four_be (c : Nat) (h : (c : Int) < 4294967296) : [Value.int .u8 ((c : Int) / 16777216), .int .u8 ((c : Int) / 65536 % 256), .int .u8 ((c : Int) / 256 % 256), .int .u8 ((c : Int) % 256)] = (be4 c).map bv := by
  rw [← be4_cells]
  unfold be4v
  rw [show (c : Int) / 16777216 = (c : Int) / 16777216 % 256 by omega]
  simp

set_option maxRecDepth 100000 in
set_option maxHeartbeats 1000000 in
theorem rseal_own (v : Value) (l : List UInt8) (w : World) (hl : Bs w v l) (hl2 : l.length ≤ 1000000) :
    Calls Try.prog 39 #[v] w fun e w' => ∃ a c, e = .returned (.slice a (l.length + 4) c) ∧ w'.ownsRow w.heap.size 5 1 (.slice a (l.length + 4) c) (l.length + 4) ((l ++ be4 (MathA.sum l)).map bv) ∧ Below w.heap.size w w' := by
  obtain ⟨i0, hi, hz0, hz1, hz2⟩ := info_parts Try.info5
  have H0 : Hid (Bs w v l) := hl
  obtain ⟨_, ao, cap, rfl, hnc, hcm, _, _⟩ := hl
  unfold maxLen at hcm
  have hs32 := MathA.sum_lt l
  obtain ⟨c, hc⟩ : ∃ c, MathA.sum l = c := ⟨_, rfl⟩
  rw [hc] at hs32
  have Hc : Hid (MathA.sum l = c) := hc
  have HC : Hid (Calls Try.prog 55 #[.slice ao l.length cap] w fun e w' => e = .returned (.int .u32 c) ∧ w' = w) := by rw [← hc]; exact rsum_any _ l w H0.out hl2
  have hcI : (c : Int) < 4294967296 := by omega
  clear hs32 hc
  have hO1 : (w.alloc (.cells #[] 5)).ownsRow w.heap.size 5 1 (.slice (some ⟨w.heap.size, 0, none⟩) 0 0) 0 [] := World.ownsRow_lit w #[] 0 (Nat.le_refl _) (by simp [maxLen]) rfl
  have HB1 : Hid (Bs (w.alloc (.cells #[] 5)) (.slice ao l.length cap) l) := H0.out.below ((Below.refl _ _).alloc (Nat.le_refl _) _)
  go_enter Try.func39, Try.ntmps39
  go_wp2_with fail
  refine HC.out.mono ?_
  rintro e w' ⟨rfl, rfl⟩
  go_wp2_with (first
    | (at_builtin; refine wpList_app _ rfl (.tmp 6) (.tmp 7) 27 rfl w'.heap.size 5 i0 (.int .u8 0) 1 1 Try.underlying27 hi hz0 hz1 hz2 rfl (by decide) (.slice (some ⟨w'.heap.size, 0, none⟩) 0 0) 0 [] rfl hO1 (.slice ao l.length cap) l.length (l.map bv) rfl HB1.out (bv_oneCell _) (by unfold maxLen; omega) (by omega) (by simp) ?_; intro a1 c1 w1 ho1 hg1 hat1 hne1 hnc1 hcm1; simp only [Nat.zero_add, List.nil_append] at ho1; have X1 : Hid (Below w'.heap.size w' w1) := ((Below.refl _ _).alloc (Nat.le_refl _) _).grown hg1 (by simp) (fun k hk => (hO1.lt k hk).1); clear hg1 hat1 hne1 hO1 HB1; have O1 : Hid (w1.ownsRow w'.heap.size 5 1 (.slice a1 l.length c1) l.length (l.map bv)) := ho1; clear ho1)
    | (at_builtin; go_loud (refine wpList_app _ rfl (.tmp 8) (.tmp 23) 27 rfl w'.heap.size 5 i0 (.int .u8 0) 1 1 Try.underlying27 hi hz0 hz1 hz2 rfl (by decide) (.slice a1 l.length c1) l.length (l.map bv) rfl (O1.out.alloc _) _ 4 [_, _, _, _] rfl (Sl.lit _ [_, _, _, _] _ _ _ (by simp) rfl (by simp)) four_oneCell (by unfold maxLen; omega) (by omega) (by have := X1.out.size; simp; omega) ?_; intro a2 c2 w2 ho2 hg2 hat2 hne2 hnc2 hcm2)))
  go_ret
  refine ⟨a2, c2, rfl, ?_, ?_⟩
  · rw [four_be c hcI, ← List.map_append] at ho2
    rw [Hc.out]
    exact ho2
  · exact (X1.out.alloc X1.out.size _).grown hg2 (by have := X1.out.size; simp; omega) (fun j hj => (O1.out.lt j hj).1)

theorem rseal_any (v : Value) (l : List UInt8) (w : World) (hl : Bs w v l) (hl2 : l.length ≤ 1000000) :
    Calls Try.prog 39 #[v] w fun e w' => ∃ a c, e = .returned (.slice a (l.length + 4) c) ∧ Bs w' (.slice a (l.length + 4) c) (l ++ be4 (MathA.sum l)) ∧ Below w.heap.size w w' := by
  refine (rseal_own v l w hl hl2).mono ?_
  rintro e w' ⟨a, c, rfl, ho, hb⟩
  refine ⟨a, c, rfl, ?_, hb⟩
  have h := owned_sl ho
  unfold Bs
  rw [List.length_append, show (be4 (MathA.sum l)).length = 4 from rfl]
  exact h

/-- Bytes are right when they are others with their sum behind them. -/
theorem right_spec (l : List UInt8) (h4 : 4 ≤ l.length) : rightB l = (l.take (l.length - 4) ++ be4 (MathA.sum (l.take (l.length - 4))) == l) := by
  by_cases e : l.take (l.length - 4) ++ be4 (MathA.sum (l.take (l.length - 4))) = l
  · have h := MathA.right_sealed (l.take (l.length - 4))
    rw [e] at h
    rw [h, e]
    simp
  · have hf : (l.take (l.length - 4) ++ be4 (MathA.sum (l.take (l.length - 4))) == l) = false := by simpa using e
    rw [hf]
    cases hr : rightB l with
    | false => rfl
    | true =>
      exfalso
      unfold rightB at hr
      simp only [Bool.and_eq_true, beq_iff_eq] at hr
      apply e
      rw [← hr.2, MathA.be4_num32 _ (by simp; omega), List.take_append_drop]

end Go.Proofs.Ytecohgmllmddhaa
