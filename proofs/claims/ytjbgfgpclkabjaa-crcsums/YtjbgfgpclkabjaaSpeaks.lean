/-
  The walk of the crc statements' own first look: nine digits.
-/
import Derived.Test.YtjbgfgpclkabjaaSeal
import Derived.Test.YtjbgfgpclkabjaaNew
import Derived.Lib.SlBytesConst
namespace Go.Proofs.Ytjbgfgpclkabjaa
open Go.RowKit
set_option linter.unusedVariables false

theorem tab_at (i : Nat) (h : i < 256) : (tab 256)[i]? = some (.int .u32 (rem8 i)) := by
  simp [tab, h]

/-- NEW: a new table; nothing old is turned. -/
theorem new_c (w : World) : Calls Try.prog 15 #[] w fun e w' => e = .returned (.pointer (some ⟨w.heap.size, 0, none⟩)) ∧ IsTab w' w.heap.size ∧ Below w.heap.size w w' ∧ w'.heap.size = w.heap.size + 1 := by
  refine (new_any w).mono ?_
  rintro e w' ⟨rfl, n, rfl⟩
  refine ⟨rfl, ?_, below_drewN ((Below.refl _ _).alloc (Nat.le_refl _) _) n, by simp⟩
  intro i hi
  rw [World.cell?_drewN, World.cell?_alloc_new]
  exact tab_at i hi

theorem conv_const (w : World) (C : Array Value) (n c b : Nat) (hb : b = w.heap.size) :
    (convert 22 22 (.slice (some ⟨b, 0, none⟩) n c)).run Try.prog (w.alloc (.cells C 5)) = .ok (.slice (some ⟨b, 0, none⟩) n c) (w.alloc (.cells C 5 (C.size, C.size + 1))) := by
  subst hb
  exact Lib.run_convert_bytes_const (P := Try.prog) w 22 5 C n c Try.underlying22 Try.underlying5

/-- A literal's row, as it lies. -/
theorem Bs.lit (w : World) (C : Array Value) (t : TypeId) (fr : Nat × Nat) (l : List UInt8) (b n : Nat) (hb : b = w.heap.size) (hn : n = l.length) (hC : C = (l.map bv).toArray) (hl : l.length ≤ 1000000) :
    Bs (w.alloc (.cells C t fr)) (.slice (some ⟨b, 0, none⟩) n n) l := by
  subst hb; subst hn
  refine ⟨by simp, _, _, rfl, Nat.le_refl _, by unfold maxLen; omega, fun h => by simp at h, .inr ⟨_, _, rfl, ?_⟩⟩
  intro j u hj
  rw [World.cell?_alloc_mark, hC, Nat.zero_add]
  simpa using hj

theorem parts_two {w : World} {v v' : Value} {l l' : List UInt8} (h : Bs w v l) (h' : Bs w v' l') : Parts w [v, v'] [l, l'] := by
  refine ⟨rfl, fun i u p hu hp => ?_⟩
  have hi : i < 2 := by have := (List.getElem?_eq_some_iff.1 hu).1; simpa using this
  match i, hi with
  | 0, _ => simp at hu hp; subst hu; subst hp; exact h
  | 1, _ => simp at hu hp; subst hu; subst hp; exact h'

theorem Sl.lit (w : World) (cs : List Value) (t : TypeId) (b n : Nat) (hb : b = w.heap.size) (hn : n = cs.length) (hl : cs.length ≤ 1000000) :
    Sl 1 (w.alloc (.cells cs.toArray t)) (.slice (some ⟨b, 0, none⟩) n n) cs.length cs := by
  subst hb; subst hn
  refine ⟨by simp, _, _, rfl, Nat.le_refl _, by unfold maxLen; omega, fun h => by simp at h, .inr ⟨_, _, rfl, ?_⟩⟩
  intro j u hj
  rw [World.cell?_alloc_new, Nat.zero_add]
  simpa using hj

theorem sum_digits : MathA.sum [[49, 50, 51, 52, 53], [54, 55, 56, 57]].flatten = 4236843288 := by decide +kernel
theorem right_abc : rightB [97, 98, 99] = false := by decide +kernel
theorem right_sealed_abc : rightB ([97, 98, 99] ++ be4 (MathA.sum [97, 98, 99])) = true := by decide +kernel

set_option maxRecDepth 100000 in
set_option maxHeartbeats 1000000 in
theorem speaks_any (w : World) :
    Calls Try.prog 14 #[] w fun e w' => e = .returned (.bool true) ∧ Below w.heap.size w w' := by
  have kc := conv_const
  go_enter Try.func14, Try.ntmps14
  go_wp2_with fail
  refine (new_c _).mono ?_
  rintro e w1 ⟨rfl, hT, hb1, hsz1⟩
  have H1 : Hid (w1.heap.size = w.heap.size + 1) := hsz1
  have H2 : Hid (Below w.heap.size w w1) := hb1
  have H3 : Hid (IsTab w1 w.heap.size) := hT
  clear hsz1 hb1 hT
  go_wp2_with fail
  refine (sum_any _ _ [_, _] [[49, 50, 51, 52, 53], [54, 55, 56, 57]] _ (H3.out.below ((((Below.refl _ _).alloc (Nat.le_refl _) _).alloc (by simp) _).alloc (by simp; omega) _)) (Sl.lit _ [_, _] _ _ _ (by simp) rfl (by simp)) (parts_two ((Bs.lit w1 _ _ _ _ _ _ rfl rfl rfl (by simp)).below (((Below.refl _ _).alloc (Nat.le_refl _) _).alloc (by simp) _)) ((Bs.lit _ _ _ _ _ _ _ (by simp) rfl rfl (by simp)).below ((Below.refl _ _).alloc (Nat.le_refl _) _)))).mono ?_
  rintro e w2 ⟨rfl, hw2⟩
  have B2 : Hid (Below w.heap.size w w2) := by
    rw [hw2]
    exact H2.out.trans (((((Below.refl _ _).alloc (Nat.le_refl _) _).alloc (by simp) _).alloc (by simp; omega) _).mono H2.out.size)
  have T2 : Hid (IsTab w2 w.heap.size) := by
    rw [hw2]
    exact H3.out.below ((((Below.refl _ _).alloc (Nat.le_refl _) _).alloc (by simp) _).alloc (by simp; omega) _)
  clear hw2 H1 H2 H3
  rw [sum_digits]
  go_wp2_with fail
  refine (sum_any _ _ [] [] _ T2.out ⟨rfl, none, 0, rfl, Nat.le_refl _, by simp [maxLen], fun _ => rfl, .inl rfl⟩ ⟨rfl, fun i v p h => by simp at h⟩).mono ?_
  rintro e w3 ⟨rfl, rfl⟩
  have s0 : MathA.sum ([] : List (List UInt8)).flatten = 0 := by decide +kernel
  rw [s0]
  clear s0
  go_wp2_with fail
  refine (seal_any _ _ [97, 98, 99] _ (T2.out.below ((Below.refl _ _).alloc (Nat.le_refl _) _)) (Bs.lit _ _ _ _ _ _ _ rfl rfl rfl (by simp)) (by simp)).mono ?_
  rintro e w4 ⟨rfl, ho4, hb4⟩
  have B4 : Hid (Below w.heap.size w w4) := (B2.out.alloc B2.out.size _).trans (hb4.mono (by have := B2.out.size; simp; omega))
  have T4 : Hid (IsTab w4 w.heap.size) := (T2.out.below ((Below.refl _ _).alloc (Nat.le_refl _) _)).below hb4
  have S4 : Hid (Bs w4 (.slice (some ⟨w3.heap.size + 1 + 1, 0, none⟩) 7 7) ([97, 98, 99] ++ be4 (MathA.sum [97, 98, 99]))) := by
    have h := owned_sl ho4
    rw [World.size_alloc] at h
    exact h
  clear hb4 ho4
  go_wp2_with fail
  refine (right_any _ _ ([97, 98, 99] ++ be4 (MathA.sum [97, 98, 99])) _ T4.out S4.out).mono ?_
  rintro e w5 ⟨rfl, hb5⟩
  have B5 : Hid (Below w.heap.size w w5) := B4.out.trans (hb5.mono B4.out.size)
  have T5 : Hid (IsTab w5 w.heap.size) := T4.out.below hb5
  clear hb5 S4
  rw [right_sealed_abc]
  go_wp2_with fail
  refine (right_any _ _ [97, 98, 99] _ (T5.out.below ((Below.refl _ _).alloc (Nat.le_refl _) _)) (Bs.lit _ _ _ _ _ _ _ rfl rfl rfl (by simp))).mono ?_
  rintro e w6 ⟨rfl, hb6⟩
  have B6 : Hid (Below w.heap.size w w6) := (B5.out.alloc B5.out.size _).trans (hb6.mono (by have := B5.out.size; simp; omega))
  rw [right_abc]
  go_wp2
  go_ret
  exact ⟨rfl, B6.out⟩

end Go.Proofs.Ytjbgfgpclkabjaa
