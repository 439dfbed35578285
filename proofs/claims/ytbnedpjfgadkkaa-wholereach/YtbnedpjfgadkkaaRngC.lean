/-
  rng: Below.
-/
import Derived.Test.YtbnedpjfgadkkaaRngB
namespace Go.Proofs.Ytbnedpjfgadkkaa
open Go.RowKit
set_option linter.unusedVariables false

/-- Numbers are drawn until one is fair: at most one more than are told. -/
def fairD (few : Nat) : Nat → Nat → Nat × Nat
  | 0, s => (addS s, mix (addS s))
  | k + 1, s => if mix (addS s) < few then fairD few k (addS s) else (addS s, mix (addS s))

def fewOf (m : Nat) : Nat := 18446744073709551616 % m

theorem fairD_zero (few s : Nat) : fairD few 0 s = (addS s, mix (addS s)) := rfl
theorem fairD_more (few k s : Nat) (h : mix (addS s) < few) : fairD few (k + 1) s = fairD few k (addS s) := by rw [fairD]; exact if_pos h
theorem fairD_done (few k s : Nat) (h : ¬ mix (addS s) < few) : fairD few k s = (addS s, mix (addS s)) := by
  cases k with
  | zero => rfl
  | succ k => rw [fairD]; exact if_neg h

theorem fairD_lt (few k s : Nat) : (fairD few k s).1 < 18446744073709551616 ∧ (fairD few k s).2 < 18446744073709551616 := by
  induction k generalizing s with
  | zero => exact ⟨addS_lt s, mix_lt⟩
  | succ k ih =>
    by_cases h : mix (addS s) < few
    · rw [fairD_more _ _ _ h]; exact ih _
    · rw [fairD_done _ _ _ h]; exact ⟨addS_lt s, mix_lt⟩

theorem few_neg {m : Nat} (h1 : 1 ≤ m) (h2 : m < 18446744073709551616) : (18446744073709551616 - m) % m = fewOf m := by
  unfold fewOf
  have := Nat.add_mod_right (18446744073709551616 - m) m
  rw [← this]
  congr 1
  omega

theorem few_ref {m : Nat} (h1 : 1 ≤ m) : (18446744073709551615 % m + 1) % m = fewOf m := by
  unfold fewOf
  rw [Nat.mod_add_mod]

/-- Below: the state behind it, and the number. -/
def belowD (s : Nat) (n : Int) : Nat × Int := if n < 1 then (s, 0) else ((fairD (fewOf n.toNat) 15 s).1, (((fairD (fewOf n.toNat) 15 s).2 % n.toNat : Nat) : Int))

theorem neg_rem {m : Nat} (h1 : 1 ≤ m) (h2 : m < 18446744073709551616) : IntKind.u64.wrap (-(m : Int)) = ((18446744073709551616 - m : Nat) : Int) := by
  rw [IntKind.wrap_u64]
  omega

/-- Behind k draws the state is s', and what is drawn last is Mix of it. -/
def FairT (few s k s' : Nat) : Prop := 1 ≤ k ∧ fairD few 15 s = if mix s' < few ∧ k < 16 then fairD few (15 - k) s' else (s', mix s')

theorem fairT_start (few s : Nat) : FairT few s 1 (addS s) := by
  refine ⟨by omega, ?_⟩
  by_cases h : mix (addS s) < few
  · rw [if_pos ⟨h, by omega⟩, fairD_more few 14 s h]
  · rw [if_neg (fun x => h x.1), fairD_done _ _ _ h]

theorem FairT.next {few s k s' : Nat} (h : FairT few s k s') (hd : mix s' < few) (hk : k < 16) : FairT few s (k + 1) (addS s') := by
  obtain ⟨h1, h2⟩ := h
  refine ⟨by omega, ?_⟩
  rw [if_pos ⟨hd, hk⟩] at h2
  rw [h2]
  by_cases h15 : k = 15
  · subst h15
    rw [if_neg (fun x => by omega), fairD_zero]
  · obtain ⟨j, hj⟩ : ∃ j, 15 - k = j + 1 := ⟨14 - k, by omega⟩
    have hj2 : 15 - (k + 1) = j := by omega
    rw [hj, hj2]
    by_cases h : mix (addS s') < few
    · rw [if_pos ⟨h, by omega⟩, fairD_more _ _ _ h]
    · rw [if_neg (fun x => h x.1), fairD_done _ _ _ h]

theorem FairT.done {few s k s' : Nat} (h : FairT few s k s') (hd : ¬ (mix s' < few ∧ k < 16)) : fairD few 15 s = (s', mix s') := by
  rw [h.2, if_neg hd]

set_option maxRecDepth 100000 in
set_option maxHeartbeats 1000000 in
/-- fair. -/
theorem fair_any (r s m : Nat) (w : World) (h : IsRand w r s) (h1 : 1 ≤ m) (h2 : m < 9223372036854775808) :
    Calls Try.prog 52 #[.pointer (some ⟨r, 0, none⟩), .int .u64 m] w fun e w' => e = .returned (.int .u64 ((fairD (fewOf m) 15 s).2 : Nat)) ∧ IsRand w' r (fairD (fewOf m) 15 s).1 ∧ KeepsBut (fun k => k = r) w w' ∧ w'.heap.size = w.heap.size := by
  have a1 := neg_rem h1 (by omega)
  have a2 := few_neg h1 (by omega)
  have HF : Hid (fewOf m < 9223372036854775808) := by
    have := Nat.mod_lt 18446744073709551616 (show 0 < m by omega)
    show 18446744073709551616 % m < _
    omega
  obtain ⟨M, hM⟩ : ∃ M, 18446744073709551616 - m = M := ⟨_, rfl⟩
  have a3 : (M : Int) % (m : Int) = (fewOf m : Nat) := by rw [← a2, hM]; simp
  rw [hM] at a1
  clear hM a2
  have HR : Hid (IsRand w r s) := h
  clear h
  generalize fewOf m = few at *
  go_enter Try.func52, Try.ntmps52
  go_wp2_with fail
  refine (rnd_next r s _ HR.out).mono ?_
  rintro e w1 ⟨rfl, hr1, hk1, hz1⟩
  have H1 : Hid (IsRand w1 r (addS s) ∧ KeepsBut (fun k => k = r) w w1 ∧ w1.heap.size = w.heap.size) := ⟨hr1, hk1, hz1⟩
  clear hr1 hk1 hz1
  have HT0 : Hid (FairT few s 1 (addS s)) := fairT_start few s
  generalize addS s = t1 at *
  have hl1 : Hid (mix t1 < 18446744073709551616) := mix_lt
  go_wp2
  go_loopw [6, 7] (fun d t wr => ∃ (s' k : Nat), t = .int .i64 k ∧ k ≤ 16 ∧ d = .int .u64 (mix s' : Nat) ∧ Hid (FairT few s k s') ∧ Hid (IsRand wr r s' ∧ KeepsBut (fun k => k = r) w wr ∧ wr.heap.size = w.heap.size)) (fun _ t _ => 16 - (intOf t).toNat)
  case atStart => exact ⟨t1, 1, rfl, by omega, rfl, HT0, H1⟩
  case round =>
    obtain ⟨s', k, rfl, hk, rfl, HT, HW⟩ := hrel
    by_cases hd : mix s' < few
    · have hd' : (mix s' : Int) < (few : Int) := by omega
      by_cases hk6 : k < 16
      · have HT2 : Hid (FairT few s (k + 1) (addS s')) := HT.out.next hd hk6
        clear HT HT0 H1
        go_wp2_with fail
        refine (rnd_next r s' _ HW.out.1).mono ?_
        rintro e w2 ⟨rfl, hr2, hk2, hz2⟩
        have H2 : Hid (IsRand w2 r (addS s') ∧ KeepsBut (fun k => k = r) w w2 ∧ w2.heap.size = w.heap.size) := ⟨hr2, HW.out.2.1.trans hk2, hz2.trans HW.out.2.2⟩
        clear hr2 hk2 hz2 HW
        generalize addS s' = t2 at *
        go_wp2
        go_roundw
        case rel => exact ⟨t2, k + 1, by go_num, by omega, rfl, HT2, H2⟩
        case measure => simp [intOf]; omega
      · have HE : Hid (fairD few 15 s = (s', mix s')) := HT.out.done (fun h => hk6 h.2)
        clear HT HT0 H1
        go_wp2
        go_ret
        rw [HE.out]
        exact ⟨rfl, HW.out⟩
    · have hd' : ¬ (mix s' : Int) < (few : Int) := by omega
      have HE : Hid (fairD few 15 s = (s', mix s')) := HT.out.done (fun h => hd h.1)
      clear HT HT0 H1
      go_wp2
      go_ret
      rw [HE.out]
      exact ⟨rfl, HW.out⟩

theorem belowD_none {s : Nat} {n : Int} (h : n < 1) : belowD s n = (s, 0) := if_pos h
theorem belowD_some {s : Nat} {n : Int} (h : ¬ n < 1) : belowD s n = ((fairD (fewOf n.toNat) 15 s).1, (((fairD (fewOf n.toNat) 15 s).2 % n.toNat : Nat) : Int)) := if_neg h

set_option maxRecDepth 100000 in
set_option maxHeartbeats 1000000 in
/-- BELOW. -/
theorem rbelow_any (r s : Nat) (n : Int) (w : World) (h : IsRand w r s) (hn : n < 9223372036854775808) :
    Calls Try.prog 42 #[.pointer (some ⟨r, 0, none⟩), .int .i64 n] w fun e w' => e = .returned (.int .i64 (belowD s n).2) ∧ IsRand w' r (belowD s n).1 ∧ KeepsBut (fun k => k = r) w w' ∧ w'.heap.size = w.heap.size := by
  by_cases h1 : n < 1
  · rw [belowD_none h1]
    have HR : Hid (IsRand w r s) := h
    clear h
    go_enter Try.func42, Try.ntmps42
    go_wp2
    go_ret
    exact ⟨rfl, HR.out, KeepsBut.refl _ _, rfl⟩
  · rw [belowD_some h1]
    obtain ⟨m, rfl⟩ : ∃ m : Nat, n = m := ⟨n.toNat, by omega⟩
    have hm : 1 ≤ m := by omega
    have hm2 : m < 9223372036854775808 := by omega
    have HC : Hid (∀ W, IsRand W r s → Calls Try.prog 52 #[.pointer (some ⟨r, 0, none⟩), .int .u64 m] W fun e w' => e = .returned (.int .u64 ((fairD (fewOf m) 15 s).2 : Nat)) ∧ IsRand w' r (fairD (fewOf m) 15 s).1 ∧ KeepsBut (fun k => k = r) W w' ∧ w'.heap.size = W.heap.size) := fun W hW => fair_any r s m W hW hm hm2
    rw [show ((m : Int)).toNat = m from Int.toNat_natCast m]
    have HR : Hid (IsRand w r s) := h
    clear h
    generalize fairD (fewOf m) 15 s = x at *
    obtain ⟨x1, x2⟩ := x
    have hlt : x2 % m < m := Nat.mod_lt _ (by omega)
    have a1 : (x2 : Int) % (m : Int) = ((x2 % m : Nat) : Int) := by simp
    generalize x2 % m = y at *
    go_enter Try.func42, Try.ntmps42
    go_wp2_with fail
    refine (HC.out _ HR.out).mono ?_
    rintro e w1 ⟨rfl, hr1, hk1, hz1⟩
    have H1 : Hid (IsRand w1 r x1 ∧ KeepsBut (fun k => k = r) w w1 ∧ w1.heap.size = w.heap.size) := ⟨hr1, hk1, hz1⟩
    clear hr1 hk1 hz1
    go_wp2
    go_ret
    exact ⟨rfl, H1.out⟩

/-- Behind k rounds of the document's loop: the state is s', what was drawn last x. -/
def FairR (few s k s' x : Nat) : Prop := (k ≤ 15 ∧ fairD few 15 s = fairD few (15 - k) s') ∨ (k = 16 ∧ fairD few 15 s = (s', x))

theorem fairR_start (few s : Nat) : FairR few s 0 s 0 := .inl ⟨by omega, by rw [Nat.sub_zero]⟩

theorem FairR.next {few s k s' x : Nat} (h : FairR few s k s' x) (hk : k < 16) (hd : mix (addS s') < few) : FairR few s (k + 1) (addS s') (mix (addS s')) := by
  rcases h with ⟨h1, h2⟩ | ⟨h1, h2⟩
  · by_cases h15 : k = 15
    · subst h15
      exact .inr ⟨rfl, h2⟩
    · obtain ⟨j, hj⟩ : ∃ j, 15 - k = j + 1 := ⟨14 - k, by omega⟩
      have hj2 : 15 - (k + 1) = j := by omega
      refine .inl ⟨by omega, ?_⟩
      rw [h2, hj, hj2, fairD_more _ _ _ hd]
  · omega

theorem FairR.done {few s k s' x : Nat} (h : FairR few s k s' x) (hk : k < 16) (hd : ¬ mix (addS s') < few) : fairD few 15 s = (addS s', mix (addS s')) := by
  rcases h with ⟨h1, h2⟩ | ⟨h1, h2⟩
  · rw [h2, fairD_done _ _ _ hd]
  · omega

theorem FairR.last {few s k s' x : Nat} (h : FairR few s k s' x) (hk : ¬ k < 16) : fairD few 15 s = (s', x) := by
  rcases h with ⟨h1, h2⟩ | ⟨h1, h2⟩
  · omega
  · exact h2

theorem ret_two {k k' : IntKind} {a b c d : Int} (h1 : a = b) (h2 : c = d) : Ending.returned (.tuple #[.int k a, .int k' c]) = .returned (.tuple #[.int k b, .int k' d]) := by rw [h1, h2]

end Go.Proofs.Ytbnedpjfgadkkaa
