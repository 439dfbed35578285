/-
  inner: a check block's blocks, named; what the statements' speaks says.
-/
import Derived.Test.YtbnedpjfgadkkaaInB
namespace Go.Proofs.Ytbnedpjfgadkkaa
open Go.RowKit
set_option linter.unusedVariables false

/-- The blocks of a check block: k of them, l. -/
def Chk (F E S A id k : Nat) (l : List Int) : Prop := ∃ s0 s1 u d t' : Nat, seedTo 0 [S, 2, id] = s0 ∧ addS s0 = s1 ∧ mix s1 = u ∧ DegAt F E u d ∧ howMany A d = k ∧ someD s1 A d = (t', l)

theorem chk_is (E S A id : Nat) {F : Nat} (hF : 2 ≤ F) : ∃ k l, Chk F E S A id k l := by
  obtain ⟨s0, h0⟩ : ∃ s0, seedTo 0 [S, 2, id] = s0 := ⟨_, rfl⟩
  obtain ⟨s1, h1⟩ : ∃ s1, addS s0 = s1 := ⟨_, rfl⟩
  obtain ⟨u, h2⟩ : ∃ u, mix s1 = u := ⟨_, rfl⟩
  obtain ⟨d, hd⟩ := deg_is (E := E) u hF
  obtain ⟨p, hp⟩ : ∃ p, someD s1 A d = p := ⟨_, rfl⟩
  obtain ⟨t', l⟩ := p
  exact ⟨howMany A d, l, s0, s1, u, d, t', h0, h1, h2, hd, rfl, hp⟩

theorem iblocks_chk {F E S A id k : Nat} {l : List Int} (hc : Chk F E S A id k l) (a t : Nat) (w : World) (h : IsSrc w a t F E S A) (hm : MayD F E) (hA : A ≤ 16777216) (hS : S < 18446744073709551616) (hid : id < 18446744073709551616) :
    Calls Try.prog 15 #[.pointer (some ⟨a, 0, none⟩), .int .u64 id] w fun e w' => ∃ b c, e = .returned (.slice b k c) ∧ OwnZ w.heap.size w' (.slice b k c) k l ∧ Below w.heap.size w w' := by
  obtain ⟨s0, s1, u, d, t', h0, h1, h2, hd, hk, hT⟩ := hc
  exact iblocks_any a t F E S A id d k s0 s1 u w h hm hA hS hid h0 h1 h2 hd hk t' l hT

theorem rblocks_chk {F E S A id k : Nat} {l : List Int} (hc : Chk F E S A id k l) (N B Q : Int) (w : World) (h : May N B Q (E : Nat) (F : Nat)) (hm : MayD F E) (hA : N + aux N Q (E : Nat) = (A : Int)) (hS : S < 18446744073709551616) (hid : id < 18446744073709551616) :
    Calls Try.prog 16 #[.agg #[.int .i64 N, .int .i64 B, .int .i64 Q, .int .i64 (E : Nat), .int .i64 (F : Nat)], .int .u64 S, .int .u64 id] w fun e w' => ∃ b c, e = .returned (.slice b k c) ∧ OwnZ w.heap.size w' (.slice b k c) k l ∧ Below w.heap.size w w' := by
  obtain ⟨s0, s1, u, d, t', h0, h1, h2, hd, hk, hT⟩ := hc
  exact rblocks_any N B Q E F S A id d k s0 s1 u w h hm hA hS hid h0 h1 h2 hd hk t' l hT

theorem Chk.len {F E S A id k : Nat} {l : List Int} (hc : Chk F E S A id k l) : l.length = k := by
  obtain ⟨s0, s1, u, d, t', -, -, -, -, hk, hT⟩ := hc
  have := someD_length s1 A d
  rw [hT, hk] at this
  exact this
theorem Chk.mem {F E S A id k : Nat} {l : List Int} (hc : Chk F E S A id k l) {x : Int} (hx : x ∈ l) : 0 ≤ x ∧ x < A := by
  obtain ⟨s0, s1, u, d, t', -, -, -, -, hk, hT⟩ := hc
  exact someD_mem (s := s1) (m := d) (by rw [hT]; exact hx)
theorem Chk.rises {F E S A id k : Nat} {l : List Int} (hc : Chk F E S A id k l) : l.Pairwise (· < ·) := by
  obtain ⟨s0, s1, u, d, t', -, -, -, -, hk, hT⟩ := hc
  have := someD_rises s1 A d
  rw [hT] at this
  exact this
theorem Chk.many {F E S A id k : Nat} {l : List Int} (hc : Chk F E S A id k l) (hA : 1 ≤ A) : 1 ≤ k ∧ k ≤ F ∧ k ≤ A := by
  obtain ⟨s0, s1, u, d, t', -, -, -, hd, hk, hT⟩ := hc
  have h1 := hd.lo
  have h2 := hd.hi
  unfold howMany at hk
  split at hk <;> omega

theorem all_nat {N B Q E F : Int} (h : May N B Q E F) : ∃ A : Nat, N + aux N Q E = (A : Int) ∧ 2 ≤ A ∧ A ≤ 16777216 := by
  obtain ⟨h1, h2, h3, h4, h5, h6⟩ := h
  have r := aux_range h1 h3 h4
  exact ⟨(N + aux N Q E).toNat, by omega, by omega, by omega⟩

theorem may_112 : May 1 1 1 ((1000 : Nat) : Int) ((2 : Nat) : Int) := ⟨by omega, by omega, by omega, by omega, by omega, by decide⟩
theorem mayD_21000 : MayD 2 1000 := ⟨by decide, by decide, by decide, by decide, by decide⟩
theorem all_112 : (1 : Int) + aux 1 1 ((1000 : Nat) : Int) = ((2 : Nat) : Int) := by decide

theorem inew_112 (w : World) : Calls Try.prog 12 #[.agg #[.int .i64 1, .int .i64 1, .int .i64 1, .int .i64 1000, .int .i64 2], .int .u64 7] w fun e w' => ∃ a t, e = .returned (.tuple #[.pointer (some ⟨a, 0, none⟩), .int .i64 0]) ∧ w.heap.size ≤ a ∧ IsSrc w' a t 2 1000 7 2 ∧ Below w.heap.size w w' := inew_yes 1 1 1 1000 2 7 2 w may_112 all_112

set_option maxRecDepth 100000 in
set_option maxHeartbeats 1000000 in
theorem speaks11_any (w : World) : Calls Try.prog 11 #[] w fun e w' => e = .returned (.bool true) ∧ Below w.heap.size w w' := by
  obtain ⟨k, l, hc⟩ := chk_is 1000 7 2 3 (F := 2) (by decide)
  have hm := hc.many (by decide)
  have CB : Hid (∀ a t W, IsSrc W a t 2 1000 7 2 → Calls Try.prog 15 #[.pointer (some ⟨a, 0, none⟩), .int .u64 3] W fun e w' => ∃ b c, e = .returned (.slice b k c) ∧ OwnZ W.heap.size w' (.slice b k c) k l ∧ Below W.heap.size W w') := fun a t W h => iblocks_chk hc a t W h mayD_21000 (by decide) (by decide) (by decide)
  clear hc
  go_enter Try.func11, Try.ntmps11
  go_wp2_with fail
  refine (inew_112 _).mono ?_
  rintro e w1 ⟨a, t, rfl, -, hs, hb⟩
  have B1 : Hid (Below w.heap.size w w1) := hb
  have S1 : Hid (IsSrc w1 a t 2 1000 7 2) := hs
  clear hb hs
  go_wp2_with fail
  refine (CB.out a t w1 S1.out).mono ?_
  rintro e w2 ⟨b, c, rfl, -, hb⟩
  have B2 : Hid (Below w.heap.size w w2) := below_on B1.out hb
  clear hb CB S1 B1
  by_cases hk : k = 1
  · subst hk
    go_wp2
    go_ret
    exact ⟨rfl, B2.out⟩
  · obtain rfl : k = 2 := by omega
    go_wp2
    go_ret
    exact ⟨rfl, B2.out⟩

end Go.Proofs.Ytbnedpjfgadkkaa
