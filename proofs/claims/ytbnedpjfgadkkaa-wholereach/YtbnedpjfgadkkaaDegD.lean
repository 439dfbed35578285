/-
  degree: Below, New; the document's Share and Below.
-/
import Derived.Test.YtbnedpjfgadkkaaDegC
import Derived.Test.YtbnedpjfgadkkaaParB
namespace Go.Proofs.Ytbnedpjfgadkkaa
open Go.RowKit
set_option linter.unusedVariables false

set_option maxRecDepth 100000 in
set_option maxHeartbeats 1000000 in
/-- Below: there is none such. -/
theorem dbelow_no (a F E : Nat) (i : Int) (w : World) (h : IsDT w a F E) (hi : i < 1 ∨ (F : Int) ≤ i) :
    Calls Try.prog 41 #[.pointer (some ⟨a, 0, none⟩), .int .i64 i] w fun e w' => e = .returned (.tuple #[.int .u64 0, .bool false]) ∧ Below w.heap.size w w' := by
  have h0 := h.c0
  clear h
  by_cases h1 : i < 1
  · clear hi
    go_enter Try.func41, Try.ntmps41
    go_wp2
    go_ret2
    exact ⟨rfl, Below.refl _ _⟩
  · have h2 : i ≥ (F : Int) := by omega
    clear hi
    go_enter Try.func41, Try.ntmps41
    go_wp2
    go_ret2
    exact ⟨rfl, Below.refl _ _⟩

set_option maxRecDepth 100000 in
set_option maxHeartbeats 1000000 in
/-- Below. -/
theorem dbelow_yes (a F E i : Nat) (w : World) (h : IsDT w a F E) (hm : MayD F E) (h1 : 1 ≤ i) (h2 : i < F) :
    Calls Try.prog 41 #[.pointer (some ⟨a, 0, none⟩), .int .i64 (i : Nat)] w fun e w' => e = .returned (.tuple #[.int .u64 (belowN F E i : Nat), .bool true]) ∧ Below w.heap.size w w' := by
  have h0 := h.c0
  have hs := dshare_any a F E i w h hm h1 h2
  have HS : Hid (Calls Try.prog 50 #[.pointer (some ⟨a, 0, none⟩), .int .i64 (i : Nat)] w fun e w' => e = .returned (.tuple #[.int .u64 (part F E i : Nat), .int .u64 (whole F E i : Nat)]) ∧ Below w.heap.size w w') := hs
  have p1 := part_pos hm h1
  have p2 := part_lt hm h1 h2
  have p3 := (whole_le (i := i) hm (by omega)).1
  have HD : Hid (∀ W, Calls Try.prog 51 #[.int .u64 (part F E i : Nat), .int .u64 0, .int .u64 (whole F E i : Nat)] W fun e w' => ∃ r : Int, e = .returned (.tuple #[.int .u64 (belowN F E i : Nat), .int .u64 r]) ∧ w' = W) := fun W => div64_top _ _ W p1 p2 (by omega)
  clear hs p1 p2 p3 hm h
  generalize belowN F E i = b at *
  generalize part F E i = P at *
  generalize whole F E i = W at *
  have i1 : ¬ (i : Int) < 1 := by omega
  have i2 : ¬ (i : Int) ≥ (F : Int) := by omega
  clear h1 h2
  go_enter Try.func41, Try.ntmps41
  go_wp2_with fail
  refine HS.out.mono ?_
  rintro e w1 ⟨rfl, hb⟩
  have HB : Hid (Below w.heap.size w w1) := hb
  clear hb
  go_wp2_with fail
  refine (HD.out _).mono ?_
  rintro e w2 ⟨r, rfl, rfl⟩
  go_wp2
  go_ret2
  exact ⟨rfl, HB.out⟩

/-- Behind k rounds. -/
def ShareI (n of k out left : Nat) : Prop := n * 2 ^ k = out * of + left ∧ left < of ∧ out < 2 ^ k

theorem shareI_start {n of : Nat} (h : n < of) : ShareI n of 0 0 n := ⟨by simp, h, by decide⟩
theorem ShareI.no {n of k out left : Nat} (h : ShareI n of k out left) (h1 : left * 2 < of) : ShareI n of (k + 1) (out * 2) (left * 2) := by
  obtain ⟨a, b, c⟩ := h
  refine ⟨?_, h1, by rw [Nat.pow_succ]; omega⟩
  rw [Nat.pow_succ, ← Nat.mul_assoc, a, Nat.add_mul, Nat.mul_right_comm]
theorem ShareI.yes {n of k out left : Nat} (h : ShareI n of k out left) (h1 : ¬ left * 2 < of) : ShareI n of (k + 1) (out * 2 + 1) (left * 2 - of) := by
  obtain ⟨a, b, c⟩ := h
  refine ⟨?_, by omega, by rw [Nat.pow_succ]; omega⟩
  rw [Nat.pow_succ, ← Nat.mul_assoc, a, Nat.add_mul, Nat.mul_right_comm, Nat.add_mul, Nat.one_mul, Nat.add_assoc]
  congr 1
  omega
theorem ShareI.done {n of out left : Nat} (h : ShareI n of 64 out left) : share64 n of = out := by
  obtain ⟨a, b, c⟩ := h
  have a' : n * 18446744073709551616 = out * of + left := a
  unfold share64
  rw [a']
  exact Nat.div_eq_of_lt_le (Nat.le_add_right _ _) (by rw [Nat.succ_mul]; exact Nat.add_lt_add_left b _)

theorem pow63 {k : Nat} (h : k < 64) : 2 ^ k ≤ 9223372036854775808 := Nat.pow_le_pow_right (n := 2) (j := 63) (by decide) (by omega)

set_option maxRecDepth 100000 in
set_option maxHeartbeats 1000000 in
/-- The document's Share. -/
theorem rshare_any (n m : Nat) (w : World) (h : n < m) (hm : m ≤ 9223372036854775808) :
    Calls Try.prog 55 #[.int .u64 (n : Nat), .int .u64 (m : Nat)] w fun e w' => e = .returned (.int .u64 (share64 n m : Nat)) ∧ w' = w := by
  obtain ⟨Z, hZ⟩ : ∃ Z, share64 n m = Z := ⟨_, rfl⟩
  rw [hZ]
  have HZ : Hid (share64 n m = Z) := hZ
  have HM : Hid (m ≤ 9223372036854775808) := hm
  have HS : Hid (ShareI n m 0 0 n) := shareI_start h
  clear hZ hm h
  go_enter Try.func55, Try.ntmps55
  go_wp2
  go_loop [5, 6, 7] (fun ov lv i => ∃ (k out left : Nat), i = .int .i64 k ∧ k ≤ 64 ∧ ov = .int .u64 (out : Nat) ∧ lv = .int .u64 (left : Nat) ∧ Hid (ShareI n m k out left)) (fun _ _ i => 64 - (intOf i).toNat)
  case atStart => exact ⟨0, 0, n, rfl, by omega, rfl, rfl, HS⟩
  case round =>
    obtain ⟨k, out, left, rfl, hk, rfl, rfl, I⟩ := hrel
    clear HS
    by_cases hlt : k < 64
    · obtain ⟨q1, q2, q3⟩ := I.out
      have hp := pow63 hlt
      obtain ⟨a, ha⟩ : ∃ a, left * 2 = a := ⟨_, rfl⟩
      obtain ⟨b, hb⟩ : ∃ b, out * 2 = b := ⟨_, rfl⟩
      have hmm := HM.out
      have g1 := u64w_rmul (K := 2) rfl ha (by omega)
      have g2 := u64w_rmul (K := 2) rfl hb (by omega)
      by_cases hd : left * 2 < m
      · have I2 := I.out.no hd
        rw [ha, hb] at I2
        have J : Hid (ShareI n m (k + 1) b a) := I2
        have hd' : ¬ (a : Int) ≥ (m : Int) := by omega
        clear I q1 q2 q3 hp ha hb hmm hd I2
        go_wp2
        go_round
        case rel => exact ⟨k + 1, b, a, by go_num, by omega, rfl, rfl, J⟩
        case measure => simp [intOf]; omega
      · have I2 := I.out.yes hd
        obtain ⟨c, hc⟩ : ∃ c, left * 2 - m = c := ⟨_, rfl⟩
        rw [hb, hc] at I2
        have J : Hid (ShareI n m (k + 1) (b + 1) c) := I2
        have hd' : (a : Int) ≥ (m : Int) := by omega
        have g3 := u64w_sub (a := a) (b := m) (c := c) (by omega) (by omega)
        have g4 : IntKind.u64.wrap ((b : Int) + 1) = ((b + 1 : Nat) : Int) := u64w_of (by simp) (by omega)
        clear I q1 q2 q3 hp ha hb hmm hd I2 hc
        generalize b + 1 = b' at *
        go_wp2
        go_round
        case rel => exact ⟨k + 1, b', c, by go_num, by omega, rfl, rfl, J⟩
        case measure => simp [intOf]; omega
    · obtain rfl : k = 64 := by omega
      have hz := I.out.done
      rw [HZ.out] at hz
      subst hz
      clear I HZ
      go_wp2
      go_ret
      exact ⟨rfl, rfl⟩

set_option maxRecDepth 100000 in
set_option maxHeartbeats 1000000 in
/-- The document's Below. -/
theorem rdbelow_any (N B Q : Int) (F E i : Nat) (w : World) (hm : MayD F E) (h1 : 1 ≤ i) (h2 : i < F) :
    Calls Try.prog 48 #[.agg #[.int .i64 N, .int .i64 B, .int .i64 Q, .int .i64 (E : Nat), .int .i64 (F : Nat)], .int .i64 (i : Nat)] w fun e w' => e = .returned (.int .u64 (belowN F E i : Nat)) ∧ Below w.heap.size w w' := by
  obtain ⟨x1, x2, f1, x3, x4, y1, y2, y3, i1, y4, z1, z2, z3, R⟩ := reck hm h1 h2
  have hf4 := hm.f4
  have he2 := hm.e2
  have b1 := part_lt hm h1 h2
  have g1 := u64w_mul R.ex1 (by have := R.bx1; omega)
  have g2 : IntKind.u64.wrap ((x1 : Int) - 1000) = x2 := u64w_of (by have := R.ex2; omega) (by have := R.ex2; have := R.bx1; omega)
  have g3 := u64w_sub1 R.ef1 (by have := R.ef1; omega)
  have g4 := u64w_mul R.ex3 (by have := R.bx3; omega)
  have g5 := u64w_mul R.ex4 (by have := R.bx4; omega)
  have g6 : IntKind.u64.wrap ((F : Int) + 1) = y1 := u64w_of (by have := R.ey1; omega) (by have := R.ey1; omega)
  have g7 := u64w_lmul (K := 1000) rfl R.ey2 (by have := R.ey1; have := R.ey2; omega)
  have g8 := u64w_mul R.ey3 (by have := R.by3; omega)
  have g9 := u64w_sub1 R.ei1 (by have := R.ei1; omega)
  have g10 := u64w_mul R.ey4 (by have := R.by4; omega)
  have g11 := u64w_add R.ep (by have := R.bz; omega)
  have g12 : IntKind.u64.wrap (1000 + (E : Int)) = z1 := u64w_of (by have := R.ez1; omega) (by have := R.ez1; omega)
  have g13 := u64w_mul R.ez2 (by have := R.bz2; omega)
  have g14 := u64w_mul R.ez3 (by have := R.bz3; omega)
  have g15 := u64w_mul R.ez (by have := R.bz; omega)
  have g16 := u64w F (by omega)
  have g17 := u64w E (by omega)
  have g18 := u64w i (by omega)
  have HS : Hid (∀ W, Calls Try.prog 55 #[.int .u64 (part F E i : Nat), .int .u64 (whole F E i : Nat)] W fun e w' => e = .returned (.int .u64 (belowN F E i : Nat)) ∧ w' = W) := fun W => rshare_any _ _ W b1 (by have := R.bz; omega)
  generalize belowN F E i = b at *
  generalize part F E i = P at *
  generalize whole F E i = W at *
  clear R b1 hf4 he2 h1 h2 hm
  go_enter Try.func48, Try.ntmps48
  go_wp2_with fail
  refine (HS.out _).mono ?_
  rintro e w1 ⟨rfl, rfl⟩
  go_wp2
  go_ret
  exact ⟨rfl, below_alloc _ _⟩

set_option maxRecDepth 100000 in
set_option maxHeartbeats 1000000 in
theorem dnew_no (N B Q E F : Int) (w : World) (h : ¬ May N B Q E F) :
    Calls Try.prog 24 #[.agg #[.int .i64 N, .int .i64 B, .int .i64 Q, .int .i64 E, .int .i64 F]] w fun e w' => e = .returned (.tuple #[.pointer none, .int .i64 1]) ∧ Below w.heap.size w w' := by
  have he := mayE_no h
  clear h
  go_enter Try.func24, Try.ntmps24
  go_wp2_with fail
  refine (pcheck_any N B Q E F _).mono ?_
  rintro e w1 ⟨rfl, hb⟩
  rw [he]
  have HB : Hid (Below w.heap.size w w1) := (below_alloc w _).trans (hb.mono (by simp))
  clear hb he
  go_wp2
  go_ret2
  exact ⟨rfl, HB.out⟩

set_option maxRecDepth 100000 in
set_option maxHeartbeats 1000000 in
theorem dnew_yes (N B Q : Int) (E F : Nat) (w : World) (h : May N B Q E F) :
    Calls Try.prog 24 #[.agg #[.int .i64 N, .int .i64 B, .int .i64 Q, .int .i64 (E : Nat), .int .i64 (F : Nat)]] w fun e w' => ∃ a, w.heap.size ≤ a ∧ e = .returned (.tuple #[.pointer (some ⟨a, 0, none⟩), .int .i64 0]) ∧ IsDT w' a F E ∧ Below w.heap.size w w' := by
  have he := mayE_yes h
  clear h
  go_enter Try.func24, Try.ntmps24
  go_wp2_with fail
  refine (pcheck_any N B Q E F _).mono ?_
  rintro e w1 ⟨rfl, hb⟩
  rw [he]
  have HB : Hid (Below w.heap.size w w1) := (below_alloc w _).trans (hb.mono (by simp))
  have F1 : Hid (Five w1 w.heap.size N B Q E F) := (five_new w _ N B Q E F).below hb
  clear hb he
  obtain ⟨c0, c1, c2, c3, c4⟩ := F1.out
  clear F1
  go_wp2
  go_ret2
  exact ⟨_, HB.out.size, rfl, ⟨by simp, by simp⟩, HB.out.trans ((below_alloc _ _).mono HB.out.size)⟩

end Go.Proofs.Ytbnedpjfgadkkaa
