/-
  sample: the document's Some; Same; what the statements' speaks says.
-/
import Derived.Test.YtbnedpjfgadkkaaSmpA
import Derived.Test.YtbnedpjfgadkkaaSmpB
import Derived.Test.YtbnedpjfgadkkaaRngD
import Derived.BigQuiet
namespace Go.Proofs.Ytbnedpjfgadkkaa
open Go.RowKit
set_option linter.unusedVariables false

theorem decide_sortI (x : Int) (l : List Int) : decide (x ∈ sortI l) = decide (x ∈ l) := by
  rw [Bool.eq_iff_iff]
  simp [mem_sortI]

set_option maxRecDepth 100000 in
set_option maxHeartbeats 1000000 in
theorem rsome_a (s b : Nat) (k : Nat) (w : World) (hb2 : b ≤ 16777216) (hkm : k ≤ 1000000) (hk1 : 1 ≤ k) (hkb : k ≤ b) (t : Nat) (l : List Int) (HT : Hid (picks s ((b : Int) - k) k = (t, l))) :
    Calls Try.prog 32 #[.int .u64 s, .int .i64 b, .int .i64 k] w fun e w' => ∃ a c, e = .returned (.tuple #[.int .u64 t, .slice a k c]) ∧ OwnZ w.heap.size w' (.slice a k c) k (sortI l) ∧ Below w.heap.size w w' := by
  obtain ⟨A, hA⟩ : ∃ A : Nat, A + k = b := ⟨b - k, by omega⟩
  have HA : Hid ((b : Int) - k = (A : Int)) := by unfold Hid; omega
  have HA2 : Hid (A + k = b) := hA
  rw [HA.out] at HT
  have hsub : (b : Int) - (k : Int) = (A : Int) := HA.out
  clear HA hA
  have hng : ¬ (k : Int) > (b : Int) := by omega
  go_enter Try.func32, Try.ntmps32
  go_wp2
  go_loopw [0, 8, 9] (fun sv ov iv wr => ∃ (i st c : Nat) (a : Option Addr) (o : List Int), i ≤ k ∧ iv = .int .i64 i ∧ sv = .int .u64 st ∧ ov = .slice a i c ∧ Hid (picks s A i = (st, o)) ∧ Hid (OwnZ w.heap.size wr (.slice a i c) i (sortI o)) ∧ Hid (Below w.heap.size w wr)) (fun _ _ iv _ => k - (intOf iv).toNat)
  case atStart => exact ⟨0, s, 0, _, [], by omega, rfl, rfl, rfl, rfl, by unfold Hid; rw [show sortI [] = [] from by simp [sortI]]; exact OwnZ.new w, below_alloc _ _⟩
  case round =>
    obtain ⟨i, st, c, a, o, hik, rfl, rfl, rfl, HP, HO, HB⟩ := hrel
    by_cases hlt : i < k
    · obtain ⟨j, hj⟩ : ∃ j : Nat, j = A + i := ⟨_, rfl⟩
      have hj2 : (A : Int) + (i : Int) = (j : Int) := by rw [hj]; simp
      have hjb : j < b := by have := HA2.out; omega
      obtain ⟨p, hp⟩ : ∃ p, belowD st ((j : Int) + 1) = p := ⟨_, rfl⟩
      obtain ⟨t1, x⟩ := p
      have hx := belowD_lt (s := st) (n := (j : Int) + 1) (by omega)
      have HC : Hid (∀ W, Calls Try.prog 45 #[.int .u64 st, .int .i64 ((j : Int) + 1)] W fun e w' => e = .returned (.tuple #[.int .u64 t1, .int .i64 x]) ∧ Below W.heap.size W w') := by
        intro W
        have := rrbelow_any st ((j : Int) + 1) W (by omega)
        rw [hp] at this
        exact this
      rw [hp] at hx
      obtain ⟨hx0, hx1⟩ := hx
      dsimp only at hx0 hx1
      have HN : Hid (∀ y, (if x ∈ o then (j : Int) else x) = y → picks s A (i + 1) = (t1, o ++ [y])) := fun y hy => picks_next HP.out hj2 hp hy
      have HL : Hid ((sortI o).length = i) := HO.out.len
      clear hp HP hj
      go_wp2_with fail
      refine (HC.out _).mono ?_
      rintro e w3 ⟨rfl, hb3⟩
      have O3 : Hid (OwnZ w.heap.size w3 (.slice a i c) i (sortI o)) := HO.out.below hb3
      have B3 : Hid (Below w.heap.size w w3) := HB.out.trans (hb3.mono HB.out.size)
      clear hb3 HO HB HC
      have HH : Hid (Calls Try.prog 46 #[.slice a i c, .int .i64 x] w3 fun e w' => e = .returned (.bool (decide (x ∈ o))) ∧ w' = w3) := by
        have := rhas_any x _ _ w3 O3.out.zs
        rw [decide_sortI] at this
        exact this
      go_wp2_with fail
      refine HH.out.mono ?_
      rintro e w4 ⟨rfl, rfl⟩
      clear HH
      by_cases hm : x ∈ o
      · have P4 : Hid (picks s A (i + 1) = (t1, o ++ [(j : Int)])) := HN.out j (if_pos hm)
        have hd : decide (x ∈ o) = true := by simpa using hm
        rw [hd]
        have HI : Hid (Calls Try.prog 47 #[.slice a i c, .int .i64 j] w4 fun e w' => ∃ a c, e = .returned (.slice a (i + 1) c) ∧ OwnZ w4.heap.size w' (.slice a (i + 1) c) (i + 1) (sortI (o ++ [(j : Int)])) ∧ Below w4.heap.size w4 w') := by
          have := rins_any j _ _ i w4 O3.out.zs HL.out (by omega)
          rw [insI_sortI] at this
          exact this
        clear hm hd HN
        go_wp2_with fail
        refine HI.out.mono ?_
        rintro e w5 ⟨a5, c5, rfl, ho5, hb5⟩
        have O5 : Hid (OwnZ w.heap.size w5 (.slice a5 (i + 1) c5) (i + 1) (sortI (o ++ [(j : Int)]))) := ho5.mono B3.out.size
        have B5 : Hid (Below w.heap.size w w5) := B3.out.trans (hb5.mono B3.out.size)
        clear ho5 hb5 HI O3 B3
        go_wp2
        go_roundw
        case rel => exact ⟨i + 1, t1, c5, a5, _, by omega, by go_num, rfl, rfl, P4, O5, B5⟩
        case measure => simp [intOf]; omega
      · have P4 : Hid (picks s A (i + 1) = (t1, o ++ [x])) := HN.out x (if_neg hm)
        have hd : decide (x ∈ o) = false := by simpa using hm
        rw [hd]
        have HI : Hid (Calls Try.prog 47 #[.slice a i c, .int .i64 x] w4 fun e w' => ∃ a c, e = .returned (.slice a (i + 1) c) ∧ OwnZ w4.heap.size w' (.slice a (i + 1) c) (i + 1) (sortI (o ++ [x])) ∧ Below w4.heap.size w4 w') := by
          have := rins_any x _ _ i w4 O3.out.zs HL.out (by omega)
          rw [insI_sortI] at this
          exact this
        clear hm hd HN
        go_wp2_with fail
        refine HI.out.mono ?_
        rintro e w5 ⟨a5, c5, rfl, ho5, hb5⟩
        have O5 : Hid (OwnZ w.heap.size w5 (.slice a5 (i + 1) c5) (i + 1) (sortI (o ++ [x]))) := ho5.mono B3.out.size
        have B5 : Hid (Below w.heap.size w w5) := B3.out.trans (hb5.mono B3.out.size)
        clear ho5 hb5 HI O3 B3
        go_wp2
        go_roundw
        case rel => exact ⟨i + 1, t1, c5, a5, _, by omega, by go_num, rfl, rfl, P4, O5, B5⟩
        case measure => simp [intOf]; omega
    · obtain rfl : i = k := by omega
      have HE : Hid ((st, o) = (t, l)) := HP.out.symm.trans HT.out
      obtain ⟨rfl, rfl⟩ := Prod.mk.inj HE.out
      clear HP HT HE
      go_wp2
      go_ret2
      exact ⟨a, c, rfl, HO.out, HB.out⟩

set_option maxRecDepth 100000 in
set_option maxHeartbeats 1000000 in
theorem rsome_b (s b : Nat) (m : Int) (k : Nat) (w : World) (hb2 : b ≤ 1000000) (hk1 : 1 ≤ k) (hkb : k ≤ b) (hm : m > (b : Int)) (hkb2 : k = b) (t : Nat) (l : List Int) (HT : Hid (picks s ((b : Int) - k) k = (t, l))) :
    Calls Try.prog 32 #[.int .u64 s, .int .i64 b, .int .i64 m] w fun e w' => ∃ a c, e = .returned (.tuple #[.int .u64 t, .slice a k c]) ∧ OwnZ w.heap.size w' (.slice a k c) k (sortI l) ∧ Below w.heap.size w w' := by
  subst hkb2
  obtain ⟨A, hA⟩ : ∃ A : Nat, A + k = k := ⟨0, by omega⟩
  have HA : Hid ((k : Int) - k = (A : Int)) := by unfold Hid; omega
  have HA2 : Hid (A + k = k) := hA
  rw [HA.out] at HT
  have hsub : (k : Int) - (k : Int) = (A : Int) := HA.out
  clear HA hA
  go_enter Try.func32, Try.ntmps32
  go_wp2
  go_loopw [0, 8, 9] (fun sv ov iv wr => ∃ (i st c : Nat) (a : Option Addr) (o : List Int), i ≤ k ∧ iv = .int .i64 i ∧ sv = .int .u64 st ∧ ov = .slice a i c ∧ Hid (picks s A i = (st, o)) ∧ Hid (OwnZ w.heap.size wr (.slice a i c) i (sortI o)) ∧ Hid (Below w.heap.size w wr)) (fun _ _ iv _ => k - (intOf iv).toNat)
  case atStart => exact ⟨0, s, 0, _, [], by omega, rfl, rfl, rfl, rfl, by unfold Hid; rw [show sortI [] = [] from by simp [sortI]]; exact OwnZ.new w, below_alloc _ _⟩
  case round =>
    obtain ⟨i, st, c, a, o, hik, rfl, rfl, rfl, HP, HO, HB⟩ := hrel
    by_cases hlt : i < k
    · obtain ⟨j, hj⟩ : ∃ j : Nat, j = A + i := ⟨_, rfl⟩
      have hj2 : (A : Int) + (i : Int) = (j : Int) := by rw [hj]; simp
      have hjb : j < k := by have := HA2.out; omega
      obtain ⟨p, hp⟩ : ∃ p, belowD st ((j : Int) + 1) = p := ⟨_, rfl⟩
      obtain ⟨t1, x⟩ := p
      have hx := belowD_lt (s := st) (n := (j : Int) + 1) (by omega)
      have HC : Hid (∀ W, Calls Try.prog 45 #[.int .u64 st, .int .i64 ((j : Int) + 1)] W fun e w' => e = .returned (.tuple #[.int .u64 t1, .int .i64 x]) ∧ Below W.heap.size W w') := by
        intro W
        have := rrbelow_any st ((j : Int) + 1) W (by omega)
        rw [hp] at this
        exact this
      rw [hp] at hx
      obtain ⟨hx0, hx1⟩ := hx
      dsimp only at hx0 hx1
      have HN : Hid (∀ y, (if x ∈ o then (j : Int) else x) = y → picks s A (i + 1) = (t1, o ++ [y])) := fun y hy => picks_next HP.out hj2 hp hy
      have HL : Hid ((sortI o).length = i) := HO.out.len
      clear hp HP hj
      go_wp2_with fail
      refine (HC.out _).mono ?_
      rintro e w3 ⟨rfl, hb3⟩
      have O3 : Hid (OwnZ w.heap.size w3 (.slice a i c) i (sortI o)) := HO.out.below hb3
      have B3 : Hid (Below w.heap.size w w3) := HB.out.trans (hb3.mono HB.out.size)
      clear hb3 HO HB HC
      have HH : Hid (Calls Try.prog 46 #[.slice a i c, .int .i64 x] w3 fun e w' => e = .returned (.bool (decide (x ∈ o))) ∧ w' = w3) := by
        have := rhas_any x _ _ w3 O3.out.zs
        rw [decide_sortI] at this
        exact this
      go_wp2_with fail
      refine HH.out.mono ?_
      rintro e w4 ⟨rfl, rfl⟩
      clear HH
      by_cases hm : x ∈ o
      · have P4 : Hid (picks s A (i + 1) = (t1, o ++ [(j : Int)])) := HN.out j (if_pos hm)
        have hd : decide (x ∈ o) = true := by simpa using hm
        rw [hd]
        have HI : Hid (Calls Try.prog 47 #[.slice a i c, .int .i64 j] w4 fun e w' => ∃ a c, e = .returned (.slice a (i + 1) c) ∧ OwnZ w4.heap.size w' (.slice a (i + 1) c) (i + 1) (sortI (o ++ [(j : Int)])) ∧ Below w4.heap.size w4 w') := by
          have := rins_any j _ _ i w4 O3.out.zs HL.out (by omega)
          rw [insI_sortI] at this
          exact this
        clear hm hd HN
        go_wp2_with fail
        refine HI.out.mono ?_
        rintro e w5 ⟨a5, c5, rfl, ho5, hb5⟩
        have O5 : Hid (OwnZ w.heap.size w5 (.slice a5 (i + 1) c5) (i + 1) (sortI (o ++ [(j : Int)]))) := ho5.mono B3.out.size
        have B5 : Hid (Below w.heap.size w w5) := B3.out.trans (hb5.mono B3.out.size)
        clear ho5 hb5 HI O3 B3
        go_wp2
        go_roundw
        case rel => exact ⟨i + 1, t1, c5, a5, _, by omega, by go_num, rfl, rfl, P4, O5, B5⟩
        case measure => simp [intOf]; omega
      · have P4 : Hid (picks s A (i + 1) = (t1, o ++ [x])) := HN.out x (if_neg hm)
        have hd : decide (x ∈ o) = false := by simpa using hm
        rw [hd]
        have HI : Hid (Calls Try.prog 47 #[.slice a i c, .int .i64 x] w4 fun e w' => ∃ a c, e = .returned (.slice a (i + 1) c) ∧ OwnZ w4.heap.size w' (.slice a (i + 1) c) (i + 1) (sortI (o ++ [x])) ∧ Below w4.heap.size w4 w') := by
          have := rins_any x _ _ i w4 O3.out.zs HL.out (by omega)
          rw [insI_sortI] at this
          exact this
        clear hm hd HN
        go_wp2_with fail
        refine HI.out.mono ?_
        rintro e w5 ⟨a5, c5, rfl, ho5, hb5⟩
        have O5 : Hid (OwnZ w.heap.size w5 (.slice a5 (i + 1) c5) (i + 1) (sortI (o ++ [x]))) := ho5.mono B3.out.size
        have B5 : Hid (Below w.heap.size w w5) := B3.out.trans (hb5.mono B3.out.size)
        clear ho5 hb5 HI O3 B3
        go_wp2
        go_roundw
        case rel => exact ⟨i + 1, t1, c5, a5, _, by omega, by go_num, rfl, rfl, P4, O5, B5⟩
        case measure => simp [intOf]; omega
    · obtain rfl : i = k := by omega
      have HE : Hid ((st, o) = (t, l)) := HP.out.symm.trans HT.out
      obtain ⟨rfl, rfl⟩ := Prod.mk.inj HE.out
      clear HP HT HE
      go_wp2
      go_ret2
      exact ⟨a, c, rfl, HO.out, HB.out⟩

set_option maxRecDepth 100000 in
set_option maxHeartbeats 1000000 in
theorem rsome_none (s : Nat) (b m : Int) (w : World) (h : m < 1 ∨ b < 1) :
    Calls Try.prog 32 #[.int .u64 s, .int .i64 b, .int .i64 m] w fun e w' => ∃ a c, e = .returned (.tuple #[.int .u64 s, .slice a 0 c]) ∧ OwnZ w.heap.size w' (.slice a 0 c) 0 [] ∧ Below w.heap.size w w' := by
  by_cases hm : m > b
  · have hb : ¬ (0 : Int) < b := by omega
    clear h
    go_enter Try.func32, Try.ntmps32
    go_wp2
    go_loopw [0, 8, 9] (fun sv ov iv wr => iv = .int .i64 0 ∧ sv = .int .u64 s ∧ ov = .slice (some ⟨w.heap.size, 0, none⟩) 0 0 ∧ Hid (OwnZ w.heap.size wr (.slice (some ⟨w.heap.size, 0, none⟩) 0 0) 0 []) ∧ Hid (Below w.heap.size w wr)) (fun _ _ iv _ => 0)
    case atStart => exact ⟨rfl, rfl, rfl, OwnZ.new w, below_alloc _ _⟩
    case round =>
      obtain ⟨rfl, rfl, rfl, HO, HB⟩ := hrel
      go_wp2
      go_ret2
      exact ⟨_, _, rfl, HO.out, HB.out⟩
  · have hb : ¬ (0 : Int) < m := by omega
    clear h
    go_enter Try.func32, Try.ntmps32
    go_wp2
    go_loopw [0, 8, 9] (fun sv ov iv wr => iv = .int .i64 0 ∧ sv = .int .u64 s ∧ ov = .slice (some ⟨w.heap.size, 0, none⟩) 0 0 ∧ Hid (OwnZ w.heap.size wr (.slice (some ⟨w.heap.size, 0, none⟩) 0 0) 0 []) ∧ Hid (Below w.heap.size w wr)) (fun _ _ iv _ => 0)
    case atStart => exact ⟨rfl, rfl, rfl, OwnZ.new w, below_alloc _ _⟩
    case round =>
      obtain ⟨rfl, rfl, rfl, HO, HB⟩ := hrel
      go_wp2
      go_ret2
      exact ⟨_, _, rfl, HO.out, HB.out⟩

/-- The document's Some. -/
theorem rsome_big (s : Nat) (b m : Int) (w : World) (hb2 : b ≤ 16777216) (k : Nat) (hk : howMany b m = k) (hkm : k ≤ 1000000) (t : Nat) (l : List Int) (HT : Hid (someD s b m = (t, l))) :
    Calls Try.prog 32 #[.int .u64 s, .int .i64 b, .int .i64 m] w fun e w' => ∃ a c, e = .returned (.tuple #[.int .u64 t, .slice a k c]) ∧ OwnZ w.heap.size w' (.slice a k c) k l ∧ Below w.heap.size w w' := by
  by_cases h0 : m < 1 ∨ b < 1
  · have e1 := HT.out
    rw [someD_none h0] at e1
    obtain ⟨rfl, rfl⟩ := Prod.mk.inj e1
    rw [howMany_none h0] at hk
    subst hk
    exact rsome_none s b m w h0
  · have h1 : 1 ≤ m ∧ 1 ≤ b := by omega
    obtain ⟨n, rfl⟩ : ∃ n : Nat, b = n := ⟨b.toNat, by omega⟩
    rw [howMany_some h0] at hk
    have hk' : min m (n : Int) = (k : Int) := by omega
    have e1 := HT.out
    unfold someD at e1
    rw [howMany_some h0, hk] at e1
    obtain ⟨e2, e3⟩ := Prod.mk.inj e1
    rw [← e3]
    by_cases hmb : m > (n : Int)
    · exact rsome_b s n m k w (by omega) (by omega) (by omega) hmb (by omega) t _ (by unfold Hid; rw [← e2])
    · obtain rfl : m = (k : Int) := by omega
      exact rsome_a s n k w (by omega) (by omega) (by omega) (by omega) t _ (by unfold Hid; rw [← e2])

theorem rsome_any (s : Nat) (b m : Int) (w : World) (hb2 : b ≤ 1000000) (k : Nat) (hk : howMany b m = k) (t : Nat) (l : List Int) (HT : Hid (someD s b m = (t, l))) :
    Calls Try.prog 32 #[.int .u64 s, .int .i64 b, .int .i64 m] w fun e w' => ∃ a c, e = .returned (.tuple #[.int .u64 t, .slice a k c]) ∧ OwnZ w.heap.size w' (.slice a k c) k l ∧ Below w.heap.size w w' :=
  rsome_big s b m w (by omega) k hk (by have := howMany_le b m; omega) t l HT

/-- 1, if two lists are the same. -/
def sameI (l m : List Int) : Int := if l = m then 1 else 0
theorem sameI_self (l : List Int) : sameI l l = 1 := if_pos rfl
theorem sameI_no {l m : List Int} (h : l ≠ m) : sameI l m = 0 := if_neg h
theorem sameI_yes {l m : List Int} (h : l = m) : sameI l m = 1 := if_pos h

theorem below_drewN {B : Nat} {w w1 : World} (h : Below B w w1) (n : Nat) : Below B w (w1.drewN n) := ⟨h.os, h.tape, h.output, by simpa using h.size, fun k hk => by simpa using h.block k hk⟩

theorem eq_at {l m : List Int} {k : Nat} (hl : l.length = m.length) (hk : k < l.length) (hne : l[k] ≠ m[k]'(by omega)) : l ≠ m := by
  rintro rfl
  exact hne rfl

set_option maxRecDepth 100000 in
set_option maxHeartbeats 1000000 in
/-- SAME: two lists. -/
theorem same9_any (v1 v2 : Value) (l1 l2 : List Int) (w : World) (h1 : Zs w v1 l1) (h2 : Zs w v2 l2) :
    Calls Try.prog 14 #[v1, v2] w fun e w' => e = .returned (.int .i64 (sameI l1 l2)) ∧ Below w.heap.size w w' := by
  obtain ⟨-, a1, c1, rfl, g1, g2, -, g3⟩ := h1
  obtain ⟨-, a2, c2, rfl, k1, k2, -, k3⟩ := h2
  unfold maxLen at g2 k2
  obtain ⟨n1, hn1⟩ : ∃ n, l1.length = n := ⟨_, rfl⟩
  obtain ⟨n2, hn2⟩ : ∃ n, l2.length = n := ⟨_, rfl⟩
  rw [hn1] at g1 g3 ⊢
  rw [hn2] at k1 k3 ⊢
  have N1 : Hid (l1.length = n1) := hn1
  have N2 : Hid (l2.length = n2) := hn2
  have C1 : Hid (n1 = 0 ∨ ∃ b off, a1 = some ⟨b, off, none⟩ ∧ ∀ j u, (l1.map (Value.int .i64))[j]? = some u → w.cell? ⟨b, off + j, none⟩ = some u) := g3
  have C2 : Hid (n2 = 0 ∨ ∃ b off, a2 = some ⟨b, off, none⟩ ∧ ∀ j u, (l2.map (Value.int .i64))[j]? = some u → w.cell? ⟨b, off + j, none⟩ = some u) := k3
  clear hn1 hn2 g3 k3
  by_cases hn : n1 = n2
  · subst hn
    go_enter Try.func14, Try.ntmps14
    go_wp2
    go_loopw [13] (fun iv wr => ∃ i : Nat, i ≤ n1 ∧ iv = .int .i64 i ∧ Hid (l1.take i = l2.take i) ∧ Hid (Below w.heap.size w wr)) (fun iv _ => n1 - (intOf iv).toNat)
    case atStart => exact ⟨0, by omega, rfl, rfl, Below.refl _ _⟩
    case round =>
      obtain ⟨i, hi, rfl, HT, HB⟩ := hrel
      by_cases hlt : i < n1
      · have i1 : i < l1.length := by rw [N1.out]; exact hlt
        have i2 : i < l2.length := by rw [N2.out]; exact hlt
        obtain ⟨b1, o1, rfl, hc1⟩ : ∃ b off, a1 = some ⟨b, off, none⟩ ∧ ∀ j u, (l1.map (Value.int .i64))[j]? = some u → w.cell? ⟨b, off + j, none⟩ = some u := by
          rcases C1.out with h | h
          · omega
          · exact h
        obtain ⟨b2, o2, rfl, hc2⟩ : ∃ b off, a2 = some ⟨b, off, none⟩ ∧ ∀ j u, (l2.map (Value.int .i64))[j]? = some u → w.cell? ⟨b, off + j, none⟩ = some u := by
          rcases C2.out with h | h
          · omega
          · exact h
        have x1 := hc1 i _ (map_z_at l1 i i1)
        have x2 := hc2 i _ (map_z_at l2 i i2)
        have y1 := (HB.out.cell (cell_block_lt x1)).trans x1
        have y2 := (HB.out.cell (cell_block_lt x2)).trans x2
        have HE : Hid (l1[i] = l2[i] → l1.take (i + 1) = l2.take (i + 1)) := by
          intro e
          rw [List.take_succ_eq_append_getElem i1, List.take_succ_eq_append_getElem i2, HT.out, e]
        have HD : Hid (l1[i] ≠ l2[i] → sameI l1 l2 = 0) := fun e => sameI_no (eq_at (by rw [N1.out, N2.out]) i1 e)
        clear hc1 hc2 x1 x2
        generalize l1[i] = z1 at *
        generalize l2[i] = z2 at *
        by_cases hz : z1 = z2
        · have hne : (z1 != z2) = false := by simpa using hz
          have HE2 : Hid (l1.take (i + 1) = l2.take (i + 1)) := HE.out hz
          clear HE HD
          go_wp2_with fail
          go_quiet (fail)
          go_wp2
          go_roundw
          case rel => exact ⟨i + 1, by omega, by go_num, HE2, below_drewN HB.out _⟩
          case measure => simp [intOf]; omega
        · have hne : (z1 != z2) = true := by simpa using hz
          have HD2 : Hid (sameI l1 l2 = 0) := HD.out hz
          clear HE HD
          go_wp2_with fail
          go_quiet (fail)
          go_wp2
          go_ret
          exact ⟨ret_int HD2.out.symm, below_drewN HB.out _⟩
      · have HE : Hid (sameI l1 l2 = 1) := by
          refine sameI_yes ?_
          have := HT.out
          rw [List.take_of_length_le (by rw [N1.out]; omega), List.take_of_length_le (by rw [N2.out]; omega)] at this
          exact this
        clear HT
        go_wp2
        go_ret
        exact ⟨ret_int HE.out.symm, HB.out⟩
  · have HE : Hid (sameI l1 l2 = 0) := sameI_no (fun e => hn (by rw [← N1.out, ← N2.out, e]))
    have hne : ((n1 : Int) != (n2 : Int)) = true := by simp; omega
    go_enter Try.func14, Try.ntmps14
    go_wp2
    go_ret
    exact ⟨ret_int HE.out.symm, Below.refl _ _⟩

end Go.Proofs.Ytbnedpjfgadkkaa
