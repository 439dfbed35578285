/-
  batch: the laws' example, and what they let go.
-/
import Derived.Test.YtkckbeekehecnaaBI
import Derived.Test.YtkckbeekehecnaaKZ
import Derived.BigQuiet
namespace Go.Proofs.Ytkckbeekehecnaa
open Go.RowKit
set_option linter.unusedVariables false
set_option maxRecDepth 100000

/-- What Solve answers, in a box. -/
def RsB (W : World) (b : Nat) (kv vv : Value) (cf : Bool) : Prop := W.heap[b]? = some (.cells #[kv, vv, .bool cf] 33 (0, 0))
theorem RsB.new (w : World) (kv vv : Value) (cf : Bool) : RsB (w.alloc (.cells #[kv, vv, .bool cf] 33)) w.heap.size kv vv cf := heap_alloc_new w _
theorem RsB.below {W W' : World} {b : Nat} {kv vv : Value} {cf : Bool} (h : RsB W b kv vv cf) (hb : Below W.heap.size W W') : RsB W' b kv vv cf := (hb.block b (Array.getElem?_eq_some_iff.1 h).1).trans h
theorem RsB.cells {W : World} {b : Nat} {kv vv : Value} {cf : Bool} (h : RsB W b kv vv cf) : W.cell? ⟨b, 0, none⟩ = some kv ∧ W.cell? ⟨b, 1, none⟩ = some vv ∧ W.cell? ⟨b, 2, none⟩ = some (.bool cf) := by
  unfold RsB at h
  simp [World.cell?, h]

set_option maxHeartbeats 2000000 in
/-- The laws' example. -/
theorem speaks17_any (w : World) : Calls Try.prog 10 #[] w fun e w' => e = .returned (.bool true) ∧ Below w.heap.size w w' := by
  have T2 := two17 w
  obtain ⟨tq, tb⟩ := T2
  go_enter Try.func10, Try.ntmps10
  go_wp2_with fail
  refine (solve_any 3 1 _ _ _ tq (by simp) (by simp) (by decide) (by decide)).mono ?_
  rintro e w2 ⟨a, m, c, bx, vb, us, K, V, cf, rfl, hko, hvs, hfd, hcf, hb⟩
  obtain ⟨hk, hv1, hk1, hk2, hnf⟩ := found17 rfl hfd
  have hcf0 : cf = false := by
    cases cf with
    | false => rfl
    | true => exact absurd (hcf.1 rfl) hnf
  subst hcf0
  rw [hk] at hko
  have hm2 : m = 2 := hko.len.symm
  subst hm2
  have X2 : Hid (Below w.heap.size w w2) := on_below tb hb
  have R3 : Hid (RsB (w2.alloc (.cells #[.slice a 2 c, .slice (some ⟨vb, 0, none⟩) 3 3, .bool false] 33)) w2.heap.size (.slice a 2 c) (.slice (some ⟨vb, 0, none⟩) 3 3) false) := RsB.new _ _ _ _
  have X3 : Hid (Below w.heap.size w (w2.alloc (.cells #[.slice a 2 c, .slice (some ⟨vb, 0, none⟩) 3 3, .bool false] 33))) := on_below X2.out (below_alloc _ _)
  have K3 : Hid (Zs (w2.alloc (.cells #[.slice a 2 c, .slice (some ⟨vb, 0, none⟩) 3 3, .bool false] 33)) (.slice a 2 c) [0, 1]) := hko.zs.below (below_alloc _ _)
  have V3 : Hid (Vs (w2.alloc (.cells #[.slice a 2 c, .slice (some ⟨vb, 0, none⟩) 3 3, .bool false] 33)) bx vb 3 1 us K V) := hvs.below (below_alloc _ _)
  clear tq tb hko hvs hfd hcf hnf hb X2 hk
  go_upto_region 2 with fail
  obtain ⟨w3, hw3⟩ : ∃ x, w2.alloc (.cells #[.slice a 2 c, .slice (some ⟨vb, 0, none⟩) 3 3, .bool false] 33) = x := ⟨_, rfl⟩
  rw [hw3] at R3 X3 K3 V3 ⊢
  obtain ⟨rb, hrb⟩ : ∃ x, w2.heap.size = x := ⟨_, rfl⟩
  rw [hrb] at R3 ⊢
  clear hw3 hrb
  obtain ⟨r0, r1, r2⟩ := R3.out.cells
  have A3 : Hid (Zs (w3.alloc (.cells #[.int .i64 0, .int .i64 1] 3)) (.slice a 2 c) [0, 1]) := K3.out.below (below_alloc _ _)
  have Z3 := zs_lit2 w3 0 1 3 _ rfl
  go_wp2_with fail
  refine (same9_any _ _ [0, 1] [0, 1] _ A3.out Z3).mono ?_
  rintro e w4 ⟨rfl, hb⟩
  have hs1 : sameI [0, 1] [0, 1] = 1 := sameI_self _
  rw [hs1]
  have Y34 : Below w3.heap.size w3 w4 := on_below (below_alloc _ _) hb
  have R4 : Hid (RsB w4 rb (.slice a 2 c) (.slice (some ⟨vb, 0, none⟩) 3 3) false) := R3.out.below Y34
  have V4 := V3.out.below Y34
  have X4 : Hid (Below w.heap.size w w4) := on_below X3.out Y34
  obtain ⟨u1, hu1, cu1⟩ := V4.at (i := 1) (by decide)
  obtain ⟨u2, hu2, cu2⟩ := V4.at (i := 2) (by decide)
  obtain ⟨q1, k1, rfl, ho1⟩ := V4.kn 1 u1 hu1 hk1
  obtain rfl := V4.un 2 u2 hu2 hk2
  have hv1' : V ((1 : Nat) : Int) = [2] := hv1
  rw [hv1'] at ho1
  have kc := conv_bytes ho1.bs
  have hst := str_toList
  clear hb Y34 V4 hu1 hu2 ho1 hs1 r0 r1 r2 A3 Z3 R3 X3 K3 V3 hv1 hv1'
  obtain ⟨r0, r1, r2⟩ := R4.out.cells
  go_wp2
  go_ret
  exact ⟨rfl, X4.out⟩

/-- The laws let go what is greater. -/
def Small17 (ls : List (List Int)) : Prop := ls.length + ls.flatten.length ≤ 300

set_option maxHeartbeats 1000000 in
theorem big17_any (pv : Value) (vs : List Value) (ls : List (List Int)) (w : World) (hp : Sl 1 w pv vs.length vs) (hz : LsZ w vs ls) (hw : LzW ls) :
    Calls Try.prog 11 #[pv] w fun e w' => BigP (Small17 ls) e ∧ w' = w := by
  have HZ : Hid (LsZ w vs ls) := hz
  have HW : Hid (LzW ls) := hw
  obtain ⟨m, hm⟩ : ∃ m, vs.length = m := ⟨_, rfl⟩
  have HF : Hid (ls.length = m) := by rw [← hm]; exact hz.1.symm
  have hp' := hp
  obtain ⟨-, ao, pc, rfl, hp2, hp3, -, -⟩ := hp'
  unfold maxLen at hp3
  have HP0 : Hid (Sl 1 w (.slice ao m pc) vs.length vs) := by
    unfold Hid
    rw [hm] at hp ⊢
    exact hp
  rw [hm] at hp2 ⊢
  clear hm hz hp hw
  go_enter Try.func11, Try.ntmps11
  go_wp2
  go_loop [3, 8] (fun nv iv => ∃ i N : Nat, i ≤ m ∧ iv = .int .i64 i ∧ nv = .int .i64 (N : Int) ∧ N ≤ 300 ∧ Hid (N = i + (ls.take i).flatten.length)) (fun _ iv => m - (intOf iv).toNat)
  case atStart => exact ⟨0, 0, by omega, rfl, rfl, by omega, by simp [Hid]⟩
  case round =>
    obtain ⟨i, N, hi, rfl, rfl, hN, NN⟩ := hrel
    by_cases hlt : i < m
    · obtain ⟨l, hl⟩ : ∃ l, ls[i]? = some l := ⟨_, List.getElem?_eq_getElem (by rw [HF.out]; exact hlt)⟩
      obtain ⟨lv, hlv, hlz⟩ := HZ.out.at hl
      obtain ⟨b0, off, rfl, ci⟩ := sl_at HP0.out (Below.refl _ _) hlv
      have FT : Hid ((ls.take (i + 1)).flatten.length = (ls.take i).flatten.length + l.length) := flatl_next hl
      have FL : Hid (l.length ≤ ls.flatten.length) := flat_le hl
      have h44 := (HW.out.1 l (List.mem_of_getElem? hl)).2
      have TK := flat_take_le ls (i + 1)
      obtain ⟨la, lc, rfl, hl2, hl3⟩ := zs_shape hlz
      obtain ⟨n, hn⟩ : ∃ n, l.length = n := ⟨_, rfl⟩
      have FT2 : Hid ((ls.take (i + 1)).flatten.length = (ls.take i).flatten.length + n) := by rw [← hn]; exact FT.out
      have TK2 : Hid ((ls.take (i + 1)).flatten.length ≤ ls.flatten.length) := TK
      rw [hn] at ci hl2 h44
      have w1 : IntKind.i64.wrap ((n : Int) + 1) = (n : Int) + 1 := by rw [IntKind.wrap_i64]; omega
      have w2 : IntKind.i64.wrap ((N : Int) + ((n : Int) + 1)) = ((N + (n + 1) : Nat) : Int) := by rw [IntKind.wrap_i64]; omega
      obtain ⟨M, hM⟩ : ∃ M, N + (n + 1) = M := ⟨_, rfl⟩
      rw [hM] at w2
      have MM : Hid (N + (n + 1) = M) := hM
      clear hl hlv hlz FT FL TK hn hM
      by_cases hbig : 300 < M
      · have d : decide ((300 : Int) < (M : Int)) = true := decide_eq_true (by omega)
        go_wp2
        go_ret
        exact ⟨big_yes rfl, rfl⟩
      · have d : decide ((300 : Int) < (M : Int)) = false := decide_eq_false (by omega)
        have N2 : Hid (M = i + 1 + (ls.take (i + 1)).flatten.length) := by
          have h1 := NN.out
          have h2 := FT2.out
          have h3 := MM.out
          unfold Hid
          omega
        clear NN
        go_wp2
        go_round
        case rel => exact ⟨i + 1, M, by omega, by go_num, rfl, by omega, N2⟩
        case measure => simp [intOf]; omega
    · obtain rfl : m = i := by omega
      have R : Hid (Small17 ls) := by
        have h1 := NN.out
        rw [List.take_of_length_le (by rw [HF.out]; exact Nat.le_refl _)] at h1
        have h2 := HF.out
        unfold Hid Small17
        omega
      clear NN
      go_wp2
      go_ret
      exact ⟨big_no rfl R.out, rfl⟩


end Go.Proofs.Ytkckbeekehecnaa
