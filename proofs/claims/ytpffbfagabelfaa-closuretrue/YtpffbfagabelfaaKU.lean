/-
  Layer 16's big; ClosureReaches.
-/
import Derived.Test.YtpffbfagabelfaaZKB
namespace Go.Proofs.Ytpffbfagabelfaa
open Go.RowKit
set_option linter.unusedVariables false

theorem flatl_next {ls : List (List Int)} {i : Nat} {l : List Int} (h : ls[i]? = some l) : (ls.take (i + 1)).flatten.length = (ls.take i).flatten.length + l.length := by
  obtain ⟨h3, h4⟩ := List.getElem?_eq_some_iff.1 h
  rw [List.take_succ_eq_append_getElem h3, List.flatten_append, h4, List.length_append]
  simp

/-- No more, and no greater, equations than are looked at. -/
def SmallE (ls : List (List Int)) : Prop := ls.length + ls.flatten.length ≤ 400

set_option maxRecDepth 100000 in
set_option maxHeartbeats 1000000 in
/-- BIG. -/
theorem big16_any (pv : Value) (vs : List Value) (ls : List (List Int)) (w : World) (hp : Sl 1 w pv vs.length vs) (hz : LsZ w vs ls) (hw : LzW ls) :
    Calls Try.prog 8 #[pv] w fun e w' => BigP (SmallE ls) e ∧ w' = w := by
  have HZ : Hid (LsZ w vs ls) := hz
  have HW : Hid (LzW ls) := hw
  obtain ⟨m, hm⟩ : ∃ m, vs.length = m := ⟨_, rfl⟩
  have HF : Hid (ls.length = m) := by rw [← hm]; exact hz.1.symm
  have hp' := hp
  obtain ⟨-, ao, pc, rfl, hp2, hp3, -, -⟩ := hp'
  unfold maxLen at hp3
  have HP0 : Hid (Sl 1 w (.slice ao m pc) vs.length vs) := by
    unfold Hid
    rw [hm] at hp ⊢
    exact hp
  rw [hm] at hp2 ⊢
  clear hm hz hp hw
  go_enter Try.func8, Try.ntmps8
  go_wp2
  go_loop [3, 8] (fun nv iv => ∃ i N : Nat, i ≤ m ∧ iv = .int .i64 i ∧ nv = .int .i64 (N : Int) ∧ N ≤ 400 ∧ Hid (N = i + (ls.take i).flatten.length)) (fun _ iv => m - (intOf iv).toNat)
  case atStart => exact ⟨0, 0, by omega, rfl, rfl, by omega, by simp [Hid]⟩
  case round =>
    obtain ⟨i, N, hi, rfl, rfl, hN, NN⟩ := hrel
    by_cases hlt : i < m
    · obtain ⟨l, hl⟩ : ∃ l, ls[i]? = some l := ⟨_, List.getElem?_eq_getElem (by rw [HF.out]; exact hlt)⟩
      obtain ⟨lv, hlv, hlz⟩ := HZ.out.at hl
      obtain ⟨b0, off, rfl, ci⟩ := sl_at HP0.out (Below.refl _ _) hlv
      have FT : Hid ((ls.take (i + 1)).flatten.length = (ls.take i).flatten.length + l.length) := flatl_next hl
      have FL : Hid (l.length ≤ ls.flatten.length) := flat_le hl
      have h44 := (HW.out.1 l (List.mem_of_getElem? hl)).2
      have TK := flat_take_le ls (i + 1)
      obtain ⟨la, lc, rfl, hl2, hl3⟩ := zs_shape hlz
      obtain ⟨n, hn⟩ : ∃ n, l.length = n := ⟨_, rfl⟩
      have FT2 : Hid ((ls.take (i + 1)).flatten.length = (ls.take i).flatten.length + n) := by rw [← hn]; exact FT.out
      have TK2 : Hid ((ls.take (i + 1)).flatten.length ≤ ls.flatten.length) := TK
      rw [hn] at ci hl2 h44
      have w1 : IntKind.i64.wrap ((n : Int) + 1) = (n : Int) + 1 := by rw [IntKind.wrap_i64]; omega
      have w2 : IntKind.i64.wrap ((N : Int) + ((n : Int) + 1)) = ((N + (n + 1) : Nat) : Int) := by rw [IntKind.wrap_i64]; omega
      obtain ⟨M, hM⟩ : ∃ M, N + (n + 1) = M := ⟨_, rfl⟩
      rw [hM] at w2
      have MM : Hid (N + (n + 1) = M) := hM
      clear hl hlv hlz FT FL TK hn hM
      by_cases hbig : 400 < M
      · have d : decide ((400 : Int) < (M : Int)) = true := decide_eq_true (by omega)
        go_wp2
        go_ret
        exact ⟨big_yes rfl, rfl⟩
      · have d : decide ((400 : Int) < (M : Int)) = false := decide_eq_false (by omega)
        have N2 : Hid (M = i + 1 + (ls.take (i + 1)).flatten.length) := by
          have h1 := NN.out
          have h2 := FT2.out
          have h3 := MM.out
          unfold Hid
          omega
        clear NN
        go_wp2
        go_round
        case rel => exact ⟨i + 1, M, by omega, by go_num, rfl, by omega, N2⟩
        case measure => simp [intOf]; omega
    · obtain rfl : m = i := by omega
      have R : Hid (SmallE ls) := by
        have h1 := NN.out
        rw [List.take_of_length_le (by rw [HF.out]; exact Nat.le_refl _)] at h1
        have h2 := HF.out
        unfold Hid SmallE
        omega
      clear NN
      go_wp2
      go_ret
      exact ⟨big_no rfl R.out, rfl⟩

set_option maxRecDepth 100000 in
set_option maxHeartbeats 2000000 in
theorem closureReaches_walk (all : Int) (pv : Value) (vs : List Value) (ls : List (List Int)) (w : World) (hall : (Lit.int .i64 all).wf = true) (hp : Sl 1 w pv vs.length vs) (hz : LsZ w vs ls) (hw : LzW ls) :
    Calls Try.prog 3 #[.int .i64 all, pv] w fun e w' => e = .returned (.bool true) ∧ Below w.heap.size w w' := by
  have HZ : Hid (LsZ w vs ls) := hz
  have HW : Hid (LzW ls) := hw
  have HP : Hid (Sl 1 w pv vs.length vs) := hp
  have HA : Hid (all ≤ 9223372036854775807) := (by simp [Lit.wf, IntKind.min, IntKind.max, IntKind.bits, IntKind.signed] at hall; unfold Hid; omega)
  clear hp hz hw hall
  go_enter Try.func3, Try.ntmps3
  go_wp2_with fail
  refine (speaks16_any w).mono ?_
  rintro e w1 ⟨rfl, hb⟩
  have X1 : Hid (Below w.heap.size w w1) := hb
  clear hb
  go_wp2_with fail
  refine (big16_any pv vs ls w1 (HP.out.below X1.out) (HZ.out.below X1.out) HW.out).mono ?_
  rintro e w1' ⟨⟨b, rfl, hB⟩, hw1⟩
  obtain rfl : w1 = w1' := hw1.symm
  clear hw1
  cases b with
  | true =>
    clear hB
    go_wp2
    go_ret
    exact ⟨rfl, X1.out⟩
  | false =>
    have BB : Hid (ls.length + ls.flatten.length ≤ 400) := hB rfl
    clear hB
    by_cases h30 : 1073741824 < all
    · have d : decide (1073741824 < all) = true := decide_eq_true h30
      go_wp2
      go_ret
      exact ⟨rfl, X1.out⟩
    · have d : decide (1073741824 < all) = false := decide_eq_false h30
      have HVL : Hid (vs.length ≤ 400) := by have h1 := HZ.out.1; have h2 := BB.out; unfold Hid; omega
      have HFL : Hid (ls.flatten.length ≤ 400) := by have h2 := BB.out; unfold Hid; omega
      go_wp2_with fail
      refine (rreach_any all pv vs ls w1 (HP.out.below X1.out) (HZ.out.below X1.out) (by have := HVL.out; omega) (by have := HFL.out; omega)).mono ?_
      rintro e w2 ⟨a2, n2, c2, r2, rfl, ho2, hr2, hm2, hb2⟩
      have X2 : Hid (Below w.heap.size w w2) := on_below X1.out hb2
      have O2 : Hid (OwnZ w1.heap.size w2 (.slice a2 n2 c2) n2 r2) := ho2
      have R2 : Hid (r2.Pairwise (· < ·)) := hr2
      have M2 : Hid (∀ x, x ∈ r2 ↔ Fol (fitF all ls) x) := hm2
      have L2 : Hid (r2.length = n2) := ho2.len
      obtain ⟨a2', c2', e2, hc1, hc2, -⟩ := owned_slice ho2
      injection e2 with e21 _ e23
      subst e21
      subst e23
      unfold maxLen at hc2
      clear ho2 hr2 hm2 hb2 d
      go_wp2_with fail
      refine (kreach_any all pv vs ls w2 (HP.out.below X2.out) (HZ.out.below X2.out) (by have := HVL.out; omega) (by have := HFL.out; omega) HA.out).mono ?_
      rintro e w3 ⟨a3, n3, c3, r3, rfl, ho3, hr3, hm3, hb3⟩
      obtain rfl : r3 = r2 := rise_unique hr3 R2.out fun x => (hm3 x).trans (M2.out x).symm
      have X3 : Hid (Below w.heap.size w w3) := on_below X2.out hb3
      have O23 : Hid (OwnZ w1.heap.size w3 (.slice a2 n2 c2) n2 r3) := O2.out.below hb3
      have Z3 : Hid (Zs w3 (.slice a3 n3 c3) r3) := ho3.zs
      clear ho3 hr3 hm3 hb3 O2
      go_wp2_with fail
      refine (same9_any _ _ r3 r3 w3 Z3.out O23.out.zs).mono ?_
      rintro e w4 ⟨rfl, hb4⟩
      rw [sameI_self]
      have X4 : Hid (Below w.heap.size w w4) := on_below X3.out hb4
      have O4 : Hid (OwnZ w1.heap.size w4 (.slice a2 n2 c2) n2 r3) := O23.out.below hb4
      have RL : Hid (r3.length ≤ 1000000000) := by
        have h1 := fol_flat (rise_nodup R2.out) (fun x hx => (M2.out x).1 hx)
        have h2 := fitF_flat all ls
        have h3 := HFL.out
        unfold Hid
        omega
      have RS : Hid (r3.Pairwise (· ≤ ·)) := R2.out.imp (fun h => Int.le_of_lt h)
      obtain ⟨m, hm⟩ : ∃ m, vs.length = m := ⟨_, rfl⟩
      have HF : Hid (ls.length = m) := by rw [← hm]; exact HZ.out.1.symm
      have hp' := HP.out
      obtain ⟨-, ao, pc, rfl, hp2, hp3, -, -⟩ := hp'
      unfold maxLen at hp3
      have HP0 : Hid (Sl 1 w (.slice ao m pc) vs.length vs) := by
        have h1 := HP.out
        unfold Hid
        rw [hm] at h1 ⊢
        exact h1
      rw [hm] at hp2 ⊢
      have hm4 : m ≤ 400 := by rw [← hm]; exact HVL.out
      clear hb4 Z3 O23 X3 X2 X1 hm HP
      go_wp2
      go_loopw [27] (fun iv wr => ∃ i : Nat, i ≤ m ∧ iv = .int .i64 i ∧ Hid (OwnZ w1.heap.size wr (.slice a2 n2 c2) n2 r3) ∧ Hid (Below w.heap.size w wr)) (fun iv _ => m - (intOf iv).toNat)
      case atStart => exact ⟨0, by omega, rfl, O4, X4⟩
      case round =>
        clear O4 X4
        obtain ⟨i, hi, rfl, OO, XX⟩ := hrel
        by_cases hlt : i < m
        · obtain ⟨l, hl⟩ : ∃ l, ls[i]? = some l := ⟨_, List.getElem?_eq_getElem (by rw [HF.out]; exact hlt)⟩
          obtain ⟨lv, hlv, hlz⟩ := HZ.out.at hl
          obtain ⟨b0, off, rfl, ci⟩ := sl_at HP0.out XX.out hlv
          have LZ : Hid (Zs w lv l) := hlz
          have LL : Hid (l.length ≤ 1000000) := by have h1 := flat_le hl; have h2 := HFL.out; unfold Hid; omega
          obtain ⟨la, lc, rfl, hl2, hl3⟩ := zs_shape hlz
          clear hl hlv hlz
          go_wp2_with fail
          refine (kfits_any all _ l wr (LZ.out.below XX.out)).mono ?_
          rintro e wr' ⟨⟨b1, rfl, hb1⟩, hwr⟩
          obtain rfl : wr = wr' := hwr.symm
          clear hwr
          go_wp2_with fail
          refine (rfits16_any all _ l wr (LZ.out.below XX.out)).mono ?_
          rintro e w5 ⟨⟨b2, rfl, hb2⟩, hb5⟩
          have X5 : Hid (Below w.heap.size w w5) := on_below XX.out hb5
          have O5 : Hid (OwnZ w1.heap.size w5 (.slice a2 n2 c2) n2 r3) := OO.out.below hb5
          obtain rfl : b1 = b2 := by
            rw [Bool.eq_iff_iff, hb1, hb2]
          clear hb1 hb2 hb5 OO XX ci
          have dd : (b1 != b1) = false := by simp
          go_wp2_with fail
          refine (kclosed_any _ _ r3 l w5 O5.out.zs (LZ.out.below X5.out) RL.out RS.out).mono ?_
          rintro e w6 ⟨⟨b3, rfl, hb3⟩, hb6⟩
          have X6 : Hid (Below w.heap.size w w6) := on_below X5.out hb6
          have O6 : Hid (OwnZ w1.heap.size w6 (.slice a2 n2 c2) n2 r3) := O5.out.below hb6
          have B3 : Hid (b3 = true ↔ leftZ r3 l = []) := hb3
          clear hb3 hb6 O5 X5 dd
          go_wp2_with fail
          refine (rleft_any _ _ r3 l w6 O6.out.zs (LZ.out.below X6.out) LL.out).mono ?_
          rintro e w7 ⟨a7, m7, c7, rfl, ho7, hb7⟩
          have X7 : Hid (Below w.heap.size w w7) := on_below X6.out hb7
          have O7 : Hid (OwnZ w1.heap.size w7 (.slice a2 n2 c2) n2 r3) := O6.out.below hb7
          obtain ⟨a7', c7', e7, hc71, hc72, -⟩ := owned_slice ho7
          injection e7 with e71 _ e73
          subst e71
          subst e73
          unfold maxLen at hc72
          have d3 : (b3 = true ↔ m7 = 0) := by
            rw [B3.out]
            have h1 := ho7.len
            constructor
            · intro h; rw [h] at h1; exact h1.symm
            · intro h; exact List.eq_nil_of_length_eq_zero (by omega)
          clear ho7 hb7 O6 X6 B3
          by_cases h0 : m7 = 0
          · obtain rfl : b3 = true := d3.2 h0
            subst h0
            clear d3
            go_wp2
            go_roundw
            case rel => exact ⟨i + 1, by omega, by go_num, O7, X7⟩
            case measure => simp [intOf]; omega
          · obtain rfl : b3 = false := by cases b3 with
              | false => rfl
              | true => exact absurd (d3.1 rfl) h0
            have d0 : decide ((m7 : Int) = 0) = false := decide_eq_false (by omega)
            clear d3
            go_wp2
            go_roundw
            case rel => exact ⟨i + 1, by omega, by go_num, O7, X7⟩
            case measure => simp [intOf]; omega
        · obtain rfl : m = i := by omega
          go_wp2
          go_ret
          exact ⟨rfl, XX.out⟩

end Go.Proofs.Ytpffbfagabelfaa
