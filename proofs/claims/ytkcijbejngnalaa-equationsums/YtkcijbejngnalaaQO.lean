/-
  Left: the blocks of an equation that aren't known.
-/
import Derived.Test.YtkcijbejngnalaaQN
namespace Go.Proofs.Ytkcijbejngnalaa
open Go.RowKit
set_option linter.unusedVariables false

/-- Those of some numbers that aren't among others. -/
def leftZ (l of : List Int) : List Int := of.filter fun x => !decide (x ∈ l)
theorem leftZ_take {l of : List Int} {i : Nat} {z : Int} (h : of[i]? = some z) : leftZ l (of.take (i + 1)) = leftZ l (of.take i) ++ (if z ∈ l then [] else [z]) := by
  obtain ⟨hi, e⟩ := List.getElem?_eq_some_iff.1 h
  unfold leftZ
  rw [List.take_succ_eq_append_getElem hi, List.filter_append, e]
  by_cases hz : z ∈ l <;> simp [hz]
theorem leftZ_le (l of : List Int) (i : Nat) : (leftZ l (of.take i)).length ≤ i := by
  unfold leftZ
  have h1 := List.length_filter_le (fun x => !decide (x ∈ l)) (of.take i)
  have h2 := List.length_take_le i of
  omega

set_option maxRecDepth 100000 in
set_option maxHeartbeats 1000000 in
theorem qleft_any (ov vv : Value) (of l : List Int) (b : Nat) (kv : Value) (w : World) (hz : Zs w ov of) (hc : w.cell? ⟨b, 0, none⟩ = some kv) (hk : Zs w kv l) (hm : of.length ≤ 1000000) :
    Calls Try.prog 27 #[.agg #[ov, vv], .func (.func 28) #[] #[.pointer (some ⟨b, 0, none⟩)]] w fun e w' => ∃ a m c, e = .returned (.slice a m c) ∧ OwnZ w.heap.size w' (.slice a m c) m (leftZ l of) ∧ Below w.heap.size w w' := by
  have HZ : Hid (Zs w ov of) := hz
  obtain ⟨ao, oc, rfl, ho2, ho3⟩ := zs_shape hz
  have PC : Hid (∀ W, Below w.heap.size w W → ∀ z, Calls Try.prog 58 #[.func (.func 28) #[] #[.pointer (some ⟨b, 0, none⟩)], .int .i64 z] W fun e w' => e = .returned (.bool (decide (z ∈ l))) ∧ w' = W) := fun W hW z => says_any z b kv l W ((hW.cell (cell_block_lt hc)).trans hc) (hk.below hW)
  obtain ⟨n, hn⟩ : ∃ n, of.length = n := ⟨_, rfl⟩
  have HN : Hid (of.length = n) := hn
  rw [hn] at hm ho2 HZ ⊢
  clear hz hc hk hn
  go_enter Try.func27, Try.ntmps27
  go_upto_region 1 with fail
  obtain ⟨w1, hw1⟩ : ∃ x, w.alloc (.cells #[.slice ao n oc, vv] 41) = x := ⟨_, rfl⟩
  have E1 : Hid (EqB w1 w.heap.size (.slice ao n oc) vv) := by rw [← hw1]; exact EqB.new _ _ _ _
  have B1 : Hid (Below w.heap.size w w1) := by rw [← hw1]; exact below_alloc _ _
  rw [hw1]
  clear hw1
  obtain ⟨c0, -⟩ := E1.out
  go_wp2
  clear c0 E1
  go_loopw [5, 11] (fun lv iv wr => ∃ (i m : Nat) (a : Option Addr) (c : Nat), i ≤ n ∧ iv = .int .i64 i ∧ lv = .slice a m c ∧ Hid (OwnZ w.heap.size wr (.slice a m c) m (leftZ l (of.take i))) ∧ Hid (Below w.heap.size w wr)) (fun _ iv _ => n - (intOf iv).toNat)
  case atStart => exact ⟨0, 0, none, 0, by omega, rfl, rfl, OwnZ.nil _ _, B1⟩
  case round =>
    clear B1
    obtain ⟨i, m, a, c, hi, rfl, rfl, OO, BB⟩ := hrel
    by_cases hlt : i < n
    · obtain ⟨z, hz⟩ : ∃ z, of[i]? = some z := ⟨_, List.getElem?_eq_getElem (by rw [HN.out]; exact hlt)⟩
      have HZ' : Zs w (.slice ao n oc) of := HZ.out
      obtain ⟨bo, off, rfl, ci⟩ := zs_at HZ' BB.out hz
      have NX : Hid (leftZ l (of.take (i + 1)) = leftZ l (of.take i) ++ (if z ∈ l then [] else [z])) := leftZ_take hz
      have ML : Hid (m ≤ i) := by have h1 := OO.out.len; have h2 := leftZ_le l of i; unfold Hid; omega
      clear hz HZ'
      go_wp2_with fail
      refine (PC.out wr BB.out z).mono ?_
      rintro e w' ⟨rfl, rfl⟩
      by_cases hzl : z ∈ l
      · have O4 : Hid (OwnZ w.heap.size w' (.slice a m c) m (leftZ l (of.take (i + 1)))) := by
          have h1 := NX.out
          rw [if_pos hzl, List.append_nil] at h1
          rw [h1]
          exact OO.out
        have d : decide (z ∈ l) = true := decide_eq_true hzl
        clear NX OO
        go_wp2
        go_roundw
        case rel => exact ⟨i + 1, m, a, c, by omega, by go_num, rfl, O4, BB⟩
        case measure => simp [intOf]; omega
      · have NY : Hid (leftZ l (of.take (i + 1)) = leftZ l (of.take i) ++ [z]) := by
          have h1 := NX.out
          rw [if_neg hzl] at h1
          exact h1
        have d : decide (z ∈ l) = false := decide_eq_false hzl
        have OA : Hid (OwnZ w.heap.size (w'.alloc (.cells #[.int .i64 z] 3)) (.slice a m c) m (leftZ l (of.take i))) := OO.out.alloc _
        have BA : Hid (Below w.heap.size w (w'.alloc (.cells #[.int .i64 z] 3))) := BB.out.alloc BB.out.size _
        have hmi : m + 1 ≤ 1000000000 := by have := ML.out; omega
        clear NX OO
        go_wp2_with (at_builtin; refine wpList_addZ _ rfl (.tmp 19) (.tmp 21) rfl w.heap.size (.slice a m c) m _ rfl OA.out _ 1 [z] rfl (zs_one _ _ _) hmi BA.out.size ?_; intro a4 k4 w4 ho4 hg4 hat4 hnc4 hcm4)
        have O4 : Hid (OwnZ w.heap.size w4 (.slice a4 (m + 1) k4) (m + 1) (leftZ l (of.take (i + 1)))) := by rw [NY.out]; exact ho4
        have B4 : Hid (Below w.heap.size w w4) := below_added BA.out OA.out (Nat.le_refl _) BA.out.size hg4
        clear ho4 hg4 hat4 OA BA BB NY
        go_roundw
        case rel => exact ⟨i + 1, m + 1, a4, k4, by omega, by go_num, rfl, O4, B4⟩
        case measure => simp [intOf]; omega
    · obtain rfl : n = i := by omega
      have R : Hid (OwnZ w.heap.size wr (.slice a m c) m (leftZ l of)) := by
        have h1 := OO.out
        rw [List.take_of_length_le (by rw [HN.out]; exact Nat.le_refl _)] at h1
        exact h1
      clear OO
      go_wp2
      go_ret
      exact ⟨_, _, _, rfl, R.out, BB.out⟩

end Go.Proofs.Ytkcijbejngnalaa
