/-
  batch: the values; known, Left, rest, which.
-/
import Derived.Test.YtkckbeekehecnaaBC
import Derived.Test.YtkckbeekehecnaaZQ
import Derived.WalkSpells
import Derived.Defers
import Derived.Recover
namespace Go.Proofs.Ytkckbeekehecnaa
open Go.RowKit
set_option linter.unusedVariables false
set_option maxRecDepth 100000

/-- The values of blocks, as batch has them: those that are known, of so many bytes; nothing of the others. -/
structure Vs (W : World) (bx vb n size : Nat) (us : List Value) (K : List Int) (V : Int → List UInt8) : Prop where
  box : W.heap[bx]? = some (.cells #[.slice (some ⟨vb, 0, none⟩) n n] 23 (0, 0))
  row : W.ownsRow 0 38 1 (.slice (some ⟨vb, 0, none⟩) n n) n us
  kn : ∀ (i : Nat) (u : Value), us[i]? = some u → (i : Int) ∈ K → ∃ q c, u = .slice (some ⟨q, 0, none⟩) size c ∧ OwB 0 W u size (V i)
  un : ∀ (i : Nat) (u : Value), us[i]? = some u → (i : Int) ∉ K → u = .slice none 0 0
  rg : ∀ x ∈ K, 0 ≤ x ∧ x < (n : Int)
theorem Vs.len {W : World} {bx vb n size : Nat} {us : List Value} {K : List Int} {V : Int → List UInt8} (h : Vs W bx vb n size us K V) : us.length = n := by
  have := h.row.1
  omega
theorem Vs.keptK {W W' : World} {bx vb n size : Nat} {us : List Value} {K : List Int} {V : Int → List UInt8} (h : Vs W bx vb n size us K V) (hk : ∀ (q : Nat) (cs : Array Value) (t : TypeId), (t = 23 ∨ t = 38 ∨ t = 5) → W.heap[q]? = some (.cells cs t (0, 0)) → W'.heap[q]? = some (.cells cs t (0, 0))) : Vs W' bx vb n size us K V where
  box := hk _ _ _ (.inl rfl) h.box
  row := owns_kept h.row fun q hq => by obtain ⟨cs, hc⟩ := owns_type' h.row q hq; exact (hk q cs _ (.inr (.inl rfl)) hc).trans hc.symm
  kn i u hu hi := by
    obtain ⟨q, c, h1, h2⟩ := h.kn i u hu hi
    exact ⟨q, c, h1, h2.kept fun q hq => by obtain ⟨cs, hc⟩ := owns_type' h2 q hq; exact (hk q cs _ (.inr (.inr rfl)) hc).trans hc.symm⟩
  un := h.un
  rg := h.rg
theorem Vs.below {W W' : World} {bx vb n size : Nat} {us : List Value} {K : List Int} {V : Int → List UInt8} (h : Vs W bx vb n size us K V) (hb : Below W.heap.size W W') : Vs W' bx vb n size us K V := h.keptK fun q cs t _ hq => (hb.block q (Array.getElem?_eq_some_iff.1 hq).1).trans hq
theorem Vs.keepT {W W' : World} {bx vb n size : Nat} {us : List Value} {K : List Int} {V : Int → List UInt8} (h : Vs W bx vb n size us K V) (hk : KeepT W W') : Vs W' bx vb n size us K V := h.keptK fun q cs t ht hq => hk q cs t (by rcases ht with rfl | rfl | rfl <;> decide) (by rcases ht with rfl | rfl | rfl <;> decide) hq
theorem Vs.at {W : World} {bx vb n size : Nat} {us : List Value} {K : List Int} {V : Int → List UInt8} (h : Vs W bx vb n size us K V) {i : Nat} (hi : i < n) : ∃ u, us[i]? = some u ∧ W.cell? ⟨vb, i, none⟩ = some u := by
  have hl := h.len
  obtain ⟨u, hu⟩ : ∃ u, us[i]? = some u := ⟨_, List.getElem?_eq_getElem (by omega)⟩
  refine ⟨u, hu, ?_⟩
  have := h.row.cells (g := vb) rfl i u hu
  rw [Addr.add_lit] at this
  simpa using this

theorem bsolve1_any (z : Int) (bx vb n size : Nat) (us : List Value) (K : List Int) (V : Int → List UInt8) (w : World) (h : Vs w bx vb n size us K V) (h0 : 0 ≤ z) (h1 : z < (n : Int)) (hn : n ≤ 1000000) :
    Calls Try.prog 27 #[.int .i64 z, .pointer (some ⟨bx, 0, none⟩)] w fun e w' => e = .returned (.bool (decide (z ∈ K))) ∧ w' = w := by
  obtain ⟨i, rfl⟩ : ∃ i : Nat, z = i := ⟨z.toNat, by omega⟩
  have hi : i < n := by omega
  obtain ⟨u, hu, cu⟩ := h.at hi
  have cb : w.cell? ⟨bx, 0, none⟩ = some (.slice (some ⟨vb, 0, none⟩) n n) := by simp [World.cell?, h.box]
  have qT : ∀ (w : World) (a : Option Addr) (n c : Nat), (binOp .neq 38 (.slice a n c) (.slice none 0 0)).run Try.prog w = .ok (.bool (!a.isNone)) w := fun w a n c => run_neq_slice_nil_any w _ _ a n c 0 0 Try.underlying38
  by_cases hk : (i : Int) ∈ K
  · obtain ⟨q, c, rfl, -⟩ := h.kn i u hu hk
    have hd : decide ((i : Int) ∈ K) = true := decide_eq_true hk
    rw [hd]
    clear h hk hd
    go_enter Try.func27, Try.ntmps27
    go_wp2
    go_ret
    exact ⟨rfl, rfl⟩
  · obtain rfl := h.un i u hu hk
    have hd : decide ((i : Int) ∈ K) = false := decide_eq_false hk
    rw [hd]
    clear h hk hd
    go_enter Try.func27, Try.ntmps27
    go_wp2
    go_ret
    exact ⟨rfl, rfl⟩
theorem bsays_any (z : Int) (bx vb n size : Nat) (us : List Value) (K : List Int) (V : Int → List UInt8) (w : World) (h : Vs w bx vb n size us K V) (h0 : 0 ≤ z) (h1 : z < (n : Int)) (hn : n ≤ 1000000) :
    Calls Try.prog 48 #[.func (.func 27) #[] #[.pointer (some ⟨bx, 0, none⟩)], .int .i64 z] w fun e w' => e = .returned (.bool (decide (z ∈ K))) ∧ w' = w := by
  have HC := bsolve1_any z bx vb n size us K V w h h0 h1 hn
  clear h h0 h1
  go_enter_defers Try.func48, Try.ntmps48
  go_wp2_with fail
  refine HC.mono ?_
  rintro e w' ⟨rfl, rfl⟩
  go_wp2
  refine leaves_cons (f := 56) (args := #[]) (by simp) (by simp [go_sem]) ?_
  refine (quiet _).mono ?_
  rintro e u' w'' ⟨rfl, rfl, rfl⟩
  simp [Leaves, settle, results, Try.results48, go_sem]

set_option maxRecDepth 100000 in
set_option maxHeartbeats 1000000 in
/-- LEFT: the blocks of an equation whose values aren't known. -/
theorem bleft_any (ov vv : Value) (of : List Int) (bx vb nb size : Nat) (us : List Value) (l : List Int) (V : Int → List UInt8) (w : World) (hz : Zs w ov of) (hc : Vs w bx vb nb size us l V) (hrg : ∀ z ∈ of, 0 ≤ z ∧ z < (nb : Int)) (hnb : nb ≤ 1000000) (hm : of.length ≤ 1000000) :
    Calls Try.prog 30 #[.agg #[ov, vv], .func (.func 27) #[] #[.pointer (some ⟨bx, 0, none⟩)]] w fun e w' => ∃ a m c, e = .returned (.slice a m c) ∧ OwnZ w.heap.size w' (.slice a m c) m (leftZ l of) ∧ Below w.heap.size w w' := by
  have HZ : Hid (Zs w ov of) := hz
  obtain ⟨ao, oc, rfl, ho2, ho3⟩ := zs_shape hz
  have PC : Hid (∀ W, Below w.heap.size w W → ∀ z ∈ of, Calls Try.prog 48 #[.func (.func 27) #[] #[.pointer (some ⟨bx, 0, none⟩)], .int .i64 z] W fun e w' => e = .returned (.bool (decide (z ∈ l))) ∧ w' = W) := fun W hW z hz => bsays_any z bx vb nb size us l V W (hc.below hW) (hrg z hz).1 (hrg z hz).2 hnb
  obtain ⟨n, hn⟩ : ∃ n, of.length = n := ⟨_, rfl⟩
  have HN : Hid (of.length = n) := hn
  rw [hn] at hm ho2 HZ ⊢
  clear hz hc hn hrg
  go_enter Try.func30, Try.ntmps30
  go_upto_region 1 with fail
  obtain ⟨w1, hw1⟩ : ∃ x, w.alloc (.cells #[.slice ao n oc, vv] 43) = x := ⟨_, rfl⟩
  have E1 : Hid (EqB w1 w.heap.size (.slice ao n oc) vv) := by rw [← hw1]; exact EqB.new _ _ _ _
  have B1 : Hid (Below w.heap.size w w1) := by rw [← hw1]; exact below_alloc _ _
  rw [hw1]
  clear hw1
  obtain ⟨c0, -⟩ := E1.out
  go_wp2
  clear c0 E1
  go_loopw [5, 11] (fun lv iv wr => ∃ (i m : Nat) (a : Option Addr) (c : Nat), i ≤ n ∧ iv = .int .i64 i ∧ lv = .slice a m c ∧ Hid (OwnZ w.heap.size wr (.slice a m c) m (leftZ l (of.take i))) ∧ Hid (Below w.heap.size w wr)) (fun _ iv _ => n - (intOf iv).toNat)
  case atStart => exact ⟨0, 0, none, 0, by omega, rfl, rfl, OwnZ.nil _ _, B1⟩
  case round =>
    clear B1
    obtain ⟨i, m, a, c, hi, rfl, rfl, OO, BB⟩ := hrel
    by_cases hlt : i < n
    · obtain ⟨z, hz⟩ : ∃ z, of[i]? = some z := ⟨_, List.getElem?_eq_getElem (by rw [HN.out]; exact hlt)⟩
      have HZ' : Zs w (.slice ao n oc) of := HZ.out
      obtain ⟨bo, off, rfl, ci⟩ := zs_at HZ' BB.out hz
      have NX : Hid (leftZ l (of.take (i + 1)) = leftZ l (of.take i) ++ (if z ∈ l then [] else [z])) := leftZ_take hz
      have ML : Hid (m ≤ i) := by have h1 := OO.out.len; have h2 := leftZ_le l of i; unfold Hid; omega
      have HM := PC.out wr BB.out z (List.mem_of_getElem? hz)
      clear hz HZ'
      go_wp2_with fail
      refine HM.mono ?_
      rintro e w' ⟨rfl, rfl⟩
      clear HM
      by_cases hzl : z ∈ l
      · have O4 : Hid (OwnZ w.heap.size w' (.slice a m c) m (leftZ l (of.take (i + 1)))) := by
          have h1 := NX.out
          rw [if_pos hzl, List.append_nil] at h1
          rw [h1]
          exact OO.out
        have d : decide (z ∈ l) = true := decide_eq_true hzl
        clear NX OO
        go_wp2
        go_roundw
        case rel => exact ⟨i + 1, m, a, c, by omega, by go_num, rfl, O4, BB⟩
        case measure => simp [intOf]; omega
      · have NY : Hid (leftZ l (of.take (i + 1)) = leftZ l (of.take i) ++ [z]) := by
          have h1 := NX.out
          rw [if_neg hzl] at h1
          exact h1
        have d : decide (z ∈ l) = false := decide_eq_false hzl
        have OA : Hid (OwnZ w.heap.size (w'.alloc (.cells #[.int .i64 z] 3)) (.slice a m c) m (leftZ l (of.take i))) := OO.out.alloc _
        have BA : Hid (Below w.heap.size w (w'.alloc (.cells #[.int .i64 z] 3))) := BB.out.alloc BB.out.size _
        have hmi : m + 1 ≤ 1000000000 := by have := ML.out; omega
        clear NX OO
        go_wp2_with (at_builtin; refine wpList_addZ _ rfl (.tmp 19) (.tmp 21) rfl w.heap.size (.slice a m c) m _ rfl OA.out _ 1 [z] rfl (zs_one _ _ _) hmi BA.out.size ?_; intro a4 k4 w4 ho4 hg4 hat4 hnc4 hcm4)
        have O4 : Hid (OwnZ w.heap.size w4 (.slice a4 (m + 1) k4) (m + 1) (leftZ l (of.take (i + 1)))) := by rw [NY.out]; exact ho4
        have B4 : Hid (Below w.heap.size w w4) := below_added BA.out OA.out (Nat.le_refl _) BA.out.size hg4
        clear ho4 hg4 hat4 OA BA BB NY
        go_roundw
        case rel => exact ⟨i + 1, m + 1, a4, k4, by omega, by go_num, rfl, O4, B4⟩
        case measure => simp [intOf]; omega
    · obtain rfl : n = i := by omega
      have R : Hid (OwnZ w.heap.size wr (.slice a m c) m (leftZ l of)) := by
        have h1 := OO.out
        rw [List.take_of_length_le (by rw [HN.out]; exact Nat.le_refl _)] at h1
        exact h1
      clear OO
      go_wp2
      go_ret
      exact ⟨_, _, _, rfl, R.out, BB.out⟩

end Go.Proofs.Ytkckbeekehecnaa
