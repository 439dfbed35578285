/-
  The walk of the statement CrcBursts.
-/
import Derived.Test.YtjbgfgpclkabjaaConst
import Derived.Test.YtjbgfgpclkabjaaMathD
import Derived.Test.YtjbgfgpclkabjaaStr
import Derived.RegionTactic
import Derived.Deep.RegionWith
namespace Go.Proofs.Ytjbgfgpclkabjaa
open Go.RowKit
set_option linter.unusedVariables false

theorem and_bit (M k : Nat) (hM : M < 4294967296) : bits BinOp.and IntKind.u32 ((M : Int) / 2 ^ k) 1 = if M.testBit k then 1 else 0 := by
  have hle : M / 2 ^ k ≤ M := Nat.div_le_self _ _
  have e := u32_and_nat (M / 2 ^ k) 1 (by omega) (by omega)
  have e2 : ((M / 2 ^ k : Nat) : Int) = (M : Int) / 2 ^ k := by simp
  rw [e2, Nat.and_one_is_mod] at e
  refine Eq.trans e ?_
  rw [Nat.testBit_eq_decide_div_mod_eq]
  by_cases h : M / 2 ^ k % 2 = 1
  · simp [h]
  · have h0 : M / 2 ^ k % 2 = 0 := by omega
    simp [h0]

theorem turns_off {l : List UInt8} {F M k : Nat} (h : M.testBit k = false) : MathA.turns l F M (k + 1) = MathA.turns l F M k := by
  simp [MathA.turns, h]

theorem turns_out {l : List UInt8} {F M k : Nat} (h : ¬ F + k < 8 * l.length) : MathA.turns l F M (k + 1) = MathA.turns l F M k := by
  simp [MathA.turns, h]

theorem turns_on {l : List UInt8} {F M k : Nat} (h : M.testBit k = true) (h2 : F + k < 8 * l.length) : MathA.turns l F M (k + 1) = MathA.turn (MathA.turns l F M k) (F + k) := by
  simp [MathA.turns, h, h2]

theorem turn_cells {t : List UInt8} {m : Nat} {y : UInt8} {h : m / 8 < t.length} (hy : t[m / 8] = y) :
    (MathA.turn t m).map bv = (t.map bv).set (m / 8) (.int .u8 (bits BinOp.xor IntKind.u8 (y.toNat : Int) (128 / 2 ^ (m % 8)))) := by
  have hyl := y.toNat_lt
  have h2 : 128 / 2 ^ (m % 8) < 2 ^ 8 := Nat.lt_of_le_of_lt (Nat.div_le_self _ _) (by omega)
  have e := u8_xor_nat y.toNat (128 / 2 ^ (m % 8)) (by omega) (by omega)
  have e2 : ((128 / 2 ^ (m % 8) : Nat) : Int) = (128 : Int) / 2 ^ (m % 8) := by simp
  rw [e2] at e
  rw [e, MathA.turn, List.map_set]
  have e3 : t.getD (m / 8) 0 = y := by simp [List.getD, h, hy]
  rw [e3]
  congr 1
  have h3 := Nat.xor_lt_two_pow hyl h2
  simp only [bv, MathA.turn8, UInt8.toNat_ofNat']
  rw [Nat.mod_eq_of_lt h3]

theorem IsTab.setCell {w : World} {g q j : Nat} {u : Value} (h : IsTab w g) (hq : g ≠ q) : IsTab (w.setCell ⟨q, j, none⟩ u).drew g := by
  intro i hi
  exact (World.cell?_of_block (Below.heap_setCell w ⟨q, j, none⟩ u g hq)).trans (h i hi)

set_option maxRecDepth 100000 in
set_option maxHeartbeats 1000000 in
theorem bursts_walk (v0 : Value) (l : List UInt8) (at' mask : Int) (w : World) (h0 : Bs w v0 l) (hat : (Lit.int .u16 at').wf = true) (hmask : (Lit.int .u32 mask).wf = true) :
    Calls Try.prog 5 #[v0, .int .u16 at', .int .u32 mask] w fun e w' => e = .returned (.bool true) ∧ Below w.heap.size w w' := by
  obtain ⟨ha0, ha1⟩ := bounds_u16 hat
  obtain ⟨hm0, hm1⟩ := bounds_u32 hmask
  clear hat hmask
  obtain ⟨A, rfl⟩ := Int.eq_ofNat_of_zero_le ha0
  obtain ⟨M, rfl⟩ := Int.eq_ofNat_of_zero_le hm0
  have B0 := h0
  obtain ⟨_, a0, c0, rfl, hc0, hm0', _, _⟩ := h0
  unfold maxLen at hm0'
  have H0 : Hid (Bs w (.slice a0 l.length c0) l) := B0
  clear B0
  by_cases hA : 500 < l.length
  · go_enter Try.func5, Try.ntmps5
    go_wp2_with fail
    refine (speaks_any w).mono ?_
    rintro e w1 ⟨rfl, hb1⟩
    have X1 : Hid (Below w.heap.size w w1) := hb1
    clear hb1
    go_wp2
    go_ret
    exact ⟨rfl, X1.out⟩
  have hA' : l.length ≤ 500 := by omega
  clear hA
  by_cases hM : M = 0
  · subst hM
    go_enter Try.func5, Try.ntmps5
    go_wp2_with fail
    refine (speaks_any w).mono ?_
    rintro e w1 ⟨rfl, hb1⟩
    have X1 : Hid (Below w.heap.size w w1) := hb1
    clear hb1
    go_wp2
    go_ret
    exact ⟨rfl, X1.out⟩
  have hM' : ((M : Int) == 0) = false := by simp; omega
  go_enter Try.func5, Try.ntmps5
  go_wp2_with fail
  refine (speaks_any w).mono ?_
  rintro e w1 ⟨rfl, hb1⟩
  have X1 : Hid (Below w.heap.size w w1) := hb1
  clear hb1
  go_wp2_with fail
  refine (new_c _).mono ?_
  rintro e w2 ⟨rfl, hT, hb2, hs2⟩
  have X2 : Hid (Below w.heap.size w w2) := X1.out.trans (hb2.mono X1.out.size)
  clear hs2
  generalize w1.heap.size = g at *
  have T2 : Hid (IsTab w2 g) := hT
  clear hb2 hT X1
  go_wp2_with fail
  refine (seal_any g _ l _ T2.out (H0.out.below X2.out) (by omega)).mono ?_
  rintro e w3 ⟨rfl, ho, hb⟩
  have X3 : Hid (Below w.heap.size w w3) := X2.out.trans (hb.mono X2.out.size)
  have T3 : Hid (IsTab w3 g) := T2.out.below hb
  clear hb
  have hgl : g < w2.heap.size := cell_block_lt (T2.out 0 (by omega))
  have Hq : Hid (w.heap.size ≤ w2.heap.size + 1 ∧ g < w2.heap.size + 1) := ⟨by have := X2.out.size; omega, by omega⟩
  clear X2 T2 hgl
  generalize w2.heap.size + 1 = q at *
  go_wp2_with fail
  obtain ⟨F, hF, hF8⟩ : ∃ F : Nat, (A : Int) % (8 * ((l.length : Int) + 4)) = (F : Int) ∧ F < 8 * (l.length + 4) := ⟨A % (8 * (l.length + 4)), by simp, Nat.mod_lt _ (by omega)⟩
  rw [hF]
  clear hF
  go_loopw [31] (fun i wr => ∃ k : Nat, k ≤ 32 ∧ i = .int .i64 k ∧ wr.ownsRow w2.heap.size 5 1 (.slice (some ⟨q, 0, none⟩) (l.length + 4) (l.length + 4)) (l.length + 4) ((MathA.turns (l ++ be4 (MathA.sum l)) F M k).map bv) ∧ Below w.heap.size w wr ∧ IsTab wr g) (fun i _ => 32 - (intOf i).toNat)
  case atStart => exact ⟨0, by omega, rfl, ho, X3.out, T3.out⟩
  case round =>
    obtain ⟨k, hk, rfl, hown, hbel, htab⟩ := hrel
    have XB : Hid (Below w.heap.size w wr) := hbel
    have TB : Hid (IsTab wr g) := htab
    clear hbel htab
    by_cases hlt : k < 32
    · have hbit := and_bit M k (by omega)
      cases hMk : M.testBit k with
      | false =>
        rw [hMk] at hbit
        simp only [Bool.false_eq_true, if_false] at hbit
        go_wp2
        go_roundw
        case rel => exact ⟨k + 1, by omega, by go_num, by rw [turns_off hMk]; exact hown, XB.out, TB.out⟩
        case measure => simp [intOf]; omega
      | true =>
        rw [hMk] at hbit
        simp only [if_true] at hbit
        by_cases hin : F + k < 8 * (l.length + 4)
        · have hin' : (F : Int) + (k : Int) < 8 * ((l.length : Int) + 4) := by omega
          have hlenT : (MathA.turns (l ++ be4 (MathA.sum l)) F M k).length = l.length + 4 := by rw [MathA.turns_length]; simp [be4]
          have hjl : (F + k) / 8 < (MathA.turns (l ++ be4 (MathA.sum l)) F M k).length := by omega
          have hcl := hown.cellAt ((F + k) / 8) (by omega)
          rw [map_bv_at _ _ hjl] at hcl
          have hfr := hown.frozenAt ((F + k) / 8)
          have HO := hown.stored ((F + k) / 8)
          have HT : Hid (MathA.turns (l ++ be4 (MathA.sum l)) F M (k + 1) = MathA.turn (MathA.turns (l ++ be4 (MathA.sum l)) F M k) (F + k)) := turns_on hMk (by simp [be4]; omega)
          generalize MathA.turns (l ++ be4 (MathA.sum l)) F M k = t at *
          clear hown hlenT
          generalize hy : t[(F + k) / 8] = y at *
          have HY : Hid (t[(F + k) / 8] = y) := hy
          have HOO : Hid (∀ (u : Value), (wr.setCell ⟨q, (F + k) / 8, none⟩ u).ownsRow w2.heap.size 5 1 (.slice (some ⟨q, 0, none⟩) (l.length + 4) (l.length + 4)) (l.length + 4) ((t.map bv).set ((F + k) / 8) u) ∧ wr.grownBy (wr.setCell ⟨q, (F + k) / 8, none⟩ u) (some q)) := HO
          clear hy HO
          go_wp2
          go_region
          go_wp2
          go_roundw
          case rel => exact ⟨k + 1, by omega, by go_num, by rw [HT.out, turn_cells HY.out]; exact (HOO.out _).1.drew, (XB.out.setCell (by exact Hq.out.1) _).drew, TB.out.setCell (by have := Hq.out.2; omega)⟩
          case measure => simp [intOf]; omega
        · have hin' : ¬ (F : Int) + (k : Int) < 8 * ((l.length : Int) + 4) := by omega
          go_wp2
          go_roundw
          case rel => exact ⟨k + 1, by omega, by go_num, by rw [turns_out (by simp [be4]; omega)]; exact hown, XB.out, TB.out⟩
          case measure => simp [intOf]; omega
    · have hk32 : k = 32 := by omega
      subst hk32
      have hst := str_toList
      have hS : Bs wr (.slice (some ⟨q, 0, none⟩) (l.length + 4) (l.length + 4)) (MathA.turns (l ++ be4 (MathA.sum l)) F M 32) := by
        have h1 := owned_sl hown
        unfold Bs
        rw [MathA.turns_length, show (l ++ be4 (MathA.sum l)).length = l.length + 4 by simp [be4]]
        exact h1
      have hx0 := conv_str (W := wr.drew) (hS.below (Below.refl _ _).drew)
      have HR : Hid (∀ W, Below wr.heap.size wr W → Calls Try.prog 20 #[.pointer (some ⟨g, 0, none⟩), .slice (some ⟨q, 0, none⟩) (l.length + 4) (l.length + 4)] W fun e w' => e = .returned (.bool (rightB (MathA.turns (l ++ be4 (MathA.sum l)) F M 32))) ∧ Below wr.heap.size wr w') :=
        fun W hW => (right_any g _ _ W (TB.out.below hW) (hS.below hW)).mono fun e w' h => ⟨h.1, hW.trans (h.2.mono hW.size)⟩
      have HX : Hid (∀ W, Below wr.heap.size wr W → (convert 22 9 (.slice (some ⟨q, 0, none⟩) (l.length + 4) (l.length + 4))).run Try.prog W = .ok (.string (str (MathA.turns (l ++ be4 (MathA.sum l)) F M 32))) W) :=
        fun W hW => conv_str (hS.below hW)
      have HSe : Hid (∀ W, Below wr.heap.size wr W → Calls Try.prog 16 #[.pointer (some ⟨g, 0, none⟩), .slice a0 l.length c0] W fun e w' => ∃ p, e = .returned (.slice (some ⟨p, 0, none⟩) (l.length + 4) (l.length + 4)) ∧ Below wr.heap.size wr w' ∧ (convert 22 9 (.slice (some ⟨p, 0, none⟩) (l.length + 4) (l.length + 4))).run Try.prog w' = .ok (.string (str (l ++ be4 (MathA.sum l)))) w') :=
        fun W hW => (seal_any g _ l W (TB.out.below hW) ((H0.out.below XB.out).below hW) (by omega)).mono fun e w' h => ⟨_, h.1, hW.trans (h.2.2.mono hW.size), conv_str (sealed_bs h.2.1)⟩
      have HE : Hid (rightB (MathA.turns (l ++ be4 (MathA.sum l)) F M 32) = decide (MathA.turns (l ++ be4 (MathA.sum l)) F M 32 = l ++ be4 (MathA.sum l))) := MathA.turns_right l F M
      clear hS hown
      generalize MathA.turns (l ++ be4 (MathA.sum l)) F M 32 = t at *
      generalize l ++ be4 (MathA.sum l) = s at *
      have hv : (rightB t == (t == s)) = true := by rw [HE.out]; by_cases h : t = s <;> simp [h]
      clear HE
      go_wp2
      go_region_with (first | (go_at_call 20; refine (HR.out _ (by exact (Below.refl _ _).drew)).mono ?_; rintro e w5 ⟨rfl, hb5⟩; have Y5 : Hid (Below wr.heap.size wr w5) := hb5; have hx5 := HX.out w5 hb5; clear hb5) | (go_at_call 16; refine (HSe.out _ (by exact Y5.out)).mono ?_; rintro e w6 ⟨p, rfl, hb6, hc6⟩; have Y6 : Hid (Below wr.heap.size wr w6) := hb6; have hx6 := HX.out w6 hb6; clear hb6))
      all_goals
        go_wp2
        go_ret
        exact ⟨rfl, XB.out.trans (Y6.out.mono XB.out.size)⟩

end Go.Proofs.Ytjbgfgpclkabjaa
