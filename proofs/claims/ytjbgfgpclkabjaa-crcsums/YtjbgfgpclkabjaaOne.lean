/-
  The walk of the statement CrcOne.
-/
import Derived.Test.YtjbgfgpclkabjaaBursts
import Derived.Deep.RegionHeld3
namespace Go.Proofs.Ytjbgfgpclkabjaa
open Go.RowKit
set_option linter.unusedVariables false

/-- A slice that owns something has an address. -/
theorem owned_shape {w : World} {base : Nat} {e : TypeId} {v : Value} {n : Nat} {cs : List Value} (h : w.ownsRow base e 1 v n cs) (hn : 0 < n) : ∃ q cap, v = .slice (some ⟨q, 0, none⟩) n cap ∧ base ≤ q ∧ n ≤ cap ∧ cap ≤ maxLen := by
  rcases h.2 with ⟨_, h0⟩ | ⟨g, cap, cur, rfl, hb, _, hnc, hcm, _⟩
  · omega
  · exact ⟨g, cap, rfl, hb, hnc, hcm⟩

theorem below0 (w : World) : Below w.heap.size w w.drew := (Below.refl _ _).drew
theorem below1 (w : World) (o : Obj) : Below w.heap.size w (w.alloc o).drew := ((Below.refl _ _).alloc (Nat.le_refl _) _).drew
theorem below2 (w : World) (o o' : Obj) : Below w.heap.size w ((w.alloc o).alloc o').drew := (((Below.refl _ _).alloc (Nat.le_refl _) _).alloc (by simp) _).drew

/-- Sum of one slice that lies in a row of one. -/
theorem sum_at (g p : Nat) (v : Value) (l : List UInt8) (W : World) (hT : IsTab W g) (hc : W.cell? ⟨p, 0, none⟩ = some v) (hl : Bs W v l) :
    Calls Try.prog 17 #[.pointer (some ⟨g, 0, none⟩), .slice (some ⟨p, 0, none⟩) 1 1] W fun e w' => e = .returned (.int .u32 (MathA.sum l)) ∧ w' = W := by
  have h := sum_any g (.slice (some ⟨p, 0, none⟩) 1 1) [v] [l] W hT ?_ (parts_one hl)
  · simpa using h
  · refine ⟨rfl, _, _, rfl, Nat.le_refl _, by simp [maxLen], fun h => by simp at h, .inr ⟨_, _, rfl, ?_⟩⟩
    intro j u hj
    have : j = 0 := by have := (List.getElem?_eq_some_iff.1 hj).1; simp at this; omega
    subst this
    simp at hj
    subst hj
    exact hc

set_option maxRecDepth 100000 in
set_option maxHeartbeats 1000000 in
theorem one_walk (v0 : Value) (l : List UInt8) (at' mask : Int) (w : World) (h0 : Bs w v0 l) (hat : (Lit.int .u16 at').wf = true) (hmask : (Lit.int .u32 mask).wf = true) :
    Calls Try.prog 8 #[v0, .int .u16 at', .int .u32 mask] w fun e w' => e = .returned (.bool true) ∧ Below w.heap.size w w' := by
  obtain ⟨i0, hi, hz0, hz1, hz2⟩ := info_parts Try.info5
  obtain ⟨ha0, ha1⟩ := bounds_u16 hat
  obtain ⟨hm0, hm1⟩ := bounds_u32 hmask
  clear hat hmask
  obtain ⟨A, rfl⟩ := Int.eq_ofNat_of_zero_le ha0
  obtain ⟨M, rfl⟩ := Int.eq_ofNat_of_zero_le hm0
  have B0 := h0
  obtain ⟨hll, a0, c0, rfl, hc0, hm0', _, hcc⟩ := h0
  clear hll hcc
  unfold maxLen at hm0'
  have H0 : Hid (Bs w (.slice a0 l.length c0) l) := B0
  clear B0
  by_cases hA : 500 < l.length
  · go_enter Try.func8, Try.ntmps8
    go_wp2_with fail
    refine (speaks_any w).mono ?_
    rintro e w1 ⟨rfl, hb1⟩
    have X1 : Hid (Below w.heap.size w w1) := hb1
    clear hb1
    go_wp2
    go_ret
    exact ⟨rfl, X1.out⟩
  have hA' : l.length ≤ 500 := by omega
  clear hA
  by_cases hZ : l.length = 0
  · have hZ' : ((l.length : Int) == 0) = true := by simp [hZ]
    have HZ : Hid (l.length = 0) := hZ
    clear hZ
    go_enter Try.func8, Try.ntmps8
    go_wp2_with fail
    refine (speaks_any w).mono ?_
    rintro e w1 ⟨rfl, hb1⟩
    have X1 : Hid (Below w.heap.size w w1) := hb1
    clear hb1
    go_wp2
    go_ret
    exact ⟨rfl, X1.out⟩
  have hZ' : ((l.length : Int) == 0) = false := by simp; intro h; simp [h] at hZ
  have hpos : 0 < l.length := by omega
  clear hZ
  go_enter Try.func8, Try.ntmps8
  go_wp2_with fail
  refine (speaks_any w).mono ?_
  rintro e w1 ⟨rfl, hb1⟩
  have X1 : Hid (Below w.heap.size w w1) := hb1
  have hO1 : (w1.alloc (.cells #[] 5)).ownsRow w.heap.size 5 1 (.slice (some ⟨w1.heap.size, 0, none⟩) 0 0) 0 [] := World.ownsRow_lit w1 #[] 0 hb1.size (by simp [maxLen]) rfl
  have HB1 : Hid (Bs (w1.alloc (.cells #[] 5)) (.slice a0 l.length c0) l) := H0.out.below (hb1.alloc hb1.size _)
  have HS1 : Hid (w.heap.size ≤ w1.heap.size + 1) := by have := hb1.size; exact Nat.le_succ_of_le this
  clear hb1
  go_wp2_with (at_builtin; go_loud (refine wpList_append_sl _ rfl (.tmp 22) (.tmp 23) 22 rfl w.heap.size 5 i0 (.int .u8 0) 1 1 Try.underlying22 hi hz0 hz1 hz2 rfl (by decide) _ _ _ rfl hO1 _ _ _ rfl HB1.out (bv_oneCell _) (by unfold maxLen; omega) (by omega) (by simpa using HS1.out) ?_; intro v' w3 ho hgrow; simp only [Nat.zero_add, List.nil_append] at ho; obtain ⟨q, cap, rfl, hq, hncap, hcap⟩ := owned_shape ho hpos; have X3 : Hid (Below w.heap.size w w3) := (X1.out.alloc X1.out.size _).grown hgrow (by simpa using HS1.out) (fun k hk => (hO1.lt k hk).1); clear hgrow hO1 HB1 HS1 X1))
  unfold maxLen at hcap
  have Hq : Hid (w.heap.size ≤ q) := hq
  clear hq
  obtain ⟨F, hF, hF8⟩ : ∃ F : Nat, (A : Int) % (8 * (l.length : Int)) = (F : Int) ∧ F < 8 * l.length := ⟨A % (8 * l.length), by simp, Nat.mod_lt _ (by omega)⟩
  rw [hF]
  clear hF
  go_loopw [31] (fun i wr => ∃ k : Nat, k ≤ 32 ∧ i = .int .i64 k ∧ wr.ownsRow w.heap.size 5 1 (.slice (some ⟨q, 0, none⟩) l.length cap) l.length ((MathA.turns l F M k).map bv) ∧ Below w.heap.size w wr) (fun i _ => 32 - (intOf i).toNat)
  case atStart => exact ⟨0, by omega, rfl, ho, X3.out⟩
  case round =>
    obtain ⟨k, hk, rfl, hown, hbel⟩ := hrel
    have XB : Hid (Below w.heap.size w wr) := hbel
    clear hbel
    by_cases hlt : k < 32
    · have hbit := and_bit M k (by omega)
      cases hMk : M.testBit k with
      | false =>
        rw [hMk] at hbit
        simp only [Bool.false_eq_true, if_false] at hbit
        go_wp2
        go_roundw
        case rel => exact ⟨k + 1, by omega, by go_num, by rw [turns_off hMk]; exact hown, XB.out⟩
        case measure => simp [intOf]; omega
      | true =>
        rw [hMk] at hbit
        simp only [if_true] at hbit
        by_cases hin : F + k < 8 * l.length
        · have hin' : (F : Int) + (k : Int) < 8 * (l.length : Int) := by omega
          have hlenT : (MathA.turns l F M k).length = l.length := by rw [MathA.turns_length]
          have hjl : (F + k) / 8 < (MathA.turns l F M k).length := by omega
          have hcl := hown.cellAt ((F + k) / 8) (by omega)
          rw [map_bv_at _ _ hjl] at hcl
          have hfr := hown.frozenAt ((F + k) / 8)
          have HO := hown.stored ((F + k) / 8)
          have HT : Hid (MathA.turns l F M (k + 1) = MathA.turn (MathA.turns l F M k) (F + k)) := turns_on hMk hin
          generalize MathA.turns l F M k = t at *
          clear hown hlenT
          generalize hy : t[(F + k) / 8] = y at *
          have HY : Hid (t[(F + k) / 8] = y) := hy
          have HOO : Hid (∀ (u : Value), (wr.setCell ⟨q, (F + k) / 8, none⟩ u).ownsRow w.heap.size 5 1 (.slice (some ⟨q, 0, none⟩) l.length cap) l.length ((t.map bv).set ((F + k) / 8) u) ∧ wr.grownBy (wr.setCell ⟨q, (F + k) / 8, none⟩ u) (some q)) := HO
          clear hy HO
          go_wp2
          go_region
          go_wp2
          go_roundw
          case rel => exact ⟨k + 1, by omega, by go_num, by rw [HT.out, turn_cells HY.out]; exact (HOO.out _).1.drew, (XB.out.setCell (by exact Hq.out) _).drew⟩
          case measure => simp [intOf]; omega
        · have hin' : ¬ (F : Int) + (k : Int) < 8 * (l.length : Int) := by omega
          go_wp2
          go_roundw
          case rel => exact ⟨k + 1, by omega, by go_num, by rw [turns_out hin]; exact hown, XB.out⟩
          case measure => simp [intOf]; omega
    · have hk32 : k = 32 := by omega
      subst hk32
      have HS : Hid (Bs wr (.slice (some ⟨q, 0, none⟩) l.length cap) (MathA.turns l F M 32)) := by
        have h1 := owned_sl hown
        unfold Hid Bs
        rw [MathA.turns_length]
        exact h1
      clear hown
      have HE : Hid ((MathA.sum (MathA.turns l F M 32) = MathA.sum l) ↔ MathA.turns l F M 32 = l) := MathA.turns_sum l F M
      generalize MathA.turns l F M 32 = t at *
      go_wp2_with fail
      refine (new_c _).mono ?_
      rintro e w5 ⟨rfl, hT, hb5, hs5⟩
      have X5 : Hid (Below w.heap.size w w5) := XB.out.trans (hb5.mono XB.out.size)
      clear hs5
      have S5 : Hid (Bs w5 (.slice (some ⟨q, 0, none⟩) l.length cap) t) := HS.out.below hb5
      have S6 : Hid (Bs w5 (.slice a0 l.length c0) l) := H0.out.below X5.out
      generalize wr.heap.size = g at *
      have T5 : Hid (IsTab w5 g) := hT
      clear hb5 hT XB HS
      have hst := str_toList
      have HK : Hid (∀ W, Below w5.heap.size w5 W → (convert 22 9 (.slice (some ⟨q, 0, none⟩) l.length cap)).run Try.prog W = .ok (.string (str t)) W ∧ (convert 22 9 (.slice a0 l.length c0)).run Try.prog W = .ok (.string (str l)) W) :=
        fun W hW => ⟨conv_str (S5.out.below hW), conv_str (S6.out.below hW)⟩
      have HX : Hid (∀ W p, Below w5.heap.size w5 W → W.cell? ⟨p, 0, none⟩ = some (.slice (some ⟨q, 0, none⟩) l.length cap) → Calls Try.prog 17 #[.pointer (some ⟨g, 0, none⟩), .slice (some ⟨p, 0, none⟩) 1 1] W fun e w' => e = .returned (.int .u32 (MathA.sum t)) ∧ w' = W) :=
        fun W p hW hc => sum_at g p _ t W (T5.out.below hW) hc (S5.out.below hW)
      have HY : Hid (∀ W p, Below w5.heap.size w5 W → W.cell? ⟨p, 0, none⟩ = some (.slice a0 l.length c0) → Calls Try.prog 17 #[.pointer (some ⟨g, 0, none⟩), .slice (some ⟨p, 0, none⟩) 1 1] W fun e w' => e = .returned (.int .u32 (MathA.sum l)) ∧ w' = W) :=
        fun W p hW hc => sum_at g p _ l W (T5.out.below hW) hc (S6.out.below hW)
      have hv : (((MathA.sum t : Int) == (MathA.sum l : Int)) == (t == l)) = true := by
        have h := HE.out
        by_cases e : t = l
        · simp [e]
        · have e2 : ¬ MathA.sum t = MathA.sum l := fun h2 => e (h.1 h2)
          have e3 : ¬ (MathA.sum t : Int) = (MathA.sum l : Int) := by omega
          have e4 : (t == l) = false := by simpa using e
          have e5 : ((MathA.sum t : Int) == (MathA.sum l : Int)) = false := by simpa using e3
          rw [e4, e5]
          rfl
      clear HE
      generalize MathA.sum t = st at *
      generalize MathA.sum l = sl at *
      go_wp2
      go_region_held3 (fun W => (convert 22 9 (.slice (some ⟨q, 0, none⟩) l.length cap)).run Try.prog W = .ok (.string (str t)) W ∧ (convert 22 9 (.slice a0 l.length c0)).run Try.prog W = .ok (.string (str l)) W) (first | exact HK.out _ (below0 _) | exact HK.out _ (below1 _ _) | exact HK.out _ (below2 _ _ _)) (first | (go_at_call 17; refine (HX.out _ _ ?_ ?_).mono ?_; (first | exact below1 _ _ | exact below2 _ _ _); (focus (simp; done)); rintro e w' ⟨rfl, rfl⟩) | (go_at_call 17; refine (HY.out _ _ ?_ ?_).mono ?_; (first | exact below1 _ _ | exact below2 _ _ _); (focus (simp; done)); rintro e w' ⟨rfl, rfl⟩))
      all_goals
        go_wp2
        go_ret
        exact ⟨rfl, X5.out.trans ((below2 _ _ _).mono X5.out.size)⟩

end Go.Proofs.Ytjbgfgpclkabjaa
