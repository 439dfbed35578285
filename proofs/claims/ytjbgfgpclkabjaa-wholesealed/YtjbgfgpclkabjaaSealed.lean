/-
  The walk of the statement WholeSealed.
-/
import Derived.Test.YtjbgfgpclkabjaaOne
import Derived.Test.YtjbgfgpclkabjaaBack
namespace Go.Proofs.Ytjbgfgpclkabjaa
open Go.RowKit
set_option linter.unusedVariables false

/-- Numbers in eight bytes each. -/
def out8 (ns : List Nat) : List UInt8 := ns.flatMap fun n => be n 8

theorem out8_length (ns : List Nat) : (out8 ns).length = 8 * ns.length := by
  induction ns with
  | nil => rfl
  | cons n ns ih => simp only [out8, List.flatMap_cons, List.length_append, be_length, List.length_cons] at ih ⊢; omega

theorem out8_next {ns : List Nat} {k : Nat} (h : k < ns.length) : out8 (ns.take (k + 1)) = out8 (ns.take k) ++ be ns[k] 8 := by
  rw [List.take_succ_eq_append_getElem h, out8, List.flatMap_append]
  simp [out8]

theorem out8_drop {ns : List Nat} {k : Nat} (h : k < ns.length) : out8 (ns.drop k) = be ns[k] 8 ++ out8 (ns.drop (k + 1)) := by
  rw [List.drop_eq_getElem_cons h, out8, List.flatMap_cons]
  rfl

theorem be4_be (n : Nat) : be4 n = be n 4 := by
  simp [be4, be, List.range_succ]

theorem sum_digits9 : MathA.sum [49, 50, 51, 52, 53, 54, 55, 56, 57] = 4236843288 := by decide +kernel

set_option maxRecDepth 100000 in
set_option maxHeartbeats 1000000 in
theorem sealed_walk (v0 : Value) (zs : List Int) (at' mask : Int) (w : World) (h0 : Sl 1 w v0 zs.length (zs.map (Value.int .u64))) (hwf : ∀ z ∈ zs, (Lit.int .u64 z).wf = true) (hat : (Lit.int .u16 at').wf = true) (hmask : (Lit.int .u32 mask).wf = true) :
    Calls Try.prog 13 #[v0, .int .u16 at', .int .u32 mask] w fun e w' => e = .returned (.bool true) ∧ Below w.heap.size w w' := by
  obtain ⟨i0, hi, hz0, hz1, hz2⟩ := info_parts Try.info5
  have kc := conv_const
  obtain ⟨ha0, ha1⟩ := bounds_u16 hat
  obtain ⟨hm0, hm1⟩ := bounds_u32 hmask
  clear hat hmask
  obtain ⟨A, rfl⟩ := Int.eq_ofNat_of_zero_le ha0
  obtain ⟨M, rfl⟩ := Int.eq_ofNat_of_zero_le hm0
  have hns : zs = (zs.map Int.toNat).map (fun n : Nat => (n : Int)) := by
    rw [List.map_map]
    apply List.ext_getElem
    · simp
    · intro i h1 h2
      have := bounds_u64 (hwf zs[i] (List.getElem_mem h1))
      simp
      omega
  have hnb : ∀ n ∈ zs.map Int.toNat, n < 18446744073709551616 := by
    intro n hn
    obtain ⟨z, hz, rfl⟩ := List.mem_map.1 hn
    have := bounds_u64 (hwf z hz)
    omega
  generalize zs.map Int.toNat = ns at *
  subst hns
  rw [List.length_map, List.map_map] at h0
  have HNB : Hid (∀ n ∈ ns, n < 18446744073709551616) := hnb
  clear hnb hwf
  have S0 : Hid (Sl 1 w v0 ns.length (ns.map (fun n : Nat => Value.int .u64 n))) := h0
  obtain ⟨hll, a0, c0, rfl, hc0, hmm, _, hcell⟩ := h0
  clear hll hcell
  unfold maxLen at hmm
  obtain ⟨n, hn⟩ : ∃ n, ns.length = n := ⟨_, rfl⟩
  rw [hn] at hc0 S0 ⊢
  have Hn : Hid (ns.length = n) := hn
  clear hn
  go_enter Try.func13, Try.ntmps13
  go_wp2_with fail
  refine (new_c _).mono ?_
  rintro e w1 ⟨rfl, hT, hb1, hs1⟩
  have X1 : Hid (Below w.heap.size w w1) := hb1
  have T1 : Hid (IsTab w1 w.heap.size) := hT
  clear hs1 hb1 hT
  go_wp2_with fail
  refine (sum_any _ _ [_] [[49, 50, 51, 52, 53, 54, 55, 56, 57]] _ (T1.out.below (((Below.refl _ _).alloc (Nat.le_refl _) _).alloc (by simp) _)) (Sl.lit _ [_] _ _ _ (by simp) rfl (by simp)) (parts_one ((Bs.lit w1 _ _ _ _ _ _ rfl rfl rfl (by simp)).below ((Below.refl _ _).alloc (Nat.le_refl _) _)))).mono ?_
  rintro e w2 ⟨rfl, hw2⟩
  have X2 : Hid (Below w.heap.size w w2) := by rw [hw2]; exact X1.out.trans ((((Below.refl _ _).alloc (Nat.le_refl _) _).alloc (by simp) _).mono X1.out.size)
  have T2 : Hid (IsTab w2 w.heap.size) := by rw [hw2]; exact T1.out.below (((Below.refl _ _).alloc (Nat.le_refl _) _).alloc (by simp) _)
  have S2 : Hid (Sl 1 w2 (.slice a0 n c0) n (ns.map (fun n : Nat => Value.int .u64 n))) := S0.out.below X2.out
  clear hw2 T1 X1 kc S0
  rw [show MathA.sum [[49, 50, 51, 52, 53, 54, 55, 56, 57]].flatten = 4236843288 from sum_digits9]
  by_cases hA : 60 < n
  · go_wp2
    go_ret
    exact ⟨rfl, X2.out⟩
  have hA' : n ≤ 60 := by omega
  clear hA
  have G2 : Hid (w.heap.size ≤ w2.heap.size) := X2.out.size
  obtain ⟨g, hg⟩ : ∃ g, w.heap.size = g := ⟨_, rfl⟩
  have Hg : Hid (w.heap.size = g) := hg
  rw [hg] at T2 ⊢
  clear hg
  have W2 : Hid (IsWr (w2.alloc (.cells #[.slice none 0 0] 39)) w2.heap.size w2.heap.size none []) := zero_wr w2 w2.heap.size (Nat.le_refl _)
  obtain ⟨b, hb⟩ : ∃ b, w2.heap.size = b := ⟨_, rfl⟩
  have Hb : Hid (w2.heap.size = b) := hb
  go_wp2_with fail
  clear hb
  go_loopw [39] (fun i wr => ∃ (k : Nat) (row : Option Nat), k ≤ n ∧ i = .int .i64 k ∧ IsWr wr b b row (out8 (ns.take k)) ∧ Below w2.heap.size w2 wr) (fun i _ => n - (intOf i).toNat)
  case atStart => exact ⟨0, none, by omega, rfl, by have h := W2.out; rw [Hb.out] at h; exact h, (Below.refl _ _).alloc (Nat.le_refl _) _⟩
  case round =>
    obtain ⟨k, row, hk, rfl, hwr, hbel⟩ := hrel
    have XB : Hid (Below w2.heap.size w2 wr) := hbel
    have WB : Hid (IsWr wr b b row (out8 (ns.take k))) := hwr
    clear hbel hwr
    by_cases hlt : k < n
    · obtain ⟨_, a', c', hv', _, _, _, h5⟩ := S2.out.below XB.out
      injection hv' with e1 e1b e1c
      subst e1c
      clear e1b
      rcases h5 with h5 | ⟨pb, po, e2, hcl⟩
      · omega
      rw [e2] at e1
      subst e1
      clear e2
      have hkl : k < ns.length := by rw [Hn.out]; exact hlt
      have d0 := hcl k (.int .u64 ns[k]) (by rw [List.getElem?_map, List.getElem?_eq_getElem hkl]; rfl)
      have hx := HNB.out ns[k] (List.getElem_mem hkl)
      have HN1 : Hid (out8 (ns.take (k + 1)) = out8 (ns.take k) ++ be ns[k] 8) := out8_next hkl
      have hol : (out8 (ns.take k)).length ≤ 1000 := by rw [out8_length, List.length_take]; omega
      have Hol : Hid ((out8 (ns.take k)).length ≤ 1000) := hol
      clear hcl hol
      generalize ns[k] = x at *
      clear hkl
      have HX : Hid (x < 2 ^ (8 * 8)) := hx
      have hS := XB.out.size
      rw [Hb.out] at hS
      have HS : Hid (b ≤ wr.heap.size) := hS
      clear hS
      go_wp2_with fail
      refine (put_yes b b row _ x 8 _ WB.out HS.out (by omega) (by omega) HX.out (by have := Hol.out; omega)).mono ?_
      rintro e w5 ⟨rfl, row5, hw5, hf5, _⟩
      have W5 : Hid (IsWr w5 b b row5 (out8 (ns.take (k + 1)))) := by rw [HN1.out]; exact hw5
      have X5 : Hid (Below w2.heap.size w2 w5) := XB.out.trans (by have h := hf5.wr WB.out HS.out; rw [Hb.out]; exact h)
      clear hw5 hf5
      go_wp2
      go_roundw
      case rel => exact ⟨k + 1, row5, by omega, by go_num, W5.out, X5.out⟩
      case measure => simp [intOf]; omega
    · have hkn : ns.take k = ns := List.take_of_length_le (by rw [Hn.out]; omega)
      have WB' : Hid (IsWr wr b b row (out8 ns)) := by have h := WB.out; rw [hkn] at h; exact h
      clear WB hkn
      obtain ⟨l, hl⟩ : ∃ l, out8 ns = l := ⟨_, rfl⟩
      have hll : l.length ≤ 480 := by rw [← hl, out8_length, Hn.out]; omega
      have Hl : Hid (out8 ns = l) := hl
      rw [hl] at WB'
      clear hl
      go_wp2_with fail
      refine (bytes_any _ _ _ _ _ WB'.out (by omega)).mono ?_
      rintro e w3 ⟨q3, rfl, hq3, ho3, hb3⟩
      have X3 : Hid (Below w2.heap.size w2 w3) := XB.out.trans (hb3.mono XB.out.size)
      have W3 : Hid (IsWr w3 b b row l) := WB'.out.below hb3
      have B3 : Hid (Bs w3 (.slice (some ⟨q3, 0, none⟩) l.length l.length) l) := ho3.bs (by omega)
      have T3 : Hid (IsTab w3 g) := T2.out.below X3.out
      clear hq3 ho3 hb3 WB' XB
      go_wp2_with fail
      refine (seal_any g _ l _ T3.out B3.out (by omega)).mono ?_
      rintro e w4 ⟨rfl, ho4, hb4⟩
      obtain ⟨L, hL⟩ : ∃ L, l.length + 4 = L := ⟨_, rfl⟩
      obtain ⟨p, hp⟩ : ∃ p, w3.heap.size + 1 = p := ⟨_, rfl⟩
      rw [hL, hp] at ho4 ⊢
      obtain ⟨s, hs⟩ : ∃ s, l ++ be4 (MathA.sum l) = s := ⟨_, rfl⟩
      rw [hs] at ho4
      have hsl : s.length = L := by rw [← hs, ← hL]; simp [be4]
      have Hs : Hid (l ++ be4 (MathA.sum l) = s) := hs
      have X4 : Hid (Below w2.heap.size w2 w4) := X3.out.trans (hb4.mono X3.out.size)
      have W4 : Hid (IsWr w4 b b row l) := W3.out.below hb4
      have T4 : Hid (IsTab w4 g) := T3.out.below hb4
      have B4 : Hid (Bs w4 (.slice (some ⟨p, 0, none⟩) L L) s) := by have h := owned_sl ho4; unfold Hid Bs; rw [hsl]; exact h
      have S4 : Hid (Sl 1 w4 (.slice a0 n c0) n (ns.map (fun n : Nat => Value.int .u64 n))) := S2.out.below X4.out
      have Hsl : Hid (s.length = L) := hsl
      have hL1 : 4 ≤ L ∧ L ≤ 484 := by omega
      obtain ⟨hL4, hL5⟩ := hL1
      clear ho4 hb4 X3 W3 B3 T3 hs hp hL hll S2 T2 W2 hsl
      have hO1 : (w4.alloc (.cells #[] 5)).ownsRow w4.heap.size 5 1 (.slice (some ⟨w4.heap.size, 0, none⟩) 0 0) 0 [] := World.ownsRow_lit w4 #[] 0 (Nat.le_refl _) (by simp [maxLen]) rfl
      have HB1 : Hid (Sl 1 (w4.alloc (.cells #[] 5)) (.slice (some ⟨p, 0, none⟩) L L) L (s.map bv)) := by have h := B4.out.below ((Below.refl _ _).alloc (Nat.le_refl _) (.cells #[] 5)); unfold Bs at h; rw [Hsl.out] at h; exact h
      have hpos : 0 < L := by omega
      go_wp2_with (at_builtin; go_loud (refine wpList_append_sl _ rfl (.tmp 49) (.tmp 50) 22 rfl w4.heap.size 5 i0 (.int .u8 0) 1 1 Try.underlying22 hi hz0 hz1 hz2 rfl (by decide) _ _ _ rfl hO1 _ _ _ rfl HB1.out (bv_oneCell _) (by unfold maxLen; omega) (by omega) (by simp) ?_; intro v' w5 ho hgrow; simp only [Nat.zero_add, List.nil_append] at ho; obtain ⟨q, cap, rfl, hq, hncap, hcap⟩ := owned_shape ho hpos; have X5 : Hid (Below w4.heap.size w4 w5) := ((Below.refl _ _).alloc (Nat.le_refl _) _).grown hgrow (by simp) (fun k hk => (hO1.lt k hk).1); clear hgrow hO1 HB1))
      unfold maxLen at hcap
      have Hq : Hid (w4.heap.size ≤ q) := hq
      clear hq
      obtain ⟨F, hF, hF8⟩ : ∃ F : Nat, (A : Int) % (8 * (L : Int)) = (F : Int) ∧ F < 8 * L := ⟨A % (8 * L), by simp, Nat.mod_lt _ (by omega)⟩
      rw [hF]
      clear hF
      go_loopw [58] (fun i wr => ∃ k : Nat, k ≤ 32 ∧ i = .int .i64 k ∧ wr.ownsRow w4.heap.size 5 1 (.slice (some ⟨q, 0, none⟩) L cap) L ((MathA.turns s F M k).map bv) ∧ Below w4.heap.size w4 wr) (fun i _ => 32 - (intOf i).toNat)
      case atStart => exact ⟨0, by omega, rfl, ho, X5.out⟩
      case round =>
        obtain ⟨k, hk, rfl, hown, hbel⟩ := hrel
        have XB : Hid (Below w4.heap.size w4 wr) := hbel
        clear hbel
        by_cases hlt : k < 32
        · have hbit := and_bit M k (by omega)
          cases hMk : M.testBit k with
          | false =>
            rw [hMk] at hbit
            simp only [Bool.false_eq_true, if_false] at hbit
            go_wp2
            go_roundw
            case rel => exact ⟨k + 1, by omega, by go_num, by rw [turns_off hMk]; exact hown, XB.out⟩
            case measure => simp [intOf]; omega
          | true =>
            rw [hMk] at hbit
            simp only [if_true] at hbit
            by_cases hin : F + k < 8 * L
            · have hin' : (F : Int) + (k : Int) < 8 * (L : Int) := by omega
              have hlenT : (MathA.turns s F M k).length = L := by rw [MathA.turns_length]; exact Hsl.out
              have hjl : (F + k) / 8 < (MathA.turns s F M k).length := by omega
              have hcl := hown.cellAt ((F + k) / 8) (by omega)
              rw [map_bv_at _ _ hjl] at hcl
              have hfr := hown.frozenAt ((F + k) / 8)
              have HO := hown.stored ((F + k) / 8)
              have HT : Hid (MathA.turns s F M (k + 1) = MathA.turn (MathA.turns s F M k) (F + k)) := turns_on hMk (by rw [Hsl.out]; exact hin)
              generalize MathA.turns s F M k = t at *
              clear hown hlenT
              generalize hy : t[(F + k) / 8] = y at *
              have HY : Hid (t[(F + k) / 8] = y) := hy
              have HOO : Hid (∀ (u : Value), (wr.setCell ⟨q, (F + k) / 8, none⟩ u).ownsRow w4.heap.size 5 1 (.slice (some ⟨q, 0, none⟩) L cap) L ((t.map bv).set ((F + k) / 8) u) ∧ wr.grownBy (wr.setCell ⟨q, (F + k) / 8, none⟩ u) (some q)) := HO
              clear hy HO
              go_wp2
              go_region
              go_wp2
              go_roundw
              case rel => exact ⟨k + 1, by omega, by go_num, by rw [HT.out, turn_cells HY.out]; exact (HOO.out _).1.drew, (XB.out.setCell (by exact Hq.out) _).drew⟩
              case measure => simp [intOf]; omega
            · have hin' : ¬ (F : Int) + (k : Int) < 8 * (L : Int) := by omega
              go_wp2
              go_roundw
              case rel => exact ⟨k + 1, by omega, by go_num, by rw [turns_out (by rw [Hsl.out]; exact hin)]; exact hown, XB.out⟩
              case measure => simp [intOf]; omega
        · have hk32 : k = 32 := by omega
          subst hk32
          have HS : Hid (Bs wr (.slice (some ⟨q, 0, none⟩) L cap) (MathA.turns s F M 32)) := by
            have h1 := owned_sl hown
            unfold Hid Bs
            rw [MathA.turns_length, Hsl.out]
            exact h1
          clear hown ho
          have HE : Hid (rightB (MathA.turns s F M 32) = decide (MathA.turns s F M 32 = s)) := by rw [← Hs.out]; exact MathA.turns_right l F M
          have Htl : Hid ((MathA.turns s F M 32).length = L) := by rw [MathA.turns_length]; exact Hsl.out
          generalize MathA.turns s F M 32 = t at *
          have TB : Hid (IsTab wr g) := T4.out.below XB.out
          go_wp2_with fail
          refine (right_any g _ t _ TB.out HS.out).mono ?_
          rintro e w6 ⟨rfl, hb6⟩
          have X6 : Hid (Below w4.heap.size w4 w6) := XB.out.trans (hb6.mono XB.out.size)
          have HS6 : Hid (Bs w6 (.slice (some ⟨q, 0, none⟩) L cap) t) := HS.out.below hb6
          clear hb6 HS TB XB
          have XW : Hid (∀ W, Below w4.heap.size w4 W → Below w.heap.size w W) := fun W hW => by
            have h := X4.out.trans (hW.mono X4.out.size)
            have h2 := X2.out.trans (h.mono X2.out.size)
            exact h2
          by_cases hts : t = s
          · have hr : rightB t = true := by rw [HE.out]; simp [hts]
            rw [hr]
            clear hr HE
            subst hts
            go_wp2_with fail
            refine (read_any _ t _ HS6.out (by rw [Hsl.out]; omega)).mono ?_
            rintro e w7 ⟨r, q7, rfl, hq7, hr7, hq7l, hrd, hb7⟩
            have X7 : Hid (Below w6.heap.size w6 w7) := hb7
            have R7 : Hid (IsRd w7 r q7 t) := hrd
            have D7 : Hid (w6.heap.size ≤ r ∧ q7 < w7.heap.size) := ⟨hr7, hq7l⟩
            have S6 : Hid (Sl 1 w6 (.slice a0 n c0) n (ns.map (fun n : Nat => Value.int .u64 n))) := S4.out.below X6.out
            have W6 : Hid (IsWr w6 b b row l) := W4.out.below X6.out
            have T6 : Hid (IsTab w6 g) := T4.out.below X6.out
            clear hq7 hr7 hq7l hrd hb7 S4 W4 T4 HS6 B4
            go_wp2_with fail
            go_loopw [100] (fun i wr => ∃ (k : Nat), k ≤ n ∧ i = .int .i64 k ∧ IsRd wr r q7 (out8 (ns.drop k) ++ be4 (MathA.sum l)) ∧ Below w6.heap.size w6 wr ∧ q7 < wr.heap.size) (fun i _ => n - (intOf i).toNat)
            case atStart => exact ⟨0, by omega, rfl, by have h := R7.out; rw [← Hs.out, ← Hl.out] at h; rw [← Hl.out]; exact h, X7.out, D7.out.2⟩
            case round =>
              obtain ⟨k, hk, rfl, hrd, hbel, hqs⟩ := hrel
              have QS : Hid (q7 < wr.heap.size) := hqs
              have XB : Hid (Below w6.heap.size w6 wr) := hbel
              have RB : Hid (IsRd wr r q7 (out8 (ns.drop k) ++ be4 (MathA.sum l))) := hrd
              clear hbel hrd hqs
              by_cases hlt : k < n
              · obtain ⟨_, a', c', hv', _, _, _, h5⟩ := S6.out.below XB.out
                injection hv' with e1 e1b e1c
                subst e1c
                clear e1b
                rcases h5 with h5 | ⟨pb, po, e2, hcl⟩
                · omega
                rw [e2] at e1
                subst e1
                clear e2
                have hkl : k < ns.length := by rw [Hn.out]; exact hlt
                have d0 := hcl k (.int .u64 ns[k]) (by rw [List.getElem?_map, List.getElem?_eq_getElem hkl]; rfl)
                have hx := HNB.out ns[k] (List.getElem_mem hkl)
                have HN1 : Hid (out8 (ns.drop k) = be ns[k] 8 ++ out8 (ns.drop (k + 1))) := out8_drop hkl
                clear hcl
                generalize ns[k] = x at *
                clear hkl
                have HX : Hid (x < 2 ^ (8 * 8)) := hx
                have Rr : Hid (IsRd wr r q7 (be x 8 ++ (out8 (ns.drop (k + 1)) ++ be4 (MathA.sum l)))) := by have h := RB.out; rw [HN1.out, List.append_assoc] at h; exact h
                go_wp2_with fail
                refine (take_yes r q7 _ 8 _ Rr.out (by omega) (by omega) (by rw [List.length_append, be_length]; omega)).mono ?_
                rintro e w8 ⟨rfl, hrd8, hg8, hs8⟩
                rw [List.drop_left' (be_length x 8)] at hrd8
                rw [List.take_left' (be_length x 8), num64_be x 8 HX.out hx]
                have XF : Hid (IsRd w8 r q7 (out8 (ns.drop (k + 1)) ++ be4 (MathA.sum l)) ∧ Below w6.heap.size w6 w8 ∧ q7 < w8.heap.size) :=
                  ⟨hrd8, XB.out.grown hg8 XB.out.size (fun j hj => by injection hj with hj; have := D7.out.1; omega), by rw [hs8]; exact QS.out⟩
                clear hrd8 hg8 hs8 Rr HX RB XB QS HN1
                go_wp2
                go_roundw
                case rel => exact ⟨k + 1, by omega, by go_num, XF.out⟩
                case measure => simp [intOf]; omega
              · have hd : ns.drop k = [] := List.drop_eq_nil_of_le (by rw [Hn.out]; omega)
                have RB' : Hid (IsRd wr r q7 (be (MathA.sum l) 4)) := by have h := RB.out; rw [hd, be4_be] at h; exact h
                clear RB hd
                have hc := MathA.sum_lt l
                have Hc : Hid (MathA.sum l < 2 ^ (8 * 4)) := hc
                have WX : Hid (∀ W, Below w6.heap.size w6 W → IsTab W g ∧ IsWr W b b row l) := fun W hW => ⟨T6.out.below hW, W6.out.below hW⟩
                have HLl : Hid (l.length ≤ 1000000) := by have h := Hsl.out; rw [← Hs.out, List.length_append] at h; unfold Hid; omega
                have SL : Hid (∀ W p q, IsTab W g → W.cell? ⟨p, 0, none⟩ = some (.slice (some ⟨q, 0, none⟩) l.length l.length) → Bs W (.slice (some ⟨q, 0, none⟩) l.length l.length) l → Calls Try.prog 17 #[.pointer (some ⟨g, 0, none⟩), .slice (some ⟨p, 0, none⟩) 1 1] W fun e w' => e = .returned (.int .u32 (MathA.sum l)) ∧ w' = W) := fun W p q h1 h2 h3 => sum_at g p _ l W h1 h2 h3
                generalize MathA.sum l = c at *
                go_wp2_with fail
                refine (take_yes r q7 _ 4 _ RB'.out (by omega) (by omega) (by rw [be_length]; omega)).mono ?_
                rintro e w8 ⟨rfl, hrd8, hg8, hs8⟩
                rw [List.drop_of_length_le (by rw [be_length]; omega)] at hrd8
                rw [List.take_of_length_le (by rw [be_length]; omega), num64_be c 4 Hc.out (by omega)]
                have X8 : Hid (Below w6.heap.size w6 w8) := XB.out.grown hg8 XB.out.size (fun j hj => by injection hj with hj; have := D7.out.1; omega)
                have R8 : Hid (IsRd w8 r q7 [] ∧ q7 < w8.heap.size) := ⟨hrd8, by rw [hs8]; exact QS.out⟩
                clear hrd8 hg8 hs8 RB' QS XB
                go_wp2_with fail
                refine (bytes_any _ _ _ _ _ (WX.out _ X8.out).2 HLl.out).mono ?_
                rintro e w9 ⟨q9, rfl, hq9, ho9, hb9⟩
                have X9 : Hid (Below w6.heap.size w6 w9) := X8.out.trans (hb9.mono X8.out.size)
                have R9 : Hid (IsRd w9 r q7 [] ∧ q7 < w9.heap.size) := ⟨R8.out.1.kept (hb9.block r R8.out.1.lt) (hb9.block q7 R8.out.2), Nat.lt_of_lt_of_le R8.out.2 hb9.size⟩
                have B9 : Hid (Bs w9 (.slice (some ⟨q9, 0, none⟩) l.length l.length) l) := ho9.bs HLl.out
                clear hq9 ho9 hb9 X8 R8
                go_wp2_with fail
                refine (SL.out _ _ q9 ((WX.out _ X9.out).1.below ((Below.refl _ _).alloc (Nat.le_refl _) _)) (by simp) (B9.out.below ((Below.refl _ _).alloc (Nat.le_refl _) _))).mono ?_
                rintro e w10 ⟨rfl, hw10⟩
                have X10 : Hid (Below w6.heap.size w6 w10 ∧ IsRd w10 r q7 []) := by
                  rw [hw10]
                  exact ⟨X9.out.alloc X9.out.size _, R9.out.1.kept (Below.heap_alloc _ _ _ R9.out.1.lt) (Below.heap_alloc _ _ _ R9.out.2)⟩
                clear hw10 X9 R9 B9
                go_wp2_with fail
                refine (left_any r q7 [] _ X10.out.2).mono ?_
                rintro e w11 ⟨rfl, rfl⟩
                go_wp2
                go_ret
                exact ⟨rfl, XW.out _ (X6.out.trans (X10.out.1.mono X6.out.size))⟩
          · have hr : rightB t = false := by rw [HE.out]; simp [hts]
            rw [hr]
            clear hr HE
            have hst := str_toList
            have k1 := conv_str HS6.out
            have k2 := conv_str (B4.out.below X6.out)
            have hne : (t == s) = false := by simpa using hts
            have HX6 : Hid (Below w.heap.size w w6) := XW.out _ X6.out
            clear hts HS6
            go_wp2
            go_ret
            exact ⟨rfl, HX6.out⟩

end Go.Proofs.Ytjbgfgpclkabjaa
