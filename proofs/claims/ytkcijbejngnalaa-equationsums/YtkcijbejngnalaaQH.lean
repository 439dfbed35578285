/-
  equation: the document's Odd: the walk.
-/
import Derived.Test.YtkcijbejngnalaaQG
import Derived.Deep.DeepCutAuto
namespace Go.Proofs.Ytkcijbejngnalaa
open Go.RowKit
set_option linter.unusedVariables false

set_option maxRecDepth 100000 in
set_option maxHeartbeats 2000000 in
/-- The document's ODD. -/
theorem rodd_any (v : Value) (of : List Int) (w : World) (h : Zs w v of) (hl : of.length ≤ 1000000000) :
    Calls Try.prog 22 #[v] w fun e w' => ∃ a m c, e = .returned (.slice a m c) ∧ OwnZ w.heap.size w' (.slice a m c) m (oddD of) ∧ Below w.heap.size w w' := by
  have HZ : Hid (Zs w v of) := h
  obtain ⟨ao, cap, rfl, h2, h3⟩ := zs_shape h
  obtain ⟨n, hn⟩ : ∃ n, of.length = n := ⟨_, rfl⟩
  rw [hn] at h2 HZ hl ⊢
  have Hn : Hid (of.length = n) := hn
  obtain ⟨L, hL⟩ : ∃ L, oddD of = L := ⟨_, rfl⟩
  have HL : Hid (oddD of = L) := hL
  have LN : Hid (L.length ≤ n) := by have := oddD_length of; unfold Hid; rw [← hL]; omega
  have LT : Hid (L.Pairwise (· < ·)) := by unfold Hid; rw [← hL]; exact (oddD_of of).lt
  have LM : Hid (∀ y, y ∈ L ↔ of.count y % 2 = 1) := by intro y; rw [← hL]; exact (oddD_of of).mem y
  have LE : Hid (∀ y, of.count y ≤ n) := by intro y; rw [← hn]; exact List.count_le_length
  rw [hL]
  clear hn h hL
  go_enter Try.func22, Try.ntmps22
  go_wp2
  go_loopw [3] (fun ov wr => ∃ (m : Nat) (a : Option Addr) (c : Nat), ov = .slice a m c ∧ Hid (OwnZ w.heap.size wr (.slice a m c) m (L.take m)) ∧ Hid (m ≤ L.length) ∧ Hid (Below w.heap.size w wr)) (fun ov _ => L.length - lenV ov)
  case atStart => exact ⟨0, _, _, rfl, OwnZ.new w, Nat.zero_le _, below_alloc _ _⟩
  case round =>
    obtain ⟨m, a, c, rfl, OO, ML, BB⟩ := hrel
    obtain ⟨w1, hw1⟩ : ∃ x, x = wr := ⟨_, rfl⟩
    subst hw1
    have hmn : m ≤ 1000000000 := by have := ML.out; have := LN.out; omega
    go_wp2
    go_loopw [4, 5] (fun bv iv wr => ∃ (i : Nat) (b : Int), i ≤ n ∧ iv = .int .i64 i ∧ bv = .int .i64 b ∧ -1 ≤ b ∧ b < i ∧ Hid (BestI of L m i b) ∧ Hid (Below w1.heap.size w1 wr)) (fun _ iv _ => n - (intOf iv).toNat)
    case atStart => exact ⟨0, -1, by omega, rfl, rfl, by omega, by omega, BestI.start _ _ _, Below.refl _ _⟩
    case round =>
      obtain ⟨i, b, hi, rfl, rfl, hb1, hbi, HB, BL⟩ := hrel
      by_cases hlt : i < n
      · obtain ⟨y, hy⟩ : ∃ y, of[i]? = some y := ⟨_, List.getElem?_eq_getElem (by rw [Hn.out]; exact hlt)⟩
        have HY : Hid (of[i]? = some y) := hy
        have HZ' : Zs w (.slice ao n cap) of := HZ.out
        have XW : Below w.heap.size w wr := on_below BB.out BL.out
        obtain ⟨bk, off, rfl, hck⟩ := zs_at HZ' XW hy
        have ZW : Hid (∀ W, Below wr.heap.size wr W → Zs W (.slice (some ⟨bk, off, none⟩) n cap) of) := fun W hW => HZ'.below (on_below XW hW)
        have NI : Hid (NextB L m y ↔ (m = 0 ∨ ∃ z, L[m - 1]? = some z ∧ z < y) ∧ y ∈ L) := next_iff LT.out ML.out
        have CB : Hid (∀ W, Below wr.heap.size wr W → Calls Try.prog 55 #[.slice (some ⟨bk, off, none⟩) n cap, .int .i64 y] W fun e w' => e = .returned (.int .i64 (of.count y : Int)) ∧ w' = W) := fun W hW => rcount_any y _ of W (ZW.out W hW)
        have CL : Hid (y ∈ L ↔ of.count y % 2 = 1) := LM.out y
        have CN := LE.out y
        obtain ⟨cn, hcn⟩ : ∃ cn, of.count y = cn := ⟨_, rfl⟩
        rw [hcn] at CB CL CN
        clear hy HZ' hcn XW
        by_cases hm0 : m = 0
        · subst hm0
          by_cases hodd : cn % 2 = 1
          · have hyL : y ∈ L := CL.out.2 hodd
            have NX : Hid (NextB L 0 y) := NI.out.2 ⟨.inl rfl, hyL⟩
            have e2 : (cn : Int) % 2 = 1 := by omega
            have e3 : Int.tmod (cn : Int) 2 = 1 := by rw [Int.tmod_eq_emod_of_nonneg (by omega)]; exact e2
            clear hyL hodd
            by_cases hbn : b < 0
            · have TK : Hid (BestI of L 0 (i + 1) (i : Int)) := HB.out.take HY.out NX.out (.inl hbn)
              go_upto_region 6 with fail
              go_quiet ((go_at_call 55; exact Calls.quiet_of_same (CB.out _ (below_drewN (Below.refl _ _) _))))
              have XL : Hid (Below w1.heap.size w1 (wr.drewN nq)) := below_drewN BL.out nq
              go_wp2
              go_roundw
              case rel => exact ⟨i + 1, (i : Int), by omega, by go_num, rfl, by omega, by omega, TK, XL⟩
              case measure => simp [intOf]; omega
            · obtain ⟨j, rfl⟩ : ∃ j : Nat, b = j := ⟨b.toNat, by omega⟩
              have hbd : decide ((j : Int) < 0) = false := decide_eq_false hbn
              obtain ⟨u, hu⟩ : ∃ u, of[j]? = some u := ⟨_, List.getElem?_eq_getElem (by rw [Hn.out]; omega)⟩
              obtain ⟨bk', off', eb, hcj⟩ := zs_at (ZW.out wr (Below.refl _ _)) (Below.refl _ _) hu
              injection eb with eb
              injection eb with eb1 eb2 _
              subst eb1; subst eb2
              have hjn : j < n := by omega
              by_cases hyu : y < u
              · have TK : Hid (BestI of L 0 (i + 1) (i : Int)) := HB.out.take HY.out NX.out (.inr ⟨j, u, rfl, hu, hyu⟩)
                clear hu
                go_upto_region 6 with fail
                go_quiet ((go_at_call 55; exact Calls.quiet_of_same (CB.out _ (below_drewN (Below.refl _ _) _))))
                have XL : Hid (Below w1.heap.size w1 (wr.drewN nq)) := below_drewN BL.out nq
                go_wp2
                go_roundw
                case rel => exact ⟨i + 1, (i : Int), by omega, by go_num, rfl, by omega, by omega, TK, XL⟩
                case measure => simp [intOf]; omega
              · have hyd : decide (y < u) = false := decide_eq_false hyu
                have KP : Hid (BestI of L 0 (i + 1) (j : Int)) := HB.out.keep HY.out (fun _ => ⟨j, u, rfl, hu, by omega⟩)
                clear hu
                go_upto_region 6 with fail
                go_quiet ((go_at_call 55; exact Calls.quiet_of_same (CB.out _ (below_drewN (Below.refl _ _) _))))
                have XL : Hid (Below w1.heap.size w1 (wr.drewN nq)) := below_drewN BL.out nq
                go_wp2
                go_roundw
                case rel => exact ⟨i + 1, (j : Int), by omega, by go_num, rfl, hb1, by omega, KP, XL⟩
                case measure => simp [intOf]; omega
          · have hyL : ¬ y ∈ L := fun h => hodd (CL.out.1 h)
            have KP : Hid (BestI of L 0 (i + 1) b) := HB.out.keep HY.out (fun h => absurd (NI.out.1 h).2 hyL)
            have e2 : (cn : Int) % 2 = 0 := by omega
            have e3 : Int.tmod (cn : Int) 2 = 0 := by rw [Int.tmod_eq_emod_of_nonneg (by omega)]; exact e2
            clear hyL hodd
            go_upto_region 6 with fail
            go_quiet ((go_at_call 55; exact Calls.quiet_of_same (CB.out _ (below_drewN (Below.refl _ _) _))))
            have XL : Hid (Below w1.heap.size w1 (wr.drewN nq)) := below_drewN BL.out nq
            go_wp2
            go_roundw
            case rel => exact ⟨i + 1, b, by omega, by go_num, rfl, hb1, by omega, KP, XL⟩
            case measure => simp [intOf]; omega
        · have hm0' : ((m : Int) == 0) = false := by simp; omega
          obtain ⟨m1, hm1⟩ : ∃ m1, m = m1 + 1 := ⟨m - 1, by omega⟩
          have hmL : m1 < L.length := by have := ML.out; omega
          obtain ⟨z, hz⟩ : ∃ z, L[m1]? = some z := ⟨_, List.getElem?_eq_getElem hmL⟩
          have hzt : (L.take m)[m1]? = some z := by rw [List.getElem?_take, if_pos (by omega)]; exact hz
          obtain ⟨bo, oo, ea, hcz⟩ := zs_at OO.out.zs BL.out hzt
          subst ea
          have wm1 : IntKind.i64.wrap ((m : Int) - 1) = (m1 : Int) := by rw [IntKind.wrap_i64]; omega
          have hm1m : m1 < m := by omega
          have ez : m - 1 = m1 := by omega
          clear hzt hmL hm1
          by_cases hzy : z < y
          · have GT : Hid (m = 0 ∨ ∃ z, L[m - 1]? = some z ∧ z < y) := .inr ⟨z, by rw [ez]; exact hz, hzy⟩
            clear hz ez
            by_cases hodd : cn % 2 = 1
            · have hyL : y ∈ L := CL.out.2 hodd
              have NX : Hid (NextB L m y) := NI.out.2 ⟨GT.out, hyL⟩
              have e2 : (cn : Int) % 2 = 1 := by omega
              have e3 : Int.tmod (cn : Int) 2 = 1 := by rw [Int.tmod_eq_emod_of_nonneg (by omega)]; exact e2
              clear hyL hodd
              by_cases hbn : b < 0
              · have TK : Hid (BestI of L m (i + 1) (i : Int)) := HB.out.take HY.out NX.out (.inl hbn)
                go_upto_region 6 with fail
                go_quiet ((go_at_call 55; exact Calls.quiet_of_same (CB.out _ (below_drewN (Below.refl _ _) _))))
                have XL : Hid (Below w1.heap.size w1 (wr.drewN nq)) := below_drewN BL.out nq
                go_wp2
                go_roundw
                case rel => exact ⟨i + 1, (i : Int), by omega, by go_num, rfl, by omega, by omega, TK, XL⟩
                case measure => simp [intOf]; omega
              · obtain ⟨j, rfl⟩ : ∃ j : Nat, b = j := ⟨b.toNat, by omega⟩
                have hbd : decide ((j : Int) < 0) = false := decide_eq_false hbn
                obtain ⟨u, hu⟩ : ∃ u, of[j]? = some u := ⟨_, List.getElem?_eq_getElem (by rw [Hn.out]; omega)⟩
                obtain ⟨bk', off', eb, hcj⟩ := zs_at (ZW.out wr (Below.refl _ _)) (Below.refl _ _) hu
                injection eb with eb
                injection eb with eb1 eb2 _
                subst eb1; subst eb2
                have hjn : j < n := by omega
                by_cases hyu : y < u
                · have TK : Hid (BestI of L m (i + 1) (i : Int)) := HB.out.take HY.out NX.out (.inr ⟨j, u, rfl, hu, hyu⟩)
                  clear hu
                  go_upto_region 6 with fail
                  go_quiet ((go_at_call 55; exact Calls.quiet_of_same (CB.out _ (below_drewN (Below.refl _ _) _))))
                  have XL : Hid (Below w1.heap.size w1 (wr.drewN nq)) := below_drewN BL.out nq
                  go_wp2
                  go_roundw
                  case rel => exact ⟨i + 1, (i : Int), by omega, by go_num, rfl, by omega, by omega, TK, XL⟩
                  case measure => simp [intOf]; omega
                · have hyd : decide (y < u) = false := decide_eq_false hyu
                  have KP : Hid (BestI of L m (i + 1) (j : Int)) := HB.out.keep HY.out (fun _ => ⟨j, u, rfl, hu, by omega⟩)
                  clear hu
                  go_upto_region 6 with fail
                  go_quiet ((go_at_call 55; exact Calls.quiet_of_same (CB.out _ (below_drewN (Below.refl _ _) _))))
                  have XL : Hid (Below w1.heap.size w1 (wr.drewN nq)) := below_drewN BL.out nq
                  go_wp2
                  go_roundw
                  case rel => exact ⟨i + 1, (j : Int), by omega, by go_num, rfl, hb1, by omega, KP, XL⟩
                  case measure => simp [intOf]; omega
            · have hyL : ¬ y ∈ L := fun h => hodd (CL.out.1 h)
              have KP : Hid (BestI of L m (i + 1) b) := HB.out.keep HY.out (fun h => absurd (NI.out.1 h).2 hyL)
              have e2 : (cn : Int) % 2 = 0 := by omega
              have e3 : Int.tmod (cn : Int) 2 = 0 := by rw [Int.tmod_eq_emod_of_nonneg (by omega)]; exact e2
              clear hyL hodd
              go_upto_region 6 with fail
              go_quiet ((go_at_call 55; exact Calls.quiet_of_same (CB.out _ (below_drewN (Below.refl _ _) _))))
              have XL : Hid (Below w1.heap.size w1 (wr.drewN nq)) := below_drewN BL.out nq
              go_wp2
              go_roundw
              case rel => exact ⟨i + 1, b, by omega, by go_num, rfl, hb1, by omega, KP, XL⟩
              case measure => simp [intOf]; omega
          · have hzd : decide (z < y) = false := decide_eq_false hzy
            have KP : Hid (BestI of L m (i + 1) b) := HB.out.keep HY.out (fun h => by
              rcases (NI.out.1 h).1 with h1 | ⟨z', h1, h2⟩
              · omega
              · rw [ez, hz] at h1
                have h1 := Option.some.inj h1
                omega)
            clear hz ez
            go_upto_region 6 with fail
            go_quiet ((go_at_call 55; exact Calls.quiet_of_same (CB.out _ (below_drewN (Below.refl _ _) _))))
            have XL : Hid (Below w1.heap.size w1 (wr.drewN nq)) := below_drewN BL.out nq
            go_wp2
            go_roundw
            case rel => exact ⟨i + 1, b, by omega, by go_num, rfl, hb1, by omega, KP, XL⟩
            case measure => simp [intOf]; omega
      · obtain rfl : n = i := by omega
        have XW : Hid (Below w.heap.size w wr) := on_below BB.out BL.out
        have OW : Hid (OwnZ w.heap.size wr (.slice a m c) m (L.take m)) := OO.out.below BL.out
        have HB' : Hid (BestI of (oddD of) m of.length b) := by
          have h1 := HB.out
          unfold Hid
          rw [HL.out, Hn.out]
          exact h1
        obtain ⟨w2, hw2⟩ : ∃ x, x = wr := ⟨_, rfl⟩
        subst hw2
        by_cases hbn : b < 0
        · have e1 : b = -1 := by omega
          subst e1
          have hle := HB'.out.none
          rw [HL.out] at hle
          have R : Hid (OwnZ w.heap.size w2 (.slice a m c) m L) := by
            have h1 := OW.out
            rw [List.take_of_length_le hle] at h1
            exact h1
          clear hle HB HB' OW OO
          go_wp2
          go_ret
          exact ⟨_, _, _, rfl, R.out, XW.out⟩
        · obtain ⟨j, rfl⟩ : ∃ j : Nat, b = j := ⟨b.toNat, by omega⟩
          obtain ⟨u, hu, hLu⟩ := HB'.out.some
          rw [HL.out] at hLu
          have HZ' : Zs w (.slice ao n cap) of := HZ.out
          obtain ⟨bk, off, rfl, hcj⟩ := zs_at HZ' XW.out hu
          have hjn : j < n := by omega
          have hbd : ¬ (j : Int) < 0 := hbn
          have LX : Hid (L.take (m + 1) = L.take m ++ [u]) := by
            obtain ⟨hm1, e⟩ := List.getElem?_eq_some_iff.1 hLu
            unfold Hid
            rw [List.take_succ_eq_append_getElem hm1, e]
          have MX : Hid (m + 1 ≤ L.length) := (List.getElem?_eq_some_iff.1 hLu).1
          have hm1 : m + 1 ≤ 1000000000 := by have := MX.out; have := LN.out; omega
          have OWa : Hid (OwnZ w.heap.size (w2.alloc (.cells #[.int .i64 u] 3)) (.slice a m c) m (L.take m)) := OW.out.alloc _
          have XWa : Hid (Below w.heap.size w (w2.alloc (.cells #[.int .i64 u] 3))) := XW.out.alloc XW.out.size _
          clear hu hLu HZ' HB HB' OO
          go_wp2_with (at_builtin; refine wpList_addZ _ rfl (.tmp 58) (.tmp 63) rfl w.heap.size (.slice a m c) m _ rfl OWa.out _ 1 [u] rfl (zs_one _ _ _) (by omega) XWa.out.size ?_; intro a4 k4 w4 ho4 hg4 hat4 hnc4 hcm4)
          have O4 : Hid (OwnZ w.heap.size w4 (.slice a4 (m + 1) k4) (m + 1) (L.take (m + 1))) := by rw [LX.out]; exact ho4
          have B4 : Hid (Below w.heap.size w w4) := below_added XWa.out OWa.out (Nat.le_refl _) XWa.out.size hg4
          clear ho4 hg4 hat4 OW OWa XWa LX
          go_roundw
          case rel => exact ⟨m + 1, a4, k4, rfl, O4, MX, B4⟩
          case measure => have := MX.out; simp [lenV]; omega

end Go.Proofs.Ytkcijbejngnalaa
