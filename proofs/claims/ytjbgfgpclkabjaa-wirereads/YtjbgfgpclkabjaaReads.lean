/-
  The walk of the statement WireReads.
-/
import Derived.Test.YtjbgfgpclkabjaaBack
import Derived.Test.YtjbgfgpclkabjaaLinearA
import Derived.Test.YtjbgfgpclkabjaaStr
import Derived.Deep.RegionHeld3
namespace Go.Proofs.Ytjbgfgpclkabjaa
open Go.RowKit
set_option linter.unusedVariables false

theorem add64_nat (m : Nat) (y : UInt8) (hm : m < 18446744073709551616) : IntKind.u64.wrap (IntKind.u64.wrap ((m : Int) * 256) + (y.toNat : Int)) = (((m * 256 + y.toNat) % 18446744073709551616 : Nat) : Int) := by
  have hwr : ∀ x : Int, IntKind.u64.wrap x = x % 18446744073709551616 := by intro x; simp [IntKind.wrap, IntKind.bits, IntKind.signed]
  rw [hwr, hwr]
  omega

/-- A piece of a slice: what it is, and what it reads as. -/
theorem slice_mid {w : World} {a : Option Addr} {n c : Nat} {l : List UInt8} (h : Bs w (.slice a n c) l) (T S : Nat) (hT : T + S ≤ n) :
    ∃ a' c', (∀ W, (Instr.slice 22 (.slice a n c) (some (.int .i64 T)) (some (.int .i64 ((T : Int) + (S : Int)))) none).run Try.prog W = .ok (.slice a' S c') W) ∧ Bs w (.slice a' S c') ((l.drop T).take S) := by
  obtain ⟨h1, a1, c1, hv, h2, h3, h4, h5⟩ := h
  injection hv with e1 e2 e3
  subst e1; subst e2; subst e3
  have ht : Try.prog.underlying 22 = some (.slice (Try.prog.elem 22)) := by kernel_rfl
  obtain ⟨i0, hi, hz0, hz1, hz2⟩ := info_parts Try.info5
  have he : Try.prog.elem 22 = 5 := by kernel_rfl
  have hlen : ((l.drop T).take S).length = S := by simp; omega
  refine ⟨if c = T then a else a.map (·.add (T * 1)), c - T, fun W => ?_, ?_⟩
  · have hsz : (sizeOf 5).run Try.prog W = .ok 1 W := by simp [sizeOf, typeInfo, hi, hz1]
    rw [run_slice_lh W 22 a l.length c ht .i64 .i64 T ((T : Int) + (S : Int)) (by omega) (by omega) (by omega), he, hsz]
    simp only [Result.andThen, sliced, Int.toNat_natCast]
    congr 2
    omega
  · unfold Bs
    rw [hlen]
    refine ⟨by simp; omega, _, _, rfl, by omega, by omega, ?_, ?_⟩
    · intro e
      split at e
      · have := h4 e; omega
      · cases a with
        | none => have := h4 rfl; omega
        | some ad => simp at e
    · rcases h5 with h0 | ⟨b, off, hao, hc⟩
      · exact .inl (by omega)
      · by_cases hS : S = 0
        · exact .inl hS
        · refine .inr ⟨b, off + T, ?_, ?_⟩
          · rw [if_neg (by omega), hao]
            simp only [Option.map_some, Nat.mul_one, Addr.add_lit]
          · intro j u hj
            have hjS : j < S := by have := (List.getElem?_eq_some_iff.1 hj).1; simp at this; omega
            rw [List.map_take, List.getElem?_take, if_pos hjS, List.map_drop, List.getElem?_drop] at hj
            rw [Nat.add_assoc]
            exact hc (T + j) u hj

set_option maxRecDepth 100000 in
set_option maxHeartbeats 1000000 in
/-- The document's Get. -/
theorem get_any (v : Value) (l : List UInt8) (w : World) (hl : Bs w v l) (hl2 : l.length ≤ 1000000) :
    Calls Try.prog 30 #[v] w fun e w' => e = .returned (.int .u64 (num64 l)) ∧ w' = w := by
  obtain ⟨hll, a0, c0, rfl, hc0, hm0, _, hcell⟩ := hl
  clear hll
  unfold maxLen at hm0
  obtain ⟨n, hn⟩ : ∃ n, l.length = n := ⟨_, rfl⟩
  rw [hn] at hc0 hl2 hcell ⊢
  have HN : Hid (l.length = n) := hn
  clear hn
  go_enter Try.func30, Try.ntmps30
  go_wp2
  go_loop [3, 4] (fun x i => ∃ (j m : Nat), j ≤ n ∧ i = .int .i64 j ∧ x = .int .u64 m ∧ m < 18446744073709551616 ∧ m = num64 (l.take j)) (fun _ i => n - (intOf i).toNat)
  case atStart => exact ⟨0, 0, by omega, rfl, rfl, by omega, rfl⟩
  case round =>
    obtain ⟨j, m, hj, rfl, rfl, hm, he⟩ := hrel
    have H : Hid (m = num64 (l.take j)) := he
    clear he
    by_cases hlt : j < n
    · rcases hcell with hz | ⟨pb, po, rfl, hcl⟩
      · omega
      have hjl : j < l.length := by rw [HN.out]; exact hlt
      have hcb := hcl j _ (map_bv_at l j hjl)
      generalize hy : l[j] = y at *
      have Hy : Hid (l[j] = y) := hy
      clear hy hcl
      have hyl := y.toNat_lt
      go_wp2
      go_round
      case rel => exact ⟨j + 1, _, by omega, by go_num, int_val (add64_nat m y hm), Nat.mod_lt _ (by omega), num64_next hjl Hy.out H.out⟩
      case measure => simp [intOf]; omega
    · go_wp2
      go_ret
      exact ⟨ret_int (by rw [H.out, List.take_of_length_le (by rw [HN.out]; omega)]), rfl⟩

set_option maxRecDepth 100000 in
set_option maxHeartbeats 1000000 in
theorem reads_walk (v0 : Value) (l : List UInt8) (v1 : Value) (its : List It) (w : World) (h0 : Bs w v0 l) (h1 : Items w v1 its) :
    Calls Try.prog 10 #[v0, v1] w fun e w' => e = .returned (.bool true) ∧ Below w.heap.size w w' := by
  obtain ⟨i0, hi, hz0, hz1, hz2⟩ := info_parts Try.info5
  have B0 := h0
  obtain ⟨hll0, a0, c0, rfl, hc0, hm0, _, hcc0⟩ := h0
  obtain ⟨⟨hll, a1, c1, rfl, hc1, hm1, _, hcell⟩, hok⟩ := h1
  unfold maxLen at hm0 hm1
  have H0 : Hid (Bs w (.slice a0 l.length c0) l) := B0
  have HOK : Hid (∀ x ∈ its, x.ok w) := hok
  clear hok hll B0 hll0 hcc0
  by_cases hA : 300 < l.length
  · go_enter Try.func10, Try.ntmps10
    go_wp2_with fail
    refine (speaks2_any w).mono ?_
    rintro e w1 ⟨rfl, hb1⟩
    have X1 : Hid (Below w.heap.size w w1) := hb1
    clear hb1
    go_wp2
    go_ret
    exact ⟨rfl, X1.out⟩
  have hA' : l.length ≤ 300 := by omega
  clear hA
  by_cases hB : 50 < its.length
  · go_enter Try.func10, Try.ntmps10
    go_wp2_with fail
    refine (speaks2_any w).mono ?_
    rintro e w1 ⟨rfl, hb1⟩
    have X1 : Hid (Below w.heap.size w w1) := hb1
    clear hb1
    go_wp2
    go_ret
    exact ⟨rfl, X1.out⟩
  have hB' : its.length ≤ 50 := by omega
  clear hB
  go_enter Try.func10, Try.ntmps10
  go_wp2_with fail
  refine (speaks2_any w).mono ?_
  rintro e w1 ⟨rfl, hb1⟩
  have X1 : Hid (Below w.heap.size w (w1.alloc (.cells #[] 5))) := hb1.alloc hb1.size _
  have hO1 : (w1.alloc (.cells #[] 5)).ownsRow w.heap.size 5 1 (.slice (some ⟨w1.heap.size, 0, none⟩) 0 0) 0 [] := World.ownsRow_lit w1 #[] 0 hb1.size (by simp [maxLen]) rfl
  have HB1 : Hid (Bs (w1.alloc (.cells #[] 5)) (.slice a0 l.length c0) l) := H0.out.below X1.out
  have HS1 : Hid (w.heap.size ≤ (w1.alloc (.cells #[] 5)).heap.size) := X1.out.size
  clear hb1
  go_wp2_with (at_builtin; (refine wpList_app _ rfl (.tmp 26) (.tmp 27) 22 rfl w.heap.size 5 i0 (.int .u8 0) 1 1 Try.underlying22 hi hz0 hz1 hz2 rfl (by decide) _ _ _ rfl hO1 _ _ _ rfl HB1.out (bv_oneCell _) (by unfold maxLen; omega) (by omega) HS1.out ?_); intro a3 c3 w3 ho hgrow hat hne2 hnc2 hcm2; simp only [Nat.zero_add, List.nil_append] at ho hat hnc2; clear hat)
  unfold maxLen at hcm2
  have X3 : Hid (Below w.heap.size w w3) := X1.out.grown hgrow HS1.out (fun k hk => (hO1.lt k hk).1)
  have O3 : Hid (w3.ownsRow w.heap.size 5 1 (.slice a3 l.length c3) l.length (l.map bv)) := ho
  clear ho hgrow hne2 hO1 X1 HB1 HS1
  refine (read_any _ l _ (owned_sl O3.out) (by omega)).mono ?_
  rintro e w4 ⟨r, q, rfl, hq4, hr4, hq4l, hrd, hb4⟩
  have X4 : Hid (Below w.heap.size w w4) := X3.out.trans (hb4.mono X3.out.size)
  have O4 : Hid (w4.ownsRow w.heap.size 5 1 (.slice a3 l.length c3) l.length (l.map bv)) := owns_kept O3.out (fun g hg => hb4.block g (O3.out.lt g hg).2)
  have R4 : Hid (IsRd w4 r q l) := hrd
  have D4 : Hid (w.heap.size ≤ r ∧ q < w4.heap.size ∧ (∀ g, (Value.slice a3 l.length c3).ownBlock = some g → g ≠ r ∧ g ≠ q)) :=
    ⟨by have := X3.out.size; omega, hq4l, fun g hg => by have := (O3.out.lt g hg).2; omega⟩
  clear hq4 hr4 hq4l hrd hb4 X3 O3
  go_wp2_with fail
  go_loopw [33] (fun i wr => ∃ (k : Nat) (xs : List Value), k ≤ l.length ∧ i = .int .i64 k ∧ IsRd wr r q l ∧ wr.ownsRow w.heap.size 5 1 (.slice a3 l.length c3) l.length xs ∧ Below w.heap.size w wr ∧ q < wr.heap.size) (fun i _ => l.length - (intOf i).toNat)
  case atStart => exact ⟨0, _, by omega, rfl, R4.out, O4.out, X4.out, D4.out.2.1⟩
  case round =>
    obtain ⟨k, xs, hk, rfl, hrd, hown, hbel, hqs⟩ := hrel
    have XB : Hid (Below w.heap.size w wr) := hbel
    have RB : Hid (IsRd wr r q l) := hrd
    have QB : Hid (q < wr.heap.size) := hqs
    clear hbel hrd hqs
    by_cases hlt : k < l.length
    · obtain ⟨g, c', hv', hgb, _, _⟩ := owned_shape hown (by omega)
      injection hv' with e1 e1b e1c
      subst e1; subst e1c
      clear e1b
      have hxl : xs.length = l.length := by have := hown.1; simpa using this
      have hcl := hown.cellAt k (by omega)
      obtain ⟨u, hu⟩ : ∃ u, xs[k]? = some u := ⟨_, List.getElem?_eq_getElem (by omega)⟩
      rw [hu] at hcl
      clear hu
      have hfr := hown.frozenAt k
      have HO : Hid ((wr.setCell ⟨g, k, none⟩ (.int .u8 85)).ownsRow w.heap.size 5 1 (.slice (some ⟨g, 0, none⟩) l.length c3) l.length (xs.set k (.int .u8 85)) ∧ wr.grownBy (wr.setCell ⟨g, k, none⟩ (.int .u8 85)) (some g)) := hown.stored k (.int .u8 85)
      have hne := D4.out.2.2 g rfl
      have Hne : Hid (g ≠ r ∧ g ≠ q) := hne
      have Hgb : Hid (w.heap.size ≤ g) := hgb
      clear hown hxl hne hgb
      go_wp2
      go_roundw
      case rel =>
        refine ⟨k + 1, _, by omega, by go_num, RB.out.kept (HO.out.2.block r RB.out.lt (by intro e; injection e with e; exact Hne.out.1 e.symm)) (HO.out.2.block q QB.out (by intro e; injection e with e; exact Hne.out.2 e.symm)), HO.out.1, XB.out.setCell (by exact Hgb.out) _, ?_⟩
        have := HO.out.2.size
        have := QB.out
        omega
      case measure => simp [intOf]; omega
    · clear hown O4 X4 R4
      go_wp2_with fail
      go_loopw [7, 42] (fun t i wr => ∃ (k T : Nat), k ≤ its.length ∧ i = .int .i64 k ∧ t = .int .i64 T ∧ T ≤ l.length ∧ IsRd wr r q (l.drop T) ∧ Below w.heap.size w wr ∧ q < wr.heap.size) (fun _ i _ => its.length - (intOf i).toNat)
      case atStart => exact ⟨0, 0, by omega, rfl, rfl, by omega, by simpa using RB.out, XB.out, QB.out⟩
      case round =>
        clear RB XB QB
        obtain ⟨k, T, hk, rfl, rfl, hT, hrd, hbel, hqs⟩ := hrel
        have XB : Hid (Below w.heap.size w wr) := hbel
        have RB : Hid (IsRd wr r q (l.drop T)) := hrd
        have QB : Hid (q < wr.heap.size) := hqs
        clear hbel hrd hqs
        by_cases hlt : k < its.length
        · rcases hcell with hz | ⟨pb, po, rfl, hcl⟩
          · omega
          have hx := HOK.out its[k] (List.getElem_mem hlt)
          have c0' : w.cell? ⟨pb, po + k * 3, none⟩ = some (.int .u64 its[k].n) := hcl (k * 3) _ (by have := cells_at its k hlt 0 (by omega); simpa [It.cells] using this)
          have c1' : w.cell? ⟨pb, po + k * 3 + 1, none⟩ = some (.int .i64 its[k].s) := by have := hcl (k * 3 + 1) (.int .i64 its[k].s) (by have := cells_at its k hlt 1 (by omega); simpa [It.cells] using this); simpa [Nat.add_assoc] using this
          have c2' : w.cell? ⟨pb, po + k * 3 + 2, none⟩ = some its[k].v := by have := hcl (k * 3 + 2) its[k].v (by have := cells_at its k hlt 2 (by omega); simpa [It.cells] using this); simpa [Nat.add_assoc] using this
          have d0 := (XB.out.cell (cell_block_lt c0')).trans c0'
          have d1 := (XB.out.cell (cell_block_lt c1')).trans c1'
          have d2 := (XB.out.cell (cell_block_lt c2')).trans c2'
          clear c0' c1' c2' hcl
          obtain ⟨x1, x2, x3, x4⟩ := hx
          obtain ⟨_, xa, xc, hxv, _⟩ := x4
          rw [hxv] at d2
          clear hxv
          generalize its[k] = x at *
          obtain ⟨xn, xs, xv, xb⟩ := x
          simp only at x1 x2 x3 d0 d1 d2
          have hld : (l.drop T).length = l.length - T := by simp
          have Ra : Hid (IsRd (wr.alloc (.cells #[.int .u64 xn, .int .i64 xs, .slice xa xb.length xc] 42)) r q (l.drop T)) := RB.out.kept (Below.heap_alloc _ _ _ RB.out.lt) (Below.heap_alloc _ _ _ QB.out)
          have Xa : Hid (Below w.heap.size w (wr.alloc (.cells #[.int .u64 xn, .int .i64 xs, .slice xa xb.length xc] 42))) := XB.out.alloc XB.out.size _
          have Qa : Hid (q < (wr.alloc (.cells #[.int .u64 xn, .int .i64 xs, .slice xa xb.length xc] 42)).heap.size) := by have := QB.out; unfold Hid; simp; omega
          have hrne : wr.heap.size ≠ r := by have := RB.out.lt; omega
          have Hrne : Hid (wr.heap.size ≠ r) := hrne
          clear hrne RB QB
          by_cases hpar : xn % 2 = 0
          · have hpar' : (((xn : Int) % 2) == 0) = true := by simp; omega
            have Hpar : Hid (xn % 2 = 0) := hpar
            clear hpar
            by_cases hok : 1 ≤ xs ∧ xs ≤ 8 ∧ xs ≤ (l.length : Int) - (T : Int)
            · obtain ⟨o1, o2, o3⟩ := hok
              obtain ⟨S, rfl⟩ := Int.eq_ofNat_of_zero_le (show 0 ≤ xs by omega)
              go_wp2_with fail
              refine (take_yes r q _ S _ Ra.out (by omega) (by omega) (by rw [hld]; omega)).mono ?_
              rintro e w5 ⟨rfl, hrd5, hg5, hs5⟩
              have hk5 := hg5.block wr.heap.size (by simp) (by intro e; injection e with e; exact Hrne.out e)
              have g0 : w5.cell? ⟨wr.heap.size, 0, none⟩ = some (.int .u64 xn) := (World.cell?_of_block (a := ⟨wr.heap.size, 0, none⟩) hk5).trans (by simp)
              have g1 : w5.cell? ⟨wr.heap.size, 1, none⟩ = some (.int .i64 S) := (World.cell?_of_block (a := ⟨wr.heap.size, 1, none⟩) hk5).trans (by simp)
              have X5 : Hid (Below w.heap.size w w5) := Xa.out.grown hg5 Xa.out.size (fun j hj => by injection hj with hj; have := D4.out.1; omega)
              have R5 : Hid (IsRd w5 r q (l.drop (T + S))) := by rw [List.drop_drop] at hrd5; exact hrd5
              have Q5 : Hid (q < w5.heap.size) := by have := Qa.out; unfold Hid; omega
              obtain ⟨sa, sc, hrun, hbs⟩ := slice_mid H0.out T S (by omega)
              have HBs : Hid (Bs w5 (.slice sa S sc) ((l.drop T).take S)) := hbs.below X5.out
              clear hbs hrd5 hg5 hs5 hk5 Ra Qa Xa XB hld
              go_wp2_with fail
              refine (get_any _ _ _ HBs.out (by simp; omega)).mono ?_
              rintro e w6 ⟨rfl, rfl⟩
              generalize num64 ((l.drop T).take S) = m at *
              go_wp2_with fail
              refine (left_any r q _ _ R5.out).mono ?_
              rintro e w6 ⟨rfl, rfl⟩
              have hl6 : ((l.drop (T + S)).length : Int) = (l.length : Int) - ((T : Int) + (S : Int)) := by simp; omega
              rw [hl6]
              clear hl6
              go_wp2
              go_roundw
              case rel => exact ⟨k + 1, T + S, by omega, by go_num, by go_num, by omega, R5.out, X5.out, Q5.out⟩
              case measure => simp [intOf]; omega
            · have hno : ¬ (1 ≤ xs ∧ xs ≤ 8) ∨ ((l.drop T).length : Int) < xs := by rw [hld]; by_cases h : 1 ≤ xs ∧ xs ≤ 8; exact .inr (by omega); exact .inl h
              have HNO : Hid (¬ (1 ≤ xs ∧ xs ≤ 8) ∨ ((l.drop T).length : Int) < xs) := hno
              clear hno hld
              go_wp2_with fail
              refine (take_no r q _ xs _ Ra.out HNO.out).mono ?_
              rintro e w5 ⟨rfl, rfl⟩
              by_cases p1 : 1 ≤ xs
              · by_cases p2 : xs ≤ 8
                · have p3 : ¬ xs ≤ (l.length : Int) - (T : Int) := fun h => hok ⟨p1, p2, h⟩
                  clear hok
                  go_wp2_with fail
                  refine (left_any r q _ _ Ra.out).mono ?_
                  rintro e w6 ⟨rfl, hw6⟩
                  have hl6 : ((l.drop T).length : Int) = (l.length : Int) - (T : Int) := by simp; omega
                  rw [hl6]
                  have XX : Hid (w6 = wr.alloc (.cells #[.int .u64 xn, .int .i64 xs, .slice xa xb.length xc] 42)) := hw6
                  clear hl6 hw6
                  go_wp2
                  go_roundw
                  case rel => rw [XX.out]; exact ⟨k + 1, T, by omega, by go_num, rfl, hT, Ra.out, Xa.out, Qa.out⟩
                  case measure => simp [intOf]; omega
                · clear hok
                  go_wp2_with fail
                  refine (left_any r q _ _ Ra.out).mono ?_
                  rintro e w6 ⟨rfl, hw6⟩
                  have hl6 : ((l.drop T).length : Int) = (l.length : Int) - (T : Int) := by simp; omega
                  rw [hl6]
                  have XX : Hid (w6 = wr.alloc (.cells #[.int .u64 xn, .int .i64 xs, .slice xa xb.length xc] 42)) := hw6
                  clear hl6 hw6
                  go_wp2
                  go_roundw
                  case rel => rw [XX.out]; exact ⟨k + 1, T, by omega, by go_num, rfl, hT, Ra.out, Xa.out, Qa.out⟩
                  case measure => simp [intOf]; omega
              · clear hok
                go_wp2_with fail
                refine (left_any r q _ _ Ra.out).mono ?_
                rintro e w6 ⟨rfl, hw6⟩
                have hl6 : ((l.drop T).length : Int) = (l.length : Int) - (T : Int) := by simp; omega
                rw [hl6]
                have XX : Hid (w6 = wr.alloc (.cells #[.int .u64 xn, .int .i64 xs, .slice xa xb.length xc] 42)) := hw6
                clear hl6 hw6
                go_wp2
                go_roundw
                case rel => rw [XX.out]; exact ⟨k + 1, T, by omega, by go_num, rfl, hT, Ra.out, Xa.out, Qa.out⟩
                case measure => simp [intOf]; omega
          · have hpar' : (((xn : Int) % 2) == 0) = false := by simp; omega
            clear hpar
            by_cases hok : 0 ≤ xs ∧ xs ≤ (l.length : Int) - (T : Int)
            · obtain ⟨o1, o3⟩ := hok
              obtain ⟨S, rfl⟩ := Int.eq_ofNat_of_zero_le o1
              go_wp2_with fail
              refine (cut_yes r q _ S _ Ra.out Qa.out (by rw [hld]; omega)).mono ?_
              rintro e w5 ⟨p5, rfl, hp5, hown5, hrd5, hg5⟩
              have hk5 := hg5.block wr.heap.size (by simp) (by intro e; injection e with e; exact Hrne.out e)
              have g0 : w5.cell? ⟨wr.heap.size, 0, none⟩ = some (.int .u64 xn) := (World.cell?_of_block (a := ⟨wr.heap.size, 0, none⟩) hk5).trans (by simp)
              have g1 : w5.cell? ⟨wr.heap.size, 1, none⟩ = some (.int .i64 S) := (World.cell?_of_block (a := ⟨wr.heap.size, 1, none⟩) hk5).trans (by simp)
              have X5 : Hid (Below w.heap.size w w5) := Xa.out.grown hg5 Xa.out.size (fun j hj => by injection hj with hj; have := D4.out.1; omega)
              have R5 : Hid (IsRd w5 r q (l.drop (T + S))) := by rw [List.drop_drop] at hrd5; exact hrd5
              have Q5 : Hid (q < w5.heap.size) := by have := Qa.out; have := hg5.size; unfold Hid; omega
              obtain ⟨sa, sc, hrun, hbs⟩ := slice_mid H0.out T S (by omega)
              have htl : ((l.drop T).take S).length = S := by simp; omega
              have hst := str_toList
              have HC : Hid ((convert 22 9 (.slice (some ⟨p5, 0, none⟩) S S)).run Try.prog w5.drew = .ok (.string (str ((l.drop T).take S))) w5.drew ∧ (convert 22 9 (.slice sa S sc)).run Try.prog w5.drew = .ok (.string (str ((l.drop T).take S))) w5.drew ∧ w5.drew.cell? ⟨wr.heap.size, 1, none⟩ = some (.int .i64 S)) := by
                refine ⟨conv_str (W := w5.drew) ?_, conv_str (W := w5.drew) ((hbs.below X5.out).below (Below.refl _ _).drew), g1⟩
                have h := hown5.bs (by omega)
                rw [htl] at h
                exact h.below (Below.refl _ _).drew
              have hwr : IntKind.i64.wrap ((T : Int) + (S : Int)) = (T : Int) + (S : Int) := by rw [IntKind.wrap_i64]; omega
              clear hbs hrd5 hk5 Ra Qa Xa XB hld hp5 hown5 hg5 htl
              generalize (l.drop T).take S = t at *
              have R6 : Hid (IsRd w5.drew r q (l.drop (T + S))) := R5.out.kept rfl rfl
              go_wp2_with fail
              go_region_held3 (fun W => (convert 22 9 (.slice (some ⟨p5, 0, none⟩) S S)).run Try.prog W = .ok (.string (str t)) W ∧ (convert 22 9 (.slice sa S sc)).run Try.prog W = .ok (.string (str t)) W ∧ W.cell? ⟨wr.heap.size, 1, none⟩ = some (.int .i64 S)) (exact HC.out) (fail)
              go_wp2_with fail
              refine (left_any r q _ _ R6.out).mono ?_
              rintro e w6 ⟨rfl, hw6⟩
              have hl6 : ((l.drop (T + S)).length : Int) = (l.length : Int) - ((T : Int) + (S : Int)) := by simp; omega
              rw [hl6]
              have XX : Hid (w6 = w5.drew) := hw6
              clear hl6 hw6
              go_wp2
              go_roundw
              case rel => rw [XX.out]; exact ⟨k + 1, T + S, by omega, by go_num, by go_num, by omega, R6.out, X5.out.drew, Q5.out⟩
              case measure => simp [intOf]; omega
            · have hno : xs < 0 ∨ ((l.drop T).length : Int) < xs := by rw [hld]; omega
              have HNO : Hid (xs < 0 ∨ ((l.drop T).length : Int) < xs) := hno
              clear hno hld
              go_wp2_with fail
              refine (cut_no r q _ xs _ Ra.out HNO.out).mono ?_
              rintro e w5 ⟨rfl, rfl⟩
              by_cases p1 : 0 ≤ xs
              · have p3 : ¬ xs ≤ (l.length : Int) - (T : Int) := fun h => hok ⟨p1, h⟩
                clear hok
                go_wp2_with fail
                refine (left_any r q _ _ Ra.out).mono ?_
                rintro e w6 ⟨rfl, hw6⟩
                have hl6 : ((l.drop T).length : Int) = (l.length : Int) - (T : Int) := by simp; omega
                rw [hl6]
                have XX : Hid (w6 = wr.alloc (.cells #[.int .u64 xn, .int .i64 xs, .slice xa xb.length xc] 42)) := hw6
                clear hl6 hw6
                go_wp2
                go_roundw
                case rel => rw [XX.out]; exact ⟨k + 1, T, by omega, by go_num, rfl, hT, Ra.out, Xa.out, Qa.out⟩
                case measure => simp [intOf]; omega
              · clear hok
                go_wp2_with fail
                refine (left_any r q _ _ Ra.out).mono ?_
                rintro e w6 ⟨rfl, hw6⟩
                have hl6 : ((l.drop T).length : Int) = (l.length : Int) - (T : Int) := by simp; omega
                rw [hl6]
                have XX : Hid (w6 = wr.alloc (.cells #[.int .u64 xn, .int .i64 xs, .slice xa xb.length xc] 42)) := hw6
                clear hl6 hw6
                go_wp2
                go_roundw
                case rel => rw [XX.out]; exact ⟨k + 1, T, by omega, by go_num, rfl, hT, Ra.out, Xa.out, Qa.out⟩
                case measure => simp [intOf]; omega
        · go_wp2
          go_ret
          exact ⟨rfl, XB.out⟩

end Go.Proofs.Ytjbgfgpclkabjaa
