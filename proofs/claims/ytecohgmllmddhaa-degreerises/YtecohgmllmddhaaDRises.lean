/-
  DegreeRises.
-/
import Derived.Test.YtecohgmllmddhaaDegF
import Derived.Test.YtecohgmllmddhaaRngS
import Derived.Test.YtecohgmllmddhaaLOrd
namespace Go.Proofs.Ytecohgmllmddhaa
open Go.RowKit
set_option linter.unusedVariables false

/-- Eight cells of a block. -/
def EightP (W : World) (b : Nat) (N B Q E F U V I : Int) : Prop := W.cell? ⟨b, 0, none⟩ = some (.int .i64 N) ∧ W.cell? ⟨b, 1, none⟩ = some (.int .i64 B) ∧ W.cell? ⟨b, 2, none⟩ = some (.int .i64 Q) ∧ W.cell? ⟨b, 3, none⟩ = some (.int .i64 E) ∧ W.cell? ⟨b, 4, none⟩ = some (.int .i64 F) ∧ W.cell? ⟨b, 5, none⟩ = some (.int .u64 U) ∧ W.cell? ⟨b, 6, none⟩ = some (.int .u64 V) ∧ W.cell? ⟨b, 7, none⟩ = some (.int .i64 I)

theorem EightP.below {W W' : World} {b : Nat} {N B Q E F U V I : Int} (h : EightP W b N B Q E F U V I) (hb : Below W.heap.size W W') : EightP W' b N B Q E F U V I := by
  obtain ⟨h0, h1, h2, h3, h4, h5, h6, h7⟩ := h
  exact ⟨(hb.cell (cell_block_lt h0)).trans h0, (hb.cell (cell_block_lt h1)).trans h1, (hb.cell (cell_block_lt h2)).trans h2, (hb.cell (cell_block_lt h3)).trans h3, (hb.cell (cell_block_lt h4)).trans h4, (hb.cell (cell_block_lt h5)).trans h5, (hb.cell (cell_block_lt h6)).trans h6, (hb.cell (cell_block_lt h7)).trans h7⟩

theorem eightP_new (w : World) (t : TypeId) (N B Q E F U V I : Int) : EightP (w.alloc (.cells #[.int .i64 N, .int .i64 B, .int .i64 Q, .int .i64 E, .int .i64 F, .int .u64 U, .int .u64 V, .int .i64 I] t)) w.heap.size N B Q E F U V I := by
  refine ⟨?_, ?_, ?_, ?_, ?_, ?_, ?_, ?_⟩ <;> simp

set_option maxRecDepth 100000 in
set_option maxHeartbeats 1000000 in
theorem degreeRises_no (N B Q E F U V I : Int) (w : World) (h : ¬ May N B Q E F) :
    Calls Try.prog 10 #[.agg #[.int .i64 N, .int .i64 B, .int .i64 Q, .int .i64 E, .int .i64 F, .int .u64 U, .int .u64 V, .int .i64 I]] w fun e w' => e = .returned (.bool true) ∧ Below w.heap.size w w' := by
  have H : Hid (¬ May N B Q E F) := h
  clear h
  go_enter Try.func10, Try.ntmps10
  go_wp2_with fail
  refine (speaks8_any _).mono ?_
  rintro e w1 ⟨rfl, hb1⟩
  have B1 : Hid (Below w.heap.size w w1) := below_mid (below_alloc _ _) hb1
  have F1 : Hid (EightP w1 w.heap.size N B Q E F U V I) := (eightP_new w _ N B Q E F U V I).below hb1
  clear hb1
  obtain ⟨c0, c1, c2, c3, c4, c5, c6, c7⟩ := F1.out
  have hsz : w.heap.size < w1.heap.size := cell_block_lt c0
  go_wp2_with fail
  go_region
  have B2 : Hid (Below w.heap.size w (w1.alloc (.cells #[.int .i64 N, .int .i64 B, .int .i64 Q, .int .i64 E, .int .i64 F] 24)).drew) := below_mid (below_mid B1.out (below_alloc _ _)) (below0 _)
  have F2 : Hid (Five (w1.alloc (.cells #[.int .i64 N, .int .i64 B, .int .i64 Q, .int .i64 E, .int .i64 F] 24)).drew w1.heap.size N B Q E F) := (five_new w1 _ N B Q E F).below (below0 _)
  obtain ⟨w2, hw2⟩ : ∃ W, (w1.alloc (.cells #[.int .i64 N, .int .i64 B, .int .i64 Q, .int .i64 E, .int .i64 F] 24)).drew = W := ⟨_, rfl⟩
  rw [hw2] at B2 F2 ⊢
  clear hw2 B1 F1 c0 c1 c2 c3 c4 c5 c6 c7 hsz
  generalize w1.heap.size = b0 at *
  obtain ⟨c0, c1, c2, c3, c4⟩ := F2.out
  go_wp2_with fail
  refine (rmay_no N B Q E F _ H.out).mono ?_
  rintro e w3 ⟨rfl, hb3⟩
  have B3 : Hid (Below w.heap.size w w3) := below_mid B2.out hb3
  clear hb3 B2 F2 c0 c1 c2 c3 c4
  go_wp2
  go_ret
  exact ⟨rfl, B3.out⟩

theorem deg_under {F E n d i : Nat} (hm : MayD F E) (h1 : 1 ≤ i) (h2 : i < F) (hn : belowN F E i = n + 1) (h : DegAt F E n d) : d ≤ i := by
  rcases Nat.lt_or_ge i d with hlt | hge
  · have := h.past i h1 hlt
    omega
  · exact hge

theorem deg_from {F E n d i : Nat} (hm : MayD F E) (h1 : 1 ≤ i) (h2 : i < F) (hn : belowN F E i = n) (h : DegAt F E n d) : i < d := by
  rcases Nat.lt_or_ge i d with hlt | hge
  · exact hlt
  · have a := h.at_ (by omega)
    have b := below_mono hm h.lo hge h2
    omega

set_option maxRecDepth 100000 in
set_option maxHeartbeats 2000000 in
theorem degreeRises_yes (N B Q : Int) (E F u v : Nat) (I : Int) (w : World) (h : May N B Q E F) (hm : MayD F E) (hu : u < 18446744073709551616) (hv : v < 18446744073709551616) :
    Calls Try.prog 10 #[.agg #[.int .i64 N, .int .i64 B, .int .i64 Q, .int .i64 (E : Nat), .int .i64 (F : Nat), .int .u64 (u : Nat), .int .u64 (v : Nat), .int .i64 I]] w fun e w' => e = .returned (.bool true) ∧ Below w.heap.size w w' := by
  have H : Hid (May N B Q E F) := h
  have HM : Hid (MayD F E) := hm
  obtain ⟨d, hd⟩ := deg_is (E := E) u hm.f2
  obtain ⟨g, hg⟩ := deg_is (E := E) v hm.f2
  have HC1 : Hid (∀ a W, IsDT W a F E → Calls Try.prog 33 #[.pointer (some ⟨a, 0, none⟩), .int .u64 (u : Nat)] W fun e w' => e = .returned (.int .i64 (d : Nat)) ∧ Below W.heap.size W w') := fun a W hW => dof_at hd a W hW hm hu
  have HC2 : Hid (∀ a W, IsDT W a F E → Calls Try.prog 33 #[.pointer (some ⟨a, 0, none⟩), .int .u64 (v : Nat)] W fun e w' => e = .returned (.int .i64 (g : Nat)) ∧ Below W.heap.size W w') := fun a W hW => dof_at hg a W hW hm hv
  have HL1 : Hid (u ≤ v → d ≤ g) := fun k => hd.le hg k
  have HL2 : Hid (v ≤ u → g ≤ d) := fun k => hg.le hd k
  have HB : Hid (1 ≤ d ∧ d ≤ F ∧ 1 ≤ g ∧ g ≤ F) := ⟨hd.lo, hd.hi, hg.lo, hg.hi⟩
  clear h hm hu hv hd hg
  go_enter Try.func10, Try.ntmps10
  go_wp2_with fail
  refine (speaks8_any _).mono ?_
  rintro e w1 ⟨rfl, hb1⟩
  have B1 : Hid (Below w.heap.size w w1) := below_mid (below_alloc _ _) hb1
  have F1 : Hid (EightP w1 w.heap.size N B Q E F u v I) := (eightP_new w _ N B Q E F u v I).below hb1
  clear hb1
  obtain ⟨c0, c1, c2, c3, c4, c5, c6, c7⟩ := F1.out
  have hsz : w.heap.size < w1.heap.size := cell_block_lt c0
  go_wp2_with fail
  go_region
  have B2 : Hid (Below w.heap.size w (w1.alloc (.cells #[.int .i64 N, .int .i64 B, .int .i64 Q, .int .i64 (E : Nat), .int .i64 (F : Nat)] 24)).drew) := below_mid (below_mid B1.out (below_alloc _ _)) (below0 _)
  have F2 : Hid (Five (w1.alloc (.cells #[.int .i64 N, .int .i64 B, .int .i64 Q, .int .i64 (E : Nat), .int .i64 (F : Nat)] 24)).drew w1.heap.size N B Q E F) := (five_new w1 _ N B Q E F).below (below0 _)
  obtain ⟨w2, hw2⟩ : ∃ W, (w1.alloc (.cells #[.int .i64 N, .int .i64 B, .int .i64 Q, .int .i64 (E : Nat), .int .i64 (F : Nat)] 24)).drew = W := ⟨_, rfl⟩
  rw [hw2] at B2 F2 ⊢
  clear hw2 B1 F1 c0 c1 c2 c3 c4 c5 c6 c7 hsz
  generalize w1.heap.size = b0 at *
  obtain ⟨c0, c1, c2, c3, c4⟩ := F2.out
  go_wp2_with fail
  refine (rmay_yes N B Q E F _ H.out).mono ?_
  rintro e w3 ⟨rfl, hb3⟩
  have B3 : Hid (Below w.heap.size w w3) := below_mid B2.out hb3
  have F3 : Hid (Five w3 b0 N B Q E F) := F2.out.below hb3
  clear hb3 B2 F2 c0 c1 c2 c3 c4
  obtain ⟨c0, c1, c2, c3, c4⟩ := F3.out
  go_wp2_with fail
  refine (dnew_yes N B Q E F _ H.out).mono ?_
  rintro e w4 ⟨a, -, rfl, hd4, hb4⟩
  have B4 : Hid (Below w.heap.size w w4) := below_mid B3.out hb4
  have F4 : Hid (Five w4 b0 N B Q E F) := F3.out.below hb4
  have D4 : Hid (IsDT w4 a F E) := hd4
  clear hb4 hd4 B3 F3 c0 c1 c2 c3 c4
  go_wp2_with fail
  refine (HC1.out a _ D4.out).mono ?_
  rintro e w5 ⟨rfl, hb5⟩
  have B5 : Hid (Below w.heap.size w w5) := below_mid B4.out hb5
  have F5 : Hid (Five w5 b0 N B Q E F) := F4.out.below hb5
  have D5 : Hid (IsDT w5 a F E) := D4.out.below hb5
  clear hb5 B4 F4 D4 HC1
  go_wp2_with fail
  refine (HC2.out a _ D5.out).mono ?_
  rintro e w6 ⟨rfl, hb6⟩
  have B6 : Hid (Below w.heap.size w w6) := below_mid B5.out hb6
  have F6 : Hid (Five w6 b0 N B Q E F) := F5.out.below hb6
  have D6 : Hid (IsDT w6 a F E) := D5.out.below hb6
  clear hb6 B5 F5 D5 HC2
  obtain ⟨c0, c1, c2, c3, c4⟩ := F6.out
  obtain ⟨q1, q2, q3, q4⟩ := HB.out
  have t1 : ¬ (d : Int) < 1 := by omega
  have t2 : ¬ (d : Int) > (F : Int) := by omega
  have t3 : ¬ (g : Int) < 1 := by omega
  have t4 : ¬ (g : Int) > (F : Int) := by omega
  clear q1 q2 q3 q4 HB
  by_cases huv : u ≤ v
  · have hdg : ¬ (d : Int) > (g : Int) := by have := HL1.out huv; omega
    have huv' : (u : Int) ≤ (v : Int) := by omega
    by_cases hvu : v ≤ u
    · have hgd : ¬ (g : Int) > (d : Int) := by have := HL2.out hvu; omega
      have hvu' : (v : Int) ≤ (u : Int) := by omega
      clear huv hvu HL1 HL2
      go_wp2_with fail
      by_cases hi : I < 1 ∨ (F : Int) ≤ I
      · refine (dbelow_no a F E I _ D6.out hi).mono ?_
        rintro e w7 ⟨rfl, hb7⟩
        have B7 : Hid (Below w.heap.size w w7) := below_mid B6.out hb7
        clear hb7 B6 F6 D6 c0 c1 c2 c3 c4 hi
        go_wp2
        go_ret
        exact ⟨rfl, B7.out⟩
      · obtain ⟨j, rfl⟩ := Int.eq_ofNat_of_zero_le (show 0 ≤ I by omega)
        have hj1 : 1 ≤ j := by omega
        have hj2 : j < F := by omega
        have hp := below_pos HM.out hj1 hj2
        have hl := below_lt HM.out hj1 hj2
        have HJ : Hid (1 ≤ j ∧ j < F) := ⟨hj1, hj2⟩
        refine (dbelow_yes a F E j _ D6.out HM.out hj1 hj2).mono ?_
        rintro e w7 ⟨rfl, hb7⟩
        have B7 : Hid (Below w.heap.size w w7) := below_mid B6.out hb7
        have D7 : Hid (IsDT w7 a F E) := D6.out.below hb7
        clear hb7 B6 F6 D6 c0 c1 c2 c3 c4 hi hj1 hj2
        obtain ⟨n, hn⟩ : ∃ n, belowN F E j = n + 1 := ⟨belowN F E j - 1, by omega⟩
        obtain ⟨x, hx⟩ := deg_is (F := F) (E := E) n HM.out.f2
        obtain ⟨y, hy⟩ := deg_is (F := F) (E := E) (n + 1) HM.out.f2
        have HX : Hid (∀ W, IsDT W a F E → Calls Try.prog 33 #[.pointer (some ⟨a, 0, none⟩), .int .u64 (n : Nat)] W fun e w' => e = .returned (.int .i64 (x : Nat)) ∧ Below W.heap.size W w') := fun W hW => dof_at hx a W hW HM.out (by omega)
        have HY : Hid (∀ W, IsDT W a F E → Calls Try.prog 33 #[.pointer (some ⟨a, 0, none⟩), .int .u64 ((n + 1 : Nat) : Int)] W fun e w' => e = .returned (.int .i64 (y : Nat)) ∧ Below W.heap.size W w') := fun W hW => dof_at hy a W hW HM.out (by omega)
        have hxj : (x : Int) ≤ (j : Int) := by have := deg_under HM.out HJ.out.1 HJ.out.2 hn hx; omega
        have hyj : (y : Int) > (j : Int) := by have := deg_from HM.out HJ.out.1 HJ.out.2 hn hy; omega
        rw [hn]
        have s1 := u64w_sub1 (a := n + 1) (c := n) rfl (by omega)
        have s2 : ((n + 1 : Nat) : Int) > 0 := by omega
        clear hn hp hl hx hy
        generalize n + 1 = m at *
        go_wp2_with fail
        refine (HX.out _ D7.out).mono ?_
        rintro e w8 ⟨rfl, hb8⟩
        have B8 : Hid (Below w.heap.size w w8) := below_mid B7.out hb8
        have D8 : Hid (IsDT w8 a F E) := D7.out.below hb8
        clear hb8 B7 D7 HX
        go_wp2_with fail
        refine (HY.out _ D8.out).mono ?_
        rintro e w9 ⟨rfl, hb9⟩
        have B9 : Hid (Below w.heap.size w w9) := below_mid B8.out hb9
        clear hb9 B8 D8 HY
        go_wp2
        go_ret
        exact ⟨rfl, B9.out⟩
    · have hvu' : ¬ (v : Int) ≤ (u : Int) := by omega
      clear huv hvu HL1 HL2
      go_wp2_with fail
      by_cases hi : I < 1 ∨ (F : Int) ≤ I
      · refine (dbelow_no a F E I _ D6.out hi).mono ?_
        rintro e w7 ⟨rfl, hb7⟩
        have B7 : Hid (Below w.heap.size w w7) := below_mid B6.out hb7
        clear hb7 B6 F6 D6 c0 c1 c2 c3 c4 hi
        go_wp2
        go_ret
        exact ⟨rfl, B7.out⟩
      · obtain ⟨j, rfl⟩ := Int.eq_ofNat_of_zero_le (show 0 ≤ I by omega)
        have hj1 : 1 ≤ j := by omega
        have hj2 : j < F := by omega
        have hp := below_pos HM.out hj1 hj2
        have hl := below_lt HM.out hj1 hj2
        have HJ : Hid (1 ≤ j ∧ j < F) := ⟨hj1, hj2⟩
        refine (dbelow_yes a F E j _ D6.out HM.out hj1 hj2).mono ?_
        rintro e w7 ⟨rfl, hb7⟩
        have B7 : Hid (Below w.heap.size w w7) := below_mid B6.out hb7
        have D7 : Hid (IsDT w7 a F E) := D6.out.below hb7
        clear hb7 B6 F6 D6 c0 c1 c2 c3 c4 hi hj1 hj2
        obtain ⟨n, hn⟩ : ∃ n, belowN F E j = n + 1 := ⟨belowN F E j - 1, by omega⟩
        obtain ⟨x, hx⟩ := deg_is (F := F) (E := E) n HM.out.f2
        obtain ⟨y, hy⟩ := deg_is (F := F) (E := E) (n + 1) HM.out.f2
        have HX : Hid (∀ W, IsDT W a F E → Calls Try.prog 33 #[.pointer (some ⟨a, 0, none⟩), .int .u64 (n : Nat)] W fun e w' => e = .returned (.int .i64 (x : Nat)) ∧ Below W.heap.size W w') := fun W hW => dof_at hx a W hW HM.out (by omega)
        have HY : Hid (∀ W, IsDT W a F E → Calls Try.prog 33 #[.pointer (some ⟨a, 0, none⟩), .int .u64 ((n + 1 : Nat) : Int)] W fun e w' => e = .returned (.int .i64 (y : Nat)) ∧ Below W.heap.size W w') := fun W hW => dof_at hy a W hW HM.out (by omega)
        have hxj : (x : Int) ≤ (j : Int) := by have := deg_under HM.out HJ.out.1 HJ.out.2 hn hx; omega
        have hyj : (y : Int) > (j : Int) := by have := deg_from HM.out HJ.out.1 HJ.out.2 hn hy; omega
        rw [hn]
        have s1 := u64w_sub1 (a := n + 1) (c := n) rfl (by omega)
        have s2 : ((n + 1 : Nat) : Int) > 0 := by omega
        clear hn hp hl hx hy
        generalize n + 1 = m at *
        go_wp2_with fail
        refine (HX.out _ D7.out).mono ?_
        rintro e w8 ⟨rfl, hb8⟩
        have B8 : Hid (Below w.heap.size w w8) := below_mid B7.out hb8
        have D8 : Hid (IsDT w8 a F E) := D7.out.below hb8
        clear hb8 B7 D7 HX
        go_wp2_with fail
        refine (HY.out _ D8.out).mono ?_
        rintro e w9 ⟨rfl, hb9⟩
        have B9 : Hid (Below w.heap.size w w9) := below_mid B8.out hb9
        clear hb9 B8 D8 HY
        go_wp2
        go_ret
        exact ⟨rfl, B9.out⟩
  · have huv' : ¬ (u : Int) ≤ (v : Int) := by omega
    have hvu : v ≤ u := by omega
    have hgd : ¬ (g : Int) > (d : Int) := by have := HL2.out hvu; omega
    have hvu' : (v : Int) ≤ (u : Int) := by omega
    clear huv hvu HL1 HL2
    go_wp2_with fail
    by_cases hi : I < 1 ∨ (F : Int) ≤ I
    · refine (dbelow_no a F E I _ D6.out hi).mono ?_
      rintro e w7 ⟨rfl, hb7⟩
      have B7 : Hid (Below w.heap.size w w7) := below_mid B6.out hb7
      clear hb7 B6 F6 D6 c0 c1 c2 c3 c4 hi
      go_wp2
      go_ret
      exact ⟨rfl, B7.out⟩
    · obtain ⟨j, rfl⟩ := Int.eq_ofNat_of_zero_le (show 0 ≤ I by omega)
      have hj1 : 1 ≤ j := by omega
      have hj2 : j < F := by omega
      have hp := below_pos HM.out hj1 hj2
      have hl := below_lt HM.out hj1 hj2
      have HJ : Hid (1 ≤ j ∧ j < F) := ⟨hj1, hj2⟩
      refine (dbelow_yes a F E j _ D6.out HM.out hj1 hj2).mono ?_
      rintro e w7 ⟨rfl, hb7⟩
      have B7 : Hid (Below w.heap.size w w7) := below_mid B6.out hb7
      have D7 : Hid (IsDT w7 a F E) := D6.out.below hb7
      clear hb7 B6 F6 D6 c0 c1 c2 c3 c4 hi hj1 hj2
      obtain ⟨n, hn⟩ : ∃ n, belowN F E j = n + 1 := ⟨belowN F E j - 1, by omega⟩
      obtain ⟨x, hx⟩ := deg_is (F := F) (E := E) n HM.out.f2
      obtain ⟨y, hy⟩ := deg_is (F := F) (E := E) (n + 1) HM.out.f2
      have HX : Hid (∀ W, IsDT W a F E → Calls Try.prog 33 #[.pointer (some ⟨a, 0, none⟩), .int .u64 (n : Nat)] W fun e w' => e = .returned (.int .i64 (x : Nat)) ∧ Below W.heap.size W w') := fun W hW => dof_at hx a W hW HM.out (by omega)
      have HY : Hid (∀ W, IsDT W a F E → Calls Try.prog 33 #[.pointer (some ⟨a, 0, none⟩), .int .u64 ((n + 1 : Nat) : Int)] W fun e w' => e = .returned (.int .i64 (y : Nat)) ∧ Below W.heap.size W w') := fun W hW => dof_at hy a W hW HM.out (by omega)
      have hxj : (x : Int) ≤ (j : Int) := by have := deg_under HM.out HJ.out.1 HJ.out.2 hn hx; omega
      have hyj : (y : Int) > (j : Int) := by have := deg_from HM.out HJ.out.1 HJ.out.2 hn hy; omega
      rw [hn]
      have s1 := u64w_sub1 (a := n + 1) (c := n) rfl (by omega)
      have s2 : ((n + 1 : Nat) : Int) > 0 := by omega
      clear hn hp hl hx hy
      generalize n + 1 = m at *
      go_wp2_with fail
      refine (HX.out _ D7.out).mono ?_
      rintro e w8 ⟨rfl, hb8⟩
      have B8 : Hid (Below w.heap.size w w8) := below_mid B7.out hb8
      have D8 : Hid (IsDT w8 a F E) := D7.out.below hb8
      clear hb8 B7 D7 HX
      go_wp2_with fail
      refine (HY.out _ D8.out).mono ?_
      rintro e w9 ⟨rfl, hb9⟩
      have B9 : Hid (Below w.heap.size w w9) := below_mid B8.out hb9
      clear hb9 B8 D8 HY
      go_wp2
      go_ret
      exact ⟨rfl, B9.out⟩

/-- DegreeRises. -/
theorem degreeRises_walk (N B Q E F U V I : Int) (w : World) (hw : Ok .i64 N ∧ Ok .i64 B ∧ Ok .i64 Q ∧ Ok .i64 E ∧ Ok .i64 F ∧ Ok .u64 U ∧ Ok .u64 V ∧ Ok .i64 I) :
    Calls Try.prog 10 #[.agg #[.int .i64 N, .int .i64 B, .int .i64 Q, .int .i64 E, .int .i64 F, .int .u64 U, .int .u64 V, .int .i64 I]] w fun e w' => e = .returned (.bool true) ∧ Below w.heap.size w w' := by
  by_cases h : May N B Q E F
  · obtain ⟨e, f, rfl, rfl, hm⟩ := may_nat h
    obtain ⟨u, rfl, hu⟩ := u64_nat hw.2.2.2.2.2.1
    obtain ⟨v, rfl, hv⟩ := u64_nat hw.2.2.2.2.2.2.1
    exact degreeRises_yes N B Q e f u v I w h hm hu hv
  · exact degreeRises_no N B Q E F U V I w h

end Go.Proofs.Ytecohgmllmddhaa
