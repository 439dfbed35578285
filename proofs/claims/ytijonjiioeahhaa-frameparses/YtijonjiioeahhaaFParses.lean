/-
  The walk of the statement FrameParses.
-/
import Derived.Test.YtijonjiioeahhaaFrJ
namespace Go.Proofs.Ytijonjiioeahhaa
open Go.RowKit
set_option linter.unusedVariables false

set_option maxRecDepth 100000 in
set_option maxHeartbeats 4000000 in
theorem frameParses_walk (v : Value) (l : List UInt8) (w : World) (hl : Bs w v l) :
    Calls Try.prog 8 #[v] w fun e w' => e = .returned (.bool true) ∧ Below w.heap.size w w' := by
  have HB : Hid (Bs w v l) := hl
  obtain ⟨-, a0, k0, rfl, -, -, -, -⟩ := hl
  go_enter Try.func8, Try.ntmps8
  go_wp2_with fail
  refine (speaks6_any _).mono ?_
  rintro e w1 ⟨rfl, hb1⟩
  have B1 : Hid (Below w.heap.size w w1) := hb1
  clear hb1
  by_cases h500 : 500 < l.length
  · have h500I : (500 : Int) < (l.length : Int) := by omega
    go_wp2
    go_ret
    exact ⟨rfl, B1.out⟩
  have h500I : ¬ (500 : Int) < (l.length : Int) := by omega
  go_wp2_with fail
  refine (fnew_any _).mono ?_
  rintro e w2 ⟨c, g, rfl, hco, hb2, -, -, -⟩
  have C2 : Hid (IsCo w2 c g) := hco
  have B2 : Hid (Below w.heap.size w w2) := below_mid B1.out hb2
  clear hco hb2 B1
  by_cases hpe : parseE l = 0
  · obtain ⟨z0, z1, z2, z3, z4, z5, z6, z7, hPV, hPW, hMH, hFR, hPL, hLEN, hz0, hz7, hz2⟩ := parsed_ok l hpe
    have HPE : Hid (parseE l = 0) := hpe
    have HPV : Hid (∀ q, packV l q = #[.int .u64 (z0 : Nat), .int .i64 (z1 : Nat), .int .i64 (z2 : Nat), .int .i64 (z3 : Nat), .int .i64 (z4 : Nat), .int .i64 (z5 : Nat), .int .i64 (z6 : Nat), .int .u64 (z7 : Nat), .slice (some ⟨q, 0, none⟩) z2 z2]) := hPV
    have HPW : Hid (∀ q k, packW l q k = #[.int .u64 (z0 : Nat), .int .i64 (z1 : Nat), .int .i64 (z2 : Nat), .int .i64 (z3 : Nat), .int .i64 (z4 : Nat), .int .i64 (z5 : Nat), .int .i64 (z6 : Nat), .int .u64 (z7 : Nat), .slice (some ⟨q, 0, none⟩) z2 k]) := hPW
    have HMH : Hid (MayH z1 z2 z3 z4 z5 z6) := hMH
    have HFR : Hid (frameB z0 z1 z2 z3 z4 z5 z6 z7 (payB l) = l) := hFR
    have HPL : Hid ((payB l).length = z2) := hPL
    have HLN : Hid (l.length = 42 + z2) := hLEN
    have HZB : Hid (z0 < 2 ^ 64 ∧ z7 < 2 ^ 64) := ⟨hz0, hz7⟩
    have HZ2 : Hid (num l 15 2 = z2) := hz2
    have hz2b : z2 ≤ 500 := by omega
    clear hpe hPV hPW hMH hFR hPL hLEN hz0 hz7 hz2
    go_wp2_with fail
    refine (parse_ok c g _ l w2 C2.out (HB.out.below B2.out) HPE.out).mono ?_
    rintro e w3 ⟨q3, rfl, hq3, ho3, hb3⟩
    rw [HPV.out]
    have B3 : Hid (Below w.heap.size w w3) := below_mid B2.out hb3
    have C3 : Hid (IsCo w3 c g) := C2.out.below hb3
    have P3 : Hid (Bs w3 (.slice (some ⟨q3, 0, none⟩) z2 z2) (payB l)) := by
      have h := ho3.bs (by rw [HPL.out]; omega)
      rw [HPL.out] at h
      exact h
    clear ho3 hq3 hb3 B2 C2 HPV
    go_wp2_with fail
    refine (rparse_any _ l _ (HB.out.below (below_mid B3.out (below_alloc _ _))) (by omega)).mono ?_
    rintro e w4 ⟨r, rfl, hr, hb4⟩
    rw [HPE.out]
    obtain ⟨q4, k4, hr4, hbs4⟩ : ∃ q k, r = packW l q k ∧ Bs w4 (.slice (some ⟨q, 0, none⟩) z2 k) (payB l) := by
      rcases hr with ⟨h, -⟩ | ⟨-, q, k, h1, h2⟩
      · exact absurd HPE.out h
      · rw [HZ2.out] at h2
        exact ⟨q, k, h1, h2⟩
    rw [hr4, HPW.out]
    have N4 : Hid (Nine w4 w3.heap.size z0 z1 z2 z3 z4 z5 z6 z7 (.slice (some ⟨q3, 0, none⟩) z2 z2)) := (nine_new w3 67 z0 z1 z2 z3 z4 z5 z6 z7 _).below hb4
    have X4' := below_mid (below_alloc w3 _) hb4
    have B4 : Hid (Below w.heap.size w w4) := below_mid B3.out X4'
    have C4 : Hid (IsCo w4 c g) := C3.out.below X4'
    have P4 : Hid (Bs w4 (.slice (some ⟨q3, 0, none⟩) z2 z2) (payB l)) := P3.out.below X4'
    have Q4 : Hid (Bs w4 (.slice (some ⟨q4, 0, none⟩) z2 k4) (payB l)) := hbs4
    clear hr hr4 hbs4 hb4 X4' B3 C3 P3 HPW
    obtain ⟨p3, hp3⟩ : ∃ p, w3.heap.size = p := ⟨_, rfl⟩
    rw [hp3] at N4 ⊢
    clear hp3
    have hlt := N4.out.lt
    obtain ⟨⟨c0, c1, c2, c3, c4, c5, c6, c7⟩, c8⟩ := N4.out
    go_wp2_with fail
    refine (same6_yes z0 z1 z2 z3 z4 z5 z6 z7 (some ⟨q3, 0, none⟩) (some ⟨q4, 0, none⟩) z2 z2 z2 k4 (payB l) _ (P4.out.below (below_alloc _ _)) (Q4.out.below (below_alloc _ _))).mono ?_
    rintro e w5 ⟨rfl, hb5⟩
    have X5' := below_mid (below_alloc w4 _) hb5
    have B5 : Hid (Below w.heap.size w w5) := below_mid B4.out X5'
    have N5 : Hid (Nine w5 p3 z0 z1 z2 z3 z4 z5 z6 z7 (.slice (some ⟨q3, 0, none⟩) z2 z2)) := N4.out.below X5'
    have C5 : Hid (IsCo w5 c g) := C4.out.below X5'
    have P5 : Hid (Bs w5 (.slice (some ⟨q3, 0, none⟩) z2 z2) (payB l)) := P4.out.below X5'
    clear hb5 X5' B4 C4 P4 Q4 N4 c0 c1 c2 c3 c4 c5 c6 c7 c8 hlt
    obtain ⟨⟨c0, c1, c2, c3, c4, c5, c6, c7⟩, c8⟩ := N5.out
    go_wp2_with fail
    refine (enc_yes c g z0 z1 z2 z3 z4 z5 z6 z7 (some ⟨q3, 0, none⟩) z2 (payB l) w5 C5.out HMH.out HZB.out.1 HZB.out.2 P5.out HPL.out (by omega)).mono ?_
    rintro e w6 ⟨q6, rfl, hq6, ho6, hb6⟩
    rw [HFR.out] at ho6
    have B6 : Hid (Below w.heap.size w w6) := below_mid B5.out hb6
    have F6 : Hid (Bs w6 (.slice (some ⟨q6, 0, none⟩) (42 + z2) (42 + z2)) l) := by
      have h := ho6.bs (by omega)
      rw [HLN.out] at h
      exact h
    have G6 : Hid (Bs w6 (.slice a0 l.length k0) l) := HB.out.below B6.out
    clear hq6 ho6 hb6 B5 N5 C5 P5 c0 c1 c2 c3 c4 c5 c6 c7 c8
    have k1 := conv_bytes F6.out
    have k2 := conv_bytes G6.out
    have hst := str_toList
    go_wp2
    go_ret
    exact ⟨rfl, B6.out⟩
  · have HPE : Hid (parseE l ≠ 0) := hpe
    obtain ⟨ee, hee⟩ : ∃ ee, parseE l = ee := ⟨_, rfl⟩
    have HEE : Hid (parseE l = ee) := hee
    have hne : (ee == 0) = false := by rw [← hee]; simpa using hpe
    clear hpe hee
    go_wp2_with fail
    refine (parse_no c g _ l w2 C2.out (HB.out.below B2.out) HPE.out).mono ?_
    rintro e w3 ⟨rfl, hb3⟩
    rw [HEE.out]
    have B3 : Hid (Below w.heap.size w w3) := below_mid B2.out hb3
    clear hb3 B2 C2
    go_wp2_with fail
    refine (rparse_any _ l _ (HB.out.below (below_mid B3.out (below_alloc _ _))) (by omega)).mono ?_
    rintro e w4 ⟨r, rfl, hr, hb4⟩
    rw [HEE.out]
    obtain rfl : r = #[.int .u64 0, .int .i64 0, .int .i64 0, .int .i64 0, .int .i64 0, .int .i64 0, .int .i64 0, .int .u64 0, .slice none 0 0] := by
      rcases hr with ⟨-, h⟩ | ⟨h, -⟩
      · exact h
      · exact absurd h HPE.out
    have N4 : Hid (Nine w4 w3.heap.size 0 0 0 0 0 0 0 0 (.slice none 0 0)) := (nine_new w3 67 0 0 0 0 0 0 0 0 _).below hb4
    have B4 : Hid (Below w.heap.size w w4) := below_mid B3.out (below_mid (below_alloc w3 _) hb4)
    clear hr hb4 B3
    obtain ⟨p3, hp3⟩ : ∃ p, w3.heap.size = p := ⟨_, rfl⟩
    rw [hp3] at N4 ⊢
    clear hp3
    have hlt := N4.out.lt
    obtain ⟨⟨c0, c1, c2, c3, c4, c5, c6, c7⟩, c8⟩ := N4.out
    go_wp2_with fail
    refine (same6_yes 0 0 0 0 0 0 0 0 none none 0 0 0 0 [] _ (bs_nil _) (bs_nil _)).mono ?_
    rintro e w5 ⟨rfl, hb5⟩
    have B5 : Hid (Below w.heap.size w w5) := below_mid B4.out (below_mid (below_alloc w4 _) hb5)
    clear hb5 B4 N4 c0 c1 c2 c3 c4 c5 c6 c7 c8 hlt
    go_wp2
    go_ret
    exact ⟨rfl, B5.out⟩

end Go.Proofs.Ytijonjiioeahhaa
