/-
  What is read of a frame, and of what was read; the frame statements' own first look.
-/
import Derived.Test.YtijonjiioeahhaaFrI
import Derived.Test.YtijonjiioeahhaaLStruct
namespace Go.Proofs.Ytijonjiioeahhaa
open Go.RowKit
set_option linter.unusedVariables false

/-- What is read of a frame that was written. -/
theorem pack_frame (S N B Q E F L I : Nat) (p : List UInt8) (hS : S < 2 ^ 64) (hI : I < 2 ^ 64) (hm : MayH N B Q E F L) (hp : p.length = B) :
    (∀ q, packV (frameB S N B Q E F L I p) q = #[.int .u64 (S : Nat), .int .i64 (N : Nat), .int .i64 (B : Nat), .int .i64 (Q : Nat), .int .i64 (E : Nat), .int .i64 (F : Nat), .int .i64 (L : Nat), .int .u64 (I : Nat), .slice (some ⟨q, 0, none⟩) B B]) ∧ payB (frameB S N B Q E F L I p) = p := by
  obtain ⟨⟨hN, hB, hQ, hE, hF, hEF⟩, hL0, hL⟩ := hm
  have hr := most_range hN hB
  obtain ⟨h0, h1, h2, h3, h4, h5, h6, h7, h8, h9, h10⟩ := frame_parts S N B Q E F L I p hS (by omega) (by omega) (by omega) (by omega) (by omega) (by omega) hI
  constructor
  · intro q
    unfold packV
    rw [h2, h3, h4, h5, h6, h7, h8, h9, asInt_small L (by omega)]
  · unfold payB
    rw [hp] at h10
    rw [h4]
    exact h10

/-- What was read of bytes that are a frame. -/
theorem parsed_ok (l : List UInt8) (h : parseE l = 0) : ∃ z0 z1 z2 z3 z4 z5 z6 z7 : Nat, (∀ q, packV l q = #[.int .u64 (z0 : Nat), .int .i64 (z1 : Nat), .int .i64 (z2 : Nat), .int .i64 (z3 : Nat), .int .i64 (z4 : Nat), .int .i64 (z5 : Nat), .int .i64 (z6 : Nat), .int .u64 (z7 : Nat), .slice (some ⟨q, 0, none⟩) z2 z2]) ∧ (∀ q k, packW l q k = #[.int .u64 (z0 : Nat), .int .i64 (z1 : Nat), .int .i64 (z2 : Nat), .int .i64 (z3 : Nat), .int .i64 (z4 : Nat), .int .i64 (z5 : Nat), .int .i64 (z6 : Nat), .int .u64 (z7 : Nat), .slice (some ⟨q, 0, none⟩) z2 k]) ∧
    MayH z1 z2 z3 z4 z5 z6 ∧ frameB z0 z1 z2 z3 z4 z5 z6 z7 (payB l) = l ∧ (payB l).length = z2 ∧ l.length = 42 + z2 ∧ z0 < 2 ^ 64 ∧ z7 < 2 ^ 64 ∧ num l 15 2 = z2 := by
  obtain ⟨h42, hlen, hmay, hL, hfr⟩ := frame_parse l h
  refine ⟨num l 3 8, num l 11 4, num l 15 2, num l 17 1, num l 18 2, num l 20 2, num l 22 8, num l 30 8, ?_, ?_, hmay, hfr, ?_, hlen, num_lt l 3 8, num_lt l 30 8, rfl⟩
  · intro q
    unfold packV
    rw [hL]
  · intro q k
    unfold packW
    rw [hL]
  · unfold payB
    simp
    omega

theorem bs_nil (w : World) : Bs w (.slice none 0 0) [] := ⟨rfl, none, 0, rfl, Nat.le_refl _, by simp [maxLen], fun _ => rfl, .inl rfl⟩

theorem may_small : MayH ((3 : Nat) : Int) ((2 : Nat) : Int) ((1 : Nat) : Int) ((1000 : Nat) : Int) ((2 : Nat) : Int) ((6 : Nat) : Int) := by unfold MayH May; decide

set_option maxRecDepth 100000 in
set_option maxHeartbeats 2000000 in
theorem speaks6_any (w : World) : Calls Try.prog 41 #[] w fun e w' => e = .returned (.bool true) ∧ Below w.heap.size w w' := by
  go_enter Try.func41, Try.ntmps41
  go_wp2_with fail
  refine (fnew_any _).mono ?_
  rintro e w1 ⟨c, g, rfl, hco, hb1, -, -, -⟩
  have C1 : Hid (IsCo w1 c g) := hco
  have B1 : Hid (Below w.heap.size w w1) := hb1
  clear hco hb1
  go_wp2_with fail
  have P2 : Hid (Bs ((w1.alloc (.cells #[.int .u8 7, .int .u8 8] 5)).alloc (.cells #[.int .u64 5, .int .i64 3, .int .i64 2, .int .i64 1, .int .i64 1000, .int .i64 2, .int .i64 6, .int .u64 9, .slice (some ⟨w1.heap.size, 0, none⟩) 2 2] 67)) (.slice (some ⟨w1.heap.size, 0, none⟩) 2 2) [7, 8]) := (Bs.lit w1 _ 5 (0, 0) [7, 8] _ 2 rfl rfl rfl (by simp)).below (below_alloc _ _)
  have X2 : Hid (Below w1.heap.size w1 ((w1.alloc (.cells #[.int .u8 7, .int .u8 8] 5)).alloc (.cells #[.int .u64 5, .int .i64 3, .int .i64 2, .int .i64 1, .int .i64 1000, .int .i64 2, .int .i64 6, .int .u64 9, .slice (some ⟨w1.heap.size, 0, none⟩) 2 2] 67))) := (below_alloc _ _).alloc (by simp) _
  have N2 : Hid (Nine ((w1.alloc (.cells #[.int .u8 7, .int .u8 8] 5)).alloc (.cells #[.int .u64 5, .int .i64 3, .int .i64 2, .int .i64 1, .int .i64 1000, .int .i64 2, .int .i64 6, .int .u64 9, .slice (some ⟨w1.heap.size, 0, none⟩) 2 2] 67)) (w1.heap.size + 1) 5 3 2 1 1000 2 6 9 (.slice (some ⟨w1.heap.size, 0, none⟩) 2 2)) := by
    have h := nine_new (w1.alloc (.cells #[.int .u8 7, .int .u8 8] 5)) 67 5 3 2 1 1000 2 6 9 (.slice (some ⟨w1.heap.size, 0, none⟩) 2 2)
    rw [World.size_alloc] at h
    exact h
  have C2 : Hid (IsCo _ c g) := C1.out.below X2.out
  have Y2 : Hid (Below w.heap.size w _) := below_mid B1.out X2.out
  clear X2 C1 B1
  obtain ⟨s1, hs1⟩ : ∃ s1, w1.heap.size = s1 := ⟨_, rfl⟩
  rw [hs1] at P2 N2 C2 Y2 ⊢
  clear hs1
  obtain ⟨w2, hw2⟩ : ∃ w2, (w1.alloc (.cells #[.int .u8 7, .int .u8 8] 5)).alloc (.cells #[.int .u64 5, .int .i64 3, .int .i64 2, .int .i64 1, .int .i64 1000, .int .i64 2, .int .i64 6, .int .u64 9, .slice (some ⟨s1, 0, none⟩) 2 2] 67) = w2 := ⟨_, rfl⟩
  rw [hw2] at P2 N2 C2 Y2 ⊢
  clear hw2
  refine (enc_yes c g 5 3 2 1 1000 2 6 9 (some ⟨s1, 0, none⟩) 2 [7, 8] w2 C2.out may_small (by decide) (by decide) P2.out rfl (by omega)).mono ?_
  rintro e w3 ⟨q, rfl, hq, ho, hb3⟩
  have hPL : ([7, 8] : List UInt8).length = 2 := rfl
  have C3 : Hid (IsCo w3 c g) := C2.out.below hb3
  have B3 : Hid (Below w.heap.size w w3) := below_mid Y2.out hb3
  have N3 : Hid (Nine w3 (s1 + 1) 5 3 2 1 1000 2 6 9 (.slice (some ⟨s1, 0, none⟩) 2 2)) := N2.out.below hb3
  have P3 : Hid (Bs w3 (.slice (some ⟨s1, 0, none⟩) 2 2) [7, 8]) := P2.out.below hb3
  have HPF : Hid (parseE (frameB 5 3 2 1 1000 2 6 9 [7, 8]) = 0) := parse_frame 5 3 2 1 1000 2 6 9 [7, 8] (by decide) (by decide) may_small rfl
  obtain ⟨hpv, hpy⟩ := pack_frame 5 3 2 1 1000 2 6 9 [7, 8] (by decide) (by decide) may_small rfl
  have HPV : Hid (∀ q, packV (frameB 5 3 2 1 1000 2 6 9 [7, 8]) q = #[.int .u64 5, .int .i64 3, .int .i64 2, .int .i64 1, .int .i64 1000, .int .i64 2, .int .i64 6, .int .u64 9, .slice (some ⟨q, 0, none⟩) 2 2]) := hpv
  have HPY : Hid (payB (frameB 5 3 2 1 1000 2 6 9 [7, 8]) = [7, 8]) := hpy
  have F3 : Hid (Bs w3 (.slice (some ⟨q, 0, none⟩) 44 44) (frameB 5 3 2 1 1000 2 6 9 [7, 8])) := by
    have h := ho.bs (by rw [frameB_length]; simp)
    rw [frameB_length] at h
    exact h
  clear ho hq hb3 N2 P2 Y2 C2 hpv hpy hPL
  generalize frameB 5 3 2 1 1000 2 6 9 [7, 8] = l at *
  go_wp2_with fail
  refine (parse_ok c g _ l w3 C3.out F3.out HPF.out).mono ?_
  rintro e w4 ⟨q4, rfl, hq4, ho4, hb4⟩
  rw [HPV.out]
  have hlt := N3.out.lt
  have B4 : Hid (Below w.heap.size w w4) := below_mid B3.out hb4
  have N4 : Hid (Nine w4 (s1 + 1) 5 3 2 1 1000 2 6 9 (.slice (some ⟨s1, 0, none⟩) 2 2)) := N3.out.below hb4
  have P4 : Hid (Bs w4 (.slice (some ⟨s1, 0, none⟩) 2 2) [7, 8]) := P3.out.below hb4
  have Q4 : Hid (Bs w4 (.slice (some ⟨q4, 0, none⟩) 2 2) [7, 8]) := by
    rw [HPY.out] at ho4
    exact ho4.bs (by simp)
  clear ho4 hq4 hb4 B3 N3 P3 F3 C3 HPF HPV HPY hlt
  have hlt := N4.out.lt
  obtain ⟨⟨c0, c1, c2, c3, c4, c5, c6, c7⟩, c8⟩ := N4.out
  go_wp2_with fail
  refine (same6_yes 5 3 2 1 1000 2 6 9 (some ⟨s1, 0, none⟩) (some ⟨q4, 0, none⟩) 2 2 2 2 [7, 8] _ (P4.out.below (below_alloc _ _)) (Q4.out.below (below_alloc _ _))).mono ?_
  rintro e w5 ⟨rfl, hb5⟩
  have B5 : Hid (Below w.heap.size w w5) := below_mid B4.out (below_mid (below_alloc _ _) hb5)
  clear hb5 B4 N4 P4 Q4 c0 c1 c2 c3 c4 c5 c6 c7 c8 hlt
  go_wp2
  go_ret
  exact ⟨rfl, B5.out⟩

end Go.Proofs.Ytijonjiioeahhaa
