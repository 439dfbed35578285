/-
  The walk of the statement CrcSums.
-/
import Derived.Test.YtjbgfgpclkabjaaRefC
import Derived.Test.YtjbgfgpclkabjaaLinear
namespace Go.Proofs.Ytjbgfgpclkabjaa
open Go.RowKit
set_option linter.unusedVariables false

theorem max2 (N : Nat) (W : World) : (Builtin.max_ #[3, 3] 3 #[.int .i64 N, .int .i64 0]).run Try.prog W = .ok (.int .i64 N) W := by
  simp only [Builtin.max_, List.foldlM, Builtin.max2, Sem.run_pure, pure_bind]
  congr 2

/-- What each operation of the long expression answers. -/
def Good8 (T A X D : Value) (L sm : Nat) (l s : List UInt8) : Nat → Value → World → Prop
  | 0, v, _ => v = T
  | 1, v, _ => v = A
  | 2, v, W => OneIn v A W
  | 3, v, _ => v = .int .u32 sm
  | 4, v, _ => v = A
  | 5, v, _ => v = .int .u32 sm
  | 6, v, _ => v = .bool false
  | 7, v, _ => v = .bool false
  | 8, v, _ => v = D
  | 9, v, _ => v = .string (str s)
  | 10, v, _ => v = A
  | 11, v, W => ∃ a c, v = .slice a L c ∧ Bs W (.slice a L c) s
  | 12, v, _ => v = .string (str s)
  | 13, v, _ => v = .bool false
  | 14, v, _ => v = .bool false
  | 15, v, _ => v = .bool false
  | 16, v, _ => v = X
  | 17, v, _ => v = .string (str l)
  | 18, v, _ => v = A
  | 19, v, _ => v = .string (str l)
  | 20, v, _ => v = .bool false
  | 21, v, _ => v = .bool false
  | 22, v, _ => v = .bool false
  | 23, v, _ => v = T
  | 24, v, _ => v = D
  | 25, v, _ => v = .bool true
  | 26, v, _ => v = .bool false
  | 27, v, _ => v = .bool false
  | _, _, _ => True

theorem Good8.below {T A X D : Value} {L sm : Nat} {l s : List UInt8} {W W' : World} (hb : Below W.heap.size W W') (j : Nat) (u : Value) (h : Good8 T A X D L sm l s j u W) : Good8 T A X D L sm l s j u W' := by
  unfold Good8 at h ⊢
  split <;> first | exact h | exact OneIn.below h hb | trivial | (obtain ⟨a, c, h1, h2⟩ := h; exact ⟨a, c, h1, h2.below hb⟩)

/-- What each operation of the last long expression answers. -/
def Good10 (A B : Value) (M N : Nat) (l r : List UInt8) : Nat → Value → World → Prop
  | 0, v, _ => v = A
  | 1, v, _ => v = .int .i64 M
  | 2, v, _ => v = .bool true
  | 3, v, _ => v = .bool true
  | 4, v, _ => v = A
  | 5, v, _ => v = A
  | 6, v, _ => v = .int .i64 M
  | 7, v, _ => v = .int .i64 N
  | 8, v, _ => v = .int .i64 N
  | 9, v, _ => v = B
  | 10, v, W => ∃ a c, v = .slice a M c ∧ Bs W (.slice a M c) r
  | 11, v, _ => v = .string (str r)
  | 12, v, _ => v = A
  | 13, v, _ => v = .string (str l)
  | 14, v, _ => v = .bool (r == l)
  | 15, v, _ => v = .bool (r == l)
  | 16, v, _ => v = .bool (r == l)
  | _, _, _ => True

theorem Good10.below {A B : Value} {M N : Nat} {l r : List UInt8} {W W' : World} (hb : Below W.heap.size W W') (j : Nat) (u : Value) (h : Good10 A B M N l r j u W) : Good10 A B M N l r j u W' := by
  unfold Good10 at h ⊢
  split <;> first | exact h | trivial | (obtain ⟨a, c, h1, h2⟩ := h; exact ⟨a, c, h1, h2.below hb⟩)

/-- The same, where the bytes are too few. -/
def Short10 (A : Value) (M : Nat) : Nat → Value → World → Prop
  | 0, v, _ => v = A
  | 1, v, _ => v = .int .i64 M
  | 2, v, _ => v = .bool false
  | 3, v, _ => v = .bool false
  | 15, v, _ => v = .bool false
  | 16, v, _ => v = .bool false
  | _, _, _ => True

set_option maxRecDepth 100000 in
set_option maxHeartbeats 4000000 in
theorem sums_walk (v0 : Value) (l : List UInt8) (w : World) (h0 : Bs w v0 l) :
    Calls Try.prog 3 #[v0] w fun e w' => e = .returned (.bool true) ∧ Below w.heap.size w w' := by
  obtain ⟨i0, hi, hz0, hz1, hz2⟩ := info_parts Try.info5
  have B0 := h0
  obtain ⟨hll, a0, c0, rfl, hc0, hm0, _, hcc⟩ := h0
  clear hll hcc
  unfold maxLen at hm0
  have H0 : Hid (Bs w (.slice a0 l.length c0) l) := B0
  clear B0
  by_cases hA : 500 < l.length
  · go_enter Try.func3, Try.ntmps3
    go_wp2_with fail
    refine (speaks_any w).mono ?_
    rintro e w1 ⟨rfl, hb1⟩
    have X1 : Hid (Below w.heap.size w w1) := hb1
    clear hb1
    go_wp2
    go_ret
    exact ⟨rfl, X1.out⟩
  have hA' : l.length ≤ 500 := by omega
  clear hA
  go_enter Try.func3, Try.ntmps3
  go_wp2_with fail
  refine (speaks_any w).mono ?_
  rintro e w1 ⟨rfl, hb1⟩
  have X1 : Hid (Below w.heap.size w w1) := hb1
  clear hb1
  go_wp2_with fail
  refine (new_c _).mono ?_
  rintro e w2 ⟨rfl, hT, hb2, hs2⟩
  have X2 : Hid (Below w.heap.size w w2) := X1.out.trans (hb2.mono X1.out.size)
  clear hs2
  generalize w1.heap.size = g at *
  have T2 : Hid (IsTab w2 g) := hT
  clear hb2 hT X1
  have hO1 : (w2.alloc (.cells #[] 5)).ownsRow w2.heap.size 5 1 (.slice (some ⟨w2.heap.size, 0, none⟩) 0 0) 0 [] := World.ownsRow_lit w2 #[] 0 (Nat.le_refl _) (by simp [maxLen]) rfl
  have HB1 : Hid (Bs (w2.alloc (.cells #[] 5)) (.slice a0 l.length c0) l) := H0.out.below (X2.out.alloc X2.out.size _)
  go_wp2_with (at_builtin; (refine wpList_app _ rfl (.tmp 13) (.tmp 14) 22 rfl w2.heap.size 5 i0 (.int .u8 0) 1 1 Try.underlying22 hi hz0 hz1 hz2 rfl (by decide) (.slice (some ⟨w2.heap.size, 0, none⟩) 0 0) 0 [] rfl hO1 (.slice a0 l.length c0) l.length (l.map bv) rfl HB1.out (bv_oneCell _) (by unfold maxLen; omega) (by omega) (by simp) ?_); intro a3 c3 w3 ho3 hg3 hat3 hne3 hnc3 hcm3; simp only [Nat.zero_add, List.nil_append] at ho3 hnc3; have X3 : Hid (Below w2.heap.size w2 w3) := ((Below.refl _ _).alloc (Nat.le_refl _) _).grown hg3 (by simp) (fun k hk => (hO1.lt k hk).1); clear hg3 hat3 hne3 hO1 HB1; have B3 : Hid (Bs w3 (.slice a3 l.length c3) l) := owned_sl ho3; clear ho3)
  unfold maxLen at hcm3
  have T3 : Hid (IsTab w3 g) := T2.out.below X3.out
  have Y3 : Hid (Below w.heap.size w w3) := X2.out.trans (X3.out.mono X2.out.size)
  clear T2 X2 X3
  go_wp2_with fail
  refine (seal_any g _ l _ T3.out B3.out (by omega)).mono ?_
  rintro e w5 ⟨rfl, ho5, hb5⟩
  obtain ⟨L, hL⟩ : ∃ L, l.length + 4 = L := ⟨_, rfl⟩
  obtain ⟨p, hp⟩ : ∃ p, w3.heap.size + 1 = p := ⟨_, rfl⟩
  rw [hL, hp] at ho5 ⊢
  have X5 : Hid (Below w.heap.size w w5) := Y3.out.trans (hb5.mono Y3.out.size)
  have T5 : Hid (IsTab w5 g) := T3.out.below hb5
  have BX : Hid (Bs w5 (.slice a3 l.length c3) l) := B3.out.below hb5
  have BA : Hid (Bs w5 (.slice a0 l.length c0) l) := H0.out.below X5.out
  have BS : Hid (Bs w5 (.slice (some ⟨p, 0, none⟩) L L) (l ++ be4 (MathA.sum l))) := by
    have h := owned_sl ho5
    unfold Hid Bs
    rw [List.length_append, show (be4 (MathA.sum l)).length = 4 from rfl, hL]
    exact h
  have HL : Hid (l.length + 4 = L) := hL
  have hL504 : L ≤ 504 := by omega
  clear ho5 hb5 hp T3 B3 Y3 hL H0
  have HR : Hid (rightB (l ++ be4 (MathA.sum l)) = true) := MathA.right_sealed l
  obtain ⟨s, hs⟩ : ∃ s, l ++ be4 (MathA.sum l) = s := ⟨_, rfl⟩
  rw [hs] at BS HR
  have Hs : Hid (l ++ be4 (MathA.sum l) = s) := hs
  clear hs
  obtain ⟨sm, hsm⟩ : ∃ sm, MathA.sum l = sm := ⟨_, rfl⟩
  have FA : Hid (∀ W p, Below w5.heap.size w5 W → W.cell? ⟨p, 0, none⟩ = some (.slice a0 l.length c0) → Calls Try.prog 17 #[.pointer (some ⟨g, 0, none⟩), .slice (some ⟨p, 0, none⟩) 1 1] W fun e w' => e = .returned (.int .u32 sm) ∧ w' = W) := by
    rw [← hsm]
    exact fun W p hW hc => sum_at g p _ _ W (T5.out.below hW) hc (BA.out.below hW)
  have FR : Hid (∀ W, Below w5.heap.size w5 W → Calls Try.prog 18 #[.slice a0 l.length c0] W fun e w' => e = .returned (.int .u32 sm) ∧ w' = W) := by
    rw [← hsm]
    exact fun W hW => rsum_any _ l W (BA.out.below hW) (by omega)
  have FZS : Hid (∀ W, Below w5.heap.size w5 W → Calls Try.prog 19 #[.slice a0 l.length c0] W fun e w' => ∃ a c, e = .returned (.slice a L c) ∧ Bs w' (.slice a L c) s ∧ Below W.heap.size W w') := by
    intro W hW
    have h := rseal_any _ l W (BA.out.below hW) (by omega)
    rw [HL.out, Hs.out] at h
    exact h
  have FT : Hid (∀ W, Below w5.heap.size w5 W → Calls Try.prog 20 #[.pointer (some ⟨g, 0, none⟩), .slice (some ⟨p, 0, none⟩) L L] W fun e w' => e = .returned (.bool true) ∧ Below W.heap.size W w') := by
    intro W hW
    have h := right_any g _ s W (T5.out.below hW) (BS.out.below hW)
    rw [HR.out] at h
    exact h
  have KA : Hid (∀ W, Below w5.heap.size w5 W → (convert 22 9 (.slice a0 l.length c0)).run Try.prog W = .ok (.string (str l)) W) := fun W hW => conv_str (BA.out.below hW)
  have KX : Hid (∀ W, Below w5.heap.size w5 W → (convert 22 9 (.slice a3 l.length c3)).run Try.prog W = .ok (.string (str l)) W) := fun W hW => conv_str (BX.out.below hW)
  have KS : Hid (∀ W, Below w5.heap.size w5 W → (convert 22 9 (.slice (some ⟨p, 0, none⟩) L L)).run Try.prog W = .ok (.string (str s)) W) := fun W hW => conv_str (BS.out.below hW)
  have hst := str_toList
  clear hsm BX BS HR hi hz0 hz1 hz2
  go_wp2
  refine wp_region_any (by kernel_rfl) ?_
  refine wpAny_inv (fun listed a W => ∃ x : Nat → Value, a = ⟨#[.slice a0 l.length c0, undef, .bool false, .pointer (some ⟨g, 0, none⟩), .slice a3 l.length c3, .slice (some ⟨p, 0, none⟩) L L, undef, .bool true, .bool false, .slice a0 l.length c0, .int .i64 l.length, .bool (decide (500 < (l.length : Int))), .pointer (some ⟨g, 0, none⟩), .slice (some ⟨w2.heap.size, 0, none⟩) 0 0, .slice a0 l.length c0, .slice a3 l.length c3, .pointer (some ⟨g, 0, none⟩), .slice a3 l.length c3, .slice (some ⟨p, 0, none⟩) L L, x 0, x 1, x 2, x 3, x 4, x 5, x 6, x 7, x 8, x 9, x 10, x 11, x 12, x 13, x 14, x 15, x 16, x 17, x 18, x 19, x 20, x 21, x 22, x 23, x 24, x 25, x 26, x 27, undef, undef, undef, undef, undef, undef, undef, undef, undef, undef, undef, undef, undef, undef, undef, undef, undef, undef, undef, undef, undef], []⟩ ∧ Below w5.heap.size w5 W ∧ Listed (Good8 (.pointer (some ⟨g, 0, none⟩)) (.slice a0 l.length c0) (.slice a3 l.length c3) (.slice (some ⟨p, 0, none⟩) L L) L sm l s) listed x W) (by kernel_rfl) ?_ ?_ _ _ _ _ (by kernel_rfl) (of_decide_eq_true (by kernel_rfl)) ⟨fun j => undef, rfl, below0 _, Listed.start _ _ _ _⟩
  · rintro listed a W ⟨x, rfl, hb, hG⟩ i hi hd
    have hi28 : i < 28 := hi
    clear hi
    have hcase : i = 0 ∨ i = 1 ∨ i = 2 ∨ i = 3 ∨ i = 4 ∨ i = 5 ∨ i = 6 ∨ i = 7 ∨ i = 8 ∨ i = 9 ∨ i = 10 ∨ i = 11 ∨ i = 12 ∨ i = 13 ∨ i = 14 ∨ i = 15 ∨ i = 16 ∨ i = 17 ∨ i = 18 ∨ i = 19 ∨ i = 20 ∨ i = 21 ∨ i = 22 ∨ i = 23 ∨ i = 24 ∨ i = 25 ∨ i = 26 ∨ i = 27 := by omega
    rcases hcase with rfl | rfl | rfl | rfl | rfl | rfl | rfl | rfl | rfl | rfl | rfl | rfl | rfl | rfl | rfl | rfl | rfl | rfl | rfl | rfl | rfl | rfl | rfl | rfl | rfl | rfl | rfl | rfl
    · refine wpOp_step rfl (fun K' hK => ?_)
      clear hd hi28
      go_simp
      exact hK _ _ ⟨updV x 0 (.pointer (some ⟨g, 0, none⟩)), by simp [updV], hb, hG.step 0 _ (fun j u h => h) rfl⟩
    · refine wpOp_step rfl (fun K' hK => ?_)
      clear hd hi28
      go_simp
      exact hK _ _ ⟨updV x 1 (.slice a0 l.length c0), by simp [updV], hb, hG.step 1 _ (fun j u h => h) rfl⟩
    · refine wpOp_step rfl (fun K' hK => ?_)
      simp [Region.binds] at hd
      have e1 : x 1 = .slice a0 l.length c0 := hG 1 (by simp [hd])
      clear hd hi28
      go_simp
      exact hK _ _ ⟨updV x 2 (.slice (some ⟨W.heap.size, 0, none⟩) 1 1), by simp [updV, e1], hb.trans ((below_alloc _ _).mono hb.size), hG.step 2 _ (fun j u h => h.below (below_alloc _ _)) ⟨_, rfl, by simp⟩⟩
    · refine wpOp_step rfl (fun K' hK => ?_)
      simp [Region.binds] at hd
      have e0 : x 0 = .pointer (some ⟨g, 0, none⟩) := hG 0 (by simp [hd])
      obtain ⟨p2, e2, m2⟩ : OneIn (x 2) (.slice a0 l.length c0) W := hG 2 (by simp [hd])
      clear hd hi28
      go_simp
      refine (FA.out _ _ hb m2).mono ?_
      rintro e w' ⟨rfl, rfl⟩
      go_wp2_with fail
      exact ⟨updV x 3 (.int .u32 sm), by simp [updV, e0, e2], hb, hG.step 3 _ (fun j u h => h) rfl⟩
    · refine wpOp_step rfl (fun K' hK => ?_)
      clear hd hi28
      go_simp
      exact hK _ _ ⟨updV x 4 (.slice a0 l.length c0), by simp [updV], hb, hG.step 4 _ (fun j u h => h) rfl⟩
    · refine wpOp_step rfl (fun K' hK => ?_)
      simp [Region.binds] at hd
      have e4 : x 4 = .slice a0 l.length c0 := hG 4 (by simp [hd])
      clear hd hi28
      go_simp
      refine (FR.out _ hb).mono ?_
      rintro e w' ⟨rfl, rfl⟩
      go_wp2_with fail
      exact ⟨updV x 5 (.int .u32 sm), by simp [updV, e4], hb, hG.step 5 _ (fun j u h => h) rfl⟩
    · refine wpOp_step rfl (fun K' hK => ?_)
      simp [Region.binds] at hd
      have e3 : x 3 = .int .u32 sm := hG 3 (by simp [hd])
      have e5 : x 5 = .int .u32 sm := hG 5 (by simp [hd])
      clear hd hi28
      go_simp
      exact hK _ _ ⟨updV x 6 (.bool false), by simp [updV, e3, e5], hb, hG.step 6 _ (fun j u h => h) rfl⟩
    · refine wpOp_step rfl (fun K' hK => ?_)
      simp [Region.binds] at hd
      have e6 : x 6 = .bool false := hG 6 (by simp [hd])
      clear hd hi28
      go_simp
      exact hK _ _ ⟨updV x 7 (.bool false), by simp [updV, e6], hb, hG.step 7 _ (fun j u h => h) rfl⟩
    · refine wpOp_step rfl (fun K' hK => ?_)
      simp [Region.binds] at hd
      have e7 : x 7 = .bool false := hG 7 (by simp [hd])
      clear hd hi28
      go_simp
      exact hK _ _ ⟨updV x 8 (.slice (some ⟨p, 0, none⟩) L L), by simp [updV, e7], hb, hG.step 8 _ (fun j u h => h) rfl⟩
    · refine wpOp_step rfl (fun K' hK => ?_)
      simp [Region.binds] at hd
      have e8 : x 8 = .slice (some ⟨p, 0, none⟩) L L := hG 8 (by simp [hd])
      have e7 : x 7 = .bool false := hG 7 (by simp [hd])
      have kr := KS.out W hb
      clear hd hi28
      go_simp
      exact hK _ _ ⟨updV x 9 (.string (str s)), by simp [updV, e8, e7], hb, hG.step 9 _ (fun j u h => h) rfl⟩
    · refine wpOp_step rfl (fun K' hK => ?_)
      simp [Region.binds] at hd
      have e7 : x 7 = .bool false := hG 7 (by simp [hd])
      clear hd hi28
      go_simp
      exact hK _ _ ⟨updV x 10 (.slice a0 l.length c0), by simp [updV, e7], hb, hG.step 10 _ (fun j u h => h) rfl⟩
    · refine wpOp_step rfl (fun K' hK => ?_)
      simp [Region.binds] at hd
      have e10 : x 10 = .slice a0 l.length c0 := hG 10 (by simp [hd])
      have e7 : x 7 = .bool false := hG 7 (by simp [hd])
      clear hd hi28
      go_simp
      refine (FZS.out _ hb).mono ?_
      rintro e w' ⟨ra, rc, rfl, hbs, hb'⟩
      go_wp2_with fail
      exact ⟨updV x 11 (.slice ra L rc), by simp [updV, e10, e7], hb.trans (hb'.mono hb.size), hG.step 11 _ (fun j u h => h.below hb') ⟨ra, rc, rfl, hbs⟩⟩
    · refine wpOp_step rfl (fun K' hK => ?_)
      simp [Region.binds] at hd
      obtain ⟨ra, rc, e11, m11⟩ : ∃ a c, x 11 = .slice a L c ∧ Bs W (.slice a L c) s := hG 11 (by simp [hd])
      have kr := conv_str m11
      have e7 : x 7 = .bool false := hG 7 (by simp [hd])
      clear hd hi28
      go_simp
      exact hK _ _ ⟨updV x 12 (.string (str s)), by simp [updV, e11, e7], hb, hG.step 12 _ (fun j u h => h) rfl⟩
    · refine wpOp_step rfl (fun K' hK => ?_)
      simp [Region.binds] at hd
      have e9 : x 9 = .string (str s) := hG 9 (by simp [hd])
      have e12 : x 12 = .string (str s) := hG 12 (by simp [hd])
      have e7 : x 7 = .bool false := hG 7 (by simp [hd])
      clear hd hi28
      go_simp
      exact hK _ _ ⟨updV x 13 (.bool false), by simp [updV, e9, e12, e7], hb, hG.step 13 _ (fun j u h => h) rfl⟩
    · refine wpOp_step rfl (fun K' hK => ?_)
      simp [Region.binds] at hd
      have e7 : x 7 = .bool false := hG 7 (by simp [hd])
      have e13 : x 13 = .bool false := hG 13 (by simp [hd])
      clear hd hi28
      go_simp
      exact hK _ _ ⟨updV x 14 (.bool false), by simp [updV, e7, e13], hb, hG.step 14 _ (fun j u h => h) rfl⟩
    · refine wpOp_step rfl (fun K' hK => ?_)
      simp [Region.binds] at hd
      have e14 : x 14 = .bool false := hG 14 (by simp [hd])
      clear hd hi28
      go_simp
      exact hK _ _ ⟨updV x 15 (.bool false), by simp [updV, e14], hb, hG.step 15 _ (fun j u h => h) rfl⟩
    · refine wpOp_step rfl (fun K' hK => ?_)
      simp [Region.binds] at hd
      have e15 : x 15 = .bool false := hG 15 (by simp [hd])
      clear hd hi28
      go_simp
      exact hK _ _ ⟨updV x 16 (.slice a3 l.length c3), by simp [updV, e15], hb, hG.step 16 _ (fun j u h => h) rfl⟩
    · refine wpOp_step rfl (fun K' hK => ?_)
      simp [Region.binds] at hd
      have e16 : x 16 = .slice a3 l.length c3 := hG 16 (by simp [hd])
      have e15 : x 15 = .bool false := hG 15 (by simp [hd])
      have kr := KX.out W hb
      clear hd hi28
      go_simp
      exact hK _ _ ⟨updV x 17 (.string (str l)), by simp [updV, e16, e15], hb, hG.step 17 _ (fun j u h => h) rfl⟩
    · refine wpOp_step rfl (fun K' hK => ?_)
      simp [Region.binds] at hd
      have e15 : x 15 = .bool false := hG 15 (by simp [hd])
      clear hd hi28
      go_simp
      exact hK _ _ ⟨updV x 18 (.slice a0 l.length c0), by simp [updV, e15], hb, hG.step 18 _ (fun j u h => h) rfl⟩
    · refine wpOp_step rfl (fun K' hK => ?_)
      simp [Region.binds] at hd
      have e18 : x 18 = .slice a0 l.length c0 := hG 18 (by simp [hd])
      have e15 : x 15 = .bool false := hG 15 (by simp [hd])
      have kr := KA.out W hb
      clear hd hi28
      go_simp
      exact hK _ _ ⟨updV x 19 (.string (str l)), by simp [updV, e18, e15], hb, hG.step 19 _ (fun j u h => h) rfl⟩
    · refine wpOp_step rfl (fun K' hK => ?_)
      simp [Region.binds] at hd
      have e17 : x 17 = .string (str l) := hG 17 (by simp [hd])
      have e19 : x 19 = .string (str l) := hG 19 (by simp [hd])
      have e15 : x 15 = .bool false := hG 15 (by simp [hd])
      clear hd hi28
      go_simp
      exact hK _ _ ⟨updV x 20 (.bool false), by simp [updV, e17, e19, e15], hb, hG.step 20 _ (fun j u h => h) rfl⟩
    · refine wpOp_step rfl (fun K' hK => ?_)
      simp [Region.binds] at hd
      have e15 : x 15 = .bool false := hG 15 (by simp [hd])
      have e20 : x 20 = .bool false := hG 20 (by simp [hd])
      clear hd hi28
      go_simp
      exact hK _ _ ⟨updV x 21 (.bool false), by simp [updV, e15, e20], hb, hG.step 21 _ (fun j u h => h) rfl⟩
    · refine wpOp_step rfl (fun K' hK => ?_)
      simp [Region.binds] at hd
      have e21 : x 21 = .bool false := hG 21 (by simp [hd])
      clear hd hi28
      go_simp
      exact hK _ _ ⟨updV x 22 (.bool false), by simp [updV, e21], hb, hG.step 22 _ (fun j u h => h) rfl⟩
    · refine wpOp_step rfl (fun K' hK => ?_)
      simp [Region.binds] at hd
      have e22 : x 22 = .bool false := hG 22 (by simp [hd])
      clear hd hi28
      go_simp
      exact hK _ _ ⟨updV x 23 (.pointer (some ⟨g, 0, none⟩)), by simp [updV, e22], hb, hG.step 23 _ (fun j u h => h) rfl⟩
    · refine wpOp_step rfl (fun K' hK => ?_)
      simp [Region.binds] at hd
      have e22 : x 22 = .bool false := hG 22 (by simp [hd])
      clear hd hi28
      go_simp
      exact hK _ _ ⟨updV x 24 (.slice (some ⟨p, 0, none⟩) L L), by simp [updV, e22], hb, hG.step 24 _ (fun j u h => h) rfl⟩
    · refine wpOp_step rfl (fun K' hK => ?_)
      simp [Region.binds] at hd
      have e23 : x 23 = .pointer (some ⟨g, 0, none⟩) := hG 23 (by simp [hd])
      have e24 : x 24 = .slice (some ⟨p, 0, none⟩) L L := hG 24 (by simp [hd])
      have e22 : x 22 = .bool false := hG 22 (by simp [hd])
      clear hd hi28
      go_simp
      refine (FT.out _ hb).mono ?_
      rintro e w' ⟨rfl, hb'⟩
      go_wp2_with fail
      exact ⟨updV x 25 (.bool true), by simp [updV, e23, e24, e22], hb.trans (hb'.mono hb.size), hG.step 25 _ (fun j u h => h.below hb') rfl⟩
    · refine wpOp_step rfl (fun K' hK => ?_)
      simp [Region.binds] at hd
      have e25 : x 25 = .bool true := hG 25 (by simp [hd])
      have e22 : x 22 = .bool false := hG 22 (by simp [hd])
      clear hd hi28
      go_simp
      exact hK _ _ ⟨updV x 26 (.bool false), by simp [updV, e25, e22], hb, hG.step 26 _ (fun j u h => h) rfl⟩
    · refine wpOp_step rfl (fun K' hK => ?_)
      simp [Region.binds] at hd
      have e22 : x 22 = .bool false := hG 22 (by simp [hd])
      have e26 : x 26 = .bool false := hG 26 (by simp [hd])
      clear hd hi28
      go_simp
      exact hK _ _ ⟨updV x 27 (.bool false), by simp [updV, e22, e26], hb, hG.step 27 _ (fun j u h => h) rfl⟩
  · rintro listed a W ⟨x, rfl, hb, hG⟩ hall
    have e27 : x 27 = .bool false := hG 27 (hall 27 (by decide))
    have XW : Hid (Below w5.heap.size w5 W) := hb
    clear hall hG hb
    rw [e27]
    clear e27
    have BW : Hid (Bs W (.slice a0 l.length c0) l) := BA.out.below XW.out
    have TW : Hid (IsTab W g) := T5.out.below XW.out
    have XZ : Hid (Below w.heap.size w W) := X5.out.trans (XW.out.mono X5.out.size)
    clear BA T5 XW X5 FA FR FZS FT KA KX KS
    by_cases h4 : 4 ≤ l.length
    · have h4I : (4 : Int) ≤ (l.length : Int) := by omega
      obtain ⟨N, hN⟩ : ∃ N, l.length - 4 = N := ⟨_, rfl⟩
      have hNl : N + 4 = l.length := by omega
      have hw4 : IntKind.i64.wrap ((l.length : Int) - 4) = (N : Int) := by simp [IntKind.wrap, IntKind.bits, IntKind.signed]; omega
      have hmax := fun V => max2 N V
      have hsl := fun V => slice_to V a0 l.length c0 N (by omega)
      obtain ⟨r, hr⟩ : ∃ r, l.take N ++ be4 (MathA.sum (l.take N)) = r := ⟨_, rfl⟩
      have hv : (rightB l == (r == l)) = true := by
        have h := right_spec l h4
        rw [hN, hr] at h
        rw [h]
        simp
      have FS2 : Hid (∀ V, Below W.heap.size W V → Calls Try.prog 19 #[.slice a0 N c0] V fun e w' => ∃ a c, e = .returned (.slice a l.length c) ∧ Bs w' (.slice a l.length c) r ∧ Below V.heap.size V w') := by
        intro V hV
        have hB := BW.out.below hV
        have h := rseal_any _ (l.take N) V (hB.take (by omega)) (by simp; omega)
        rw [show (l.take N).length + 4 = l.length by simp; omega, hr] at h
        exact h
      have KA : Hid (∀ V, Below W.heap.size W V → (convert 22 9 (.slice a0 l.length c0)).run Try.prog V = .ok (.string (str l)) V) := fun V hV => conv_str (BW.out.below hV)
      clear hN hNl hr h4
      go_wp2
      refine wp_region_any (by kernel_rfl) ?_
      refine wpAny_inv (fun listed a V => ∃ y : Nat → Value, a = ⟨#[.slice a0 l.length c0, undef, .bool false, .pointer (some ⟨g, 0, none⟩), .slice a3 l.length c3, .slice (some ⟨p, 0, none⟩) L L, y 16, .bool true, .bool false, .slice a0 l.length c0, .int .i64 l.length, .bool (decide (500 < (l.length : Int))), .pointer (some ⟨g, 0, none⟩), .slice (some ⟨w2.heap.size, 0, none⟩) 0 0, .slice a0 l.length c0, .slice a3 l.length c3, .pointer (some ⟨g, 0, none⟩), .slice a3 l.length c3, .slice (some ⟨p, 0, none⟩) L L, x 0, x 1, x 2, x 3, x 4, x 5, x 6, x 7, x 8, x 9, x 10, x 11, x 12, x 13, x 14, x 15, x 16, x 17, x 18, x 19, x 20, x 21, x 22, x 23, x 24, x 25, x 26, .bool false, y 0, y 1, y 2, y 3, y 4, y 5, y 6, y 7, y 8, y 9, y 10, y 11, y 12, y 13, y 14, y 15, undef, undef, undef, undef, undef], []⟩ ∧ Below W.heap.size W V ∧ Listed (Good10 (.slice a0 l.length c0) (.slice a0 N c0) l.length N l r) listed y V) (by kernel_rfl) ?_ ?_ _ _ _ _ (by kernel_rfl) (of_decide_eq_true (by kernel_rfl)) ⟨fun j => undef, rfl, below0 _, Listed.start _ _ _ _⟩
      · rintro listed a V ⟨y, rfl, hb, hG⟩ i hi hd
        have hi17 : i < 17 := hi
        clear hi
        have hcase : i = 0 ∨ i = 1 ∨ i = 2 ∨ i = 3 ∨ i = 4 ∨ i = 5 ∨ i = 6 ∨ i = 7 ∨ i = 8 ∨ i = 9 ∨ i = 10 ∨ i = 11 ∨ i = 12 ∨ i = 13 ∨ i = 14 ∨ i = 15 ∨ i = 16 := by omega
        rcases hcase with rfl | rfl | rfl | rfl | rfl | rfl | rfl | rfl | rfl | rfl | rfl | rfl | rfl | rfl | rfl | rfl | rfl
        · refine wpOp_step rfl (fun K' hK => ?_)
          clear hd hi17
          go_simp
          exact hK _ _ ⟨updV y 0 (.slice a0 l.length c0), by simp [updV], hb, hG.step 0 _ (fun j u h => h) rfl⟩
        · refine wpOp_step rfl (fun K' hK => ?_)
          simp [Region.binds] at hd
          have e0 : y 0 = .slice a0 l.length c0 := hG 0 (by simp [hd])
          clear hd hi17
          go_simp
          exact hK _ _ ⟨updV y 1 (.int .i64 l.length), by simp [updV, e0], hb, hG.step 1 _ (fun j u h => h) rfl⟩
        · refine wpOp_step rfl (fun K' hK => ?_)
          simp [Region.binds] at hd
          have e1 : y 1 = .int .i64 l.length := hG 1 (by simp [hd])
          clear hd hi17
          go_simp
          exact hK _ _ ⟨updV y 2 (.bool true), by simp [updV, e1], hb, hG.step 2 _ (fun j u h => h) rfl⟩
        · refine wpOp_step rfl (fun K' hK => ?_)
          simp [Region.binds] at hd
          have e2 : y 2 = .bool true := hG 2 (by simp [hd])
          clear hd hi17
          go_simp
          exact hK _ _ ⟨updV y 3 (.bool true), by simp [updV, e2], hb, hG.step 3 _ (fun j u h => h) rfl⟩
        · refine wpOp_step rfl (fun K' hK => ?_)
          simp [Region.binds] at hd
          have e3 : y 3 = .bool true := hG 3 (by simp [hd])
          clear hd hi17
          go_simp
          exact hK _ _ ⟨updV y 4 (.slice a0 l.length c0), by simp [updV, e3], hb, hG.step 4 _ (fun j u h => h) rfl⟩
        · refine wpOp_step rfl (fun K' hK => ?_)
          simp [Region.binds] at hd
          have e3 : y 3 = .bool true := hG 3 (by simp [hd])
          clear hd hi17
          go_simp
          exact hK _ _ ⟨updV y 5 (.slice a0 l.length c0), by simp [updV, e3], hb, hG.step 5 _ (fun j u h => h) rfl⟩
        · refine wpOp_step rfl (fun K' hK => ?_)
          simp [Region.binds] at hd
          have e5 : y 5 = .slice a0 l.length c0 := hG 5 (by simp [hd])
          have e3 : y 3 = .bool true := hG 3 (by simp [hd])
          clear hd hi17
          go_simp
          exact hK _ _ ⟨updV y 6 (.int .i64 l.length), by simp [updV, e5, e3], hb, hG.step 6 _ (fun j u h => h) rfl⟩
        · refine wpOp_step rfl (fun K' hK => ?_)
          simp [Region.binds] at hd
          have e6 : y 6 = .int .i64 l.length := hG 6 (by simp [hd])
          have e3 : y 3 = .bool true := hG 3 (by simp [hd])
          clear hd hi17
          go_simp
          exact hK _ _ ⟨updV y 7 (.int .i64 N), by simp [updV, e6, e3], hb, hG.step 7 _ (fun j u h => h) rfl⟩
        · refine wpOp_step rfl (fun K' hK => ?_)
          simp [Region.binds] at hd
          have e7 : y 7 = .int .i64 N := hG 7 (by simp [hd])
          have e3 : y 3 = .bool true := hG 3 (by simp [hd])
          clear hd hi17
          go_simp
          exact hK _ _ ⟨updV y 8 (.int .i64 N), by simp [updV, e7, e3], hb, hG.step 8 _ (fun j u h => h) rfl⟩
        · refine wpOp_step rfl (fun K' hK => ?_)
          simp [Region.binds] at hd
          have e4 : y 4 = .slice a0 l.length c0 := hG 4 (by simp [hd])
          have e8 : y 8 = .int .i64 N := hG 8 (by simp [hd])
          have e3 : y 3 = .bool true := hG 3 (by simp [hd])
          clear hd hi17
          go_simp
          exact hK _ _ ⟨updV y 9 (.slice a0 N c0), by simp [updV, e4, e8, e3], hb, hG.step 9 _ (fun j u h => h) rfl⟩
        · refine wpOp_step rfl (fun K' hK => ?_)
          simp [Region.binds] at hd
          have e9 : y 9 = .slice a0 N c0 := hG 9 (by simp [hd])
          have e3 : y 3 = .bool true := hG 3 (by simp [hd])
          clear hd hi17
          go_simp
          refine (FS2.out _ hb).mono ?_
          rintro e w' ⟨ra, rc, rfl, hbs, hb'⟩
          go_wp2_with fail
          exact ⟨updV y 10 (.slice ra l.length rc), by simp [updV, e9, e3], hb.trans (hb'.mono hb.size), hG.step 10 _ (fun j u h => h.below hb') ⟨ra, rc, rfl, hbs⟩⟩
        · refine wpOp_step rfl (fun K' hK => ?_)
          simp [Region.binds] at hd
          obtain ⟨ra, rc, e10, m10⟩ : ∃ a c, y 10 = .slice a l.length c ∧ Bs V (.slice a l.length c) r := hG 10 (by simp [hd])
          have kr := conv_str m10
          have e3 : y 3 = .bool true := hG 3 (by simp [hd])
          clear hd hi17
          go_simp
          exact hK _ _ ⟨updV y 11 (.string (str r)), by simp [updV, e10, e3], hb, hG.step 11 _ (fun j u h => h) rfl⟩
        · refine wpOp_step rfl (fun K' hK => ?_)
          simp [Region.binds] at hd
          have e3 : y 3 = .bool true := hG 3 (by simp [hd])
          clear hd hi17
          go_simp
          exact hK _ _ ⟨updV y 12 (.slice a0 l.length c0), by simp [updV, e3], hb, hG.step 12 _ (fun j u h => h) rfl⟩
        · refine wpOp_step rfl (fun K' hK => ?_)
          simp [Region.binds] at hd
          have e12 : y 12 = .slice a0 l.length c0 := hG 12 (by simp [hd])
          have e3 : y 3 = .bool true := hG 3 (by simp [hd])
          have kr := KA.out V hb
          clear hd hi17
          go_simp
          exact hK _ _ ⟨updV y 13 (.string (str l)), by simp [updV, e12, e3], hb, hG.step 13 _ (fun j u h => h) rfl⟩
        · refine wpOp_step rfl (fun K' hK => ?_)
          simp [Region.binds] at hd
          have e11 : y 11 = .string (str r) := hG 11 (by simp [hd])
          have e13 : y 13 = .string (str l) := hG 13 (by simp [hd])
          have e3 : y 3 = .bool true := hG 3 (by simp [hd])
          clear hd hi17
          go_simp
          exact hK _ _ ⟨updV y 14 (.bool (r == l)), by simp [updV, e11, e13, e3], hb, hG.step 14 _ (fun j u h => h) rfl⟩
        · refine wpOp_step rfl (fun K' hK => ?_)
          simp [Region.binds] at hd
          have e3 : y 3 = .bool true := hG 3 (by simp [hd])
          have e14 : y 14 = .bool (r == l) := hG 14 (by simp [hd])
          clear hd hi17
          go_simp
          exact hK _ _ ⟨updV y 15 (.bool (r == l)), by simp [updV, e3, e14], hb, hG.step 15 _ (fun j u h => h) rfl⟩
        · refine wpOp_step rfl (fun K' hK => ?_)
          simp [Region.binds] at hd
          have e15 : y 15 = .bool (r == l) := hG 15 (by simp [hd])
          clear hd hi17
          go_simp
          exact hK _ _ ⟨updV y 16 (.bool (r == l)), by simp [updV, e15], hb, hG.step 16 _ (fun j u h => h) rfl⟩
      · rintro listed a V ⟨y, rfl, hb, hG⟩ hall
        have e16 : y 16 = .bool (r == l) := hG 16 (hall 16 (by decide))
        have Y6 : Hid (Below W.heap.size W V) := hb
        clear hall hG hb hmax hsl hw4
        rw [e16]
        clear e16
        go_wp2_with fail
        refine (right_any g _ l _ (TW.out.below Y6.out) (BW.out.below Y6.out)).mono ?_
        rintro e w7 ⟨rfl, hb7⟩
        have Y7 : Hid (Below w.heap.size w w7) := (XZ.out.trans (Y6.out.mono XZ.out.size)).trans (hb7.mono (Nat.le_trans XZ.out.size Y6.out.size))
        clear hb7
        go_wp2
        go_ret
        exact ⟨rfl, Y7.out⟩
    · have h4I : ¬ (4 : Int) ≤ (l.length : Int) := by omega
      have hr : rightB l = false := by unfold rightB; simp [h4]
      have Hr : Hid (rightB l = false) := hr
      clear hr h4
      go_wp2
      refine wp_region_any (by kernel_rfl) ?_
      refine wpAny_inv (fun listed a V => ∃ y : Nat → Value, a = ⟨#[.slice a0 l.length c0, undef, .bool false, .pointer (some ⟨g, 0, none⟩), .slice a3 l.length c3, .slice (some ⟨p, 0, none⟩) L L, y 16, .bool true, .bool false, .slice a0 l.length c0, .int .i64 l.length, .bool (decide (500 < (l.length : Int))), .pointer (some ⟨g, 0, none⟩), .slice (some ⟨w2.heap.size, 0, none⟩) 0 0, .slice a0 l.length c0, .slice a3 l.length c3, .pointer (some ⟨g, 0, none⟩), .slice a3 l.length c3, .slice (some ⟨p, 0, none⟩) L L, x 0, x 1, x 2, x 3, x 4, x 5, x 6, x 7, x 8, x 9, x 10, x 11, x 12, x 13, x 14, x 15, x 16, x 17, x 18, x 19, x 20, x 21, x 22, x 23, x 24, x 25, x 26, .bool false, y 0, y 1, y 2, y 3, y 4, y 5, y 6, y 7, y 8, y 9, y 10, y 11, y 12, y 13, y 14, y 15, undef, undef, undef, undef, undef], []⟩ ∧ Below W.heap.size W V ∧ Listed (Short10 (.slice a0 l.length c0) l.length) listed y V) (by kernel_rfl) ?_ ?_ _ _ _ _ (by kernel_rfl) (of_decide_eq_true (by kernel_rfl)) ⟨fun j => undef, rfl, below0 _, Listed.start _ _ _ _⟩
      · rintro listed a V ⟨y, rfl, hb, hG⟩ i hi hd
        have hi17 : i < 17 := hi
        clear hi
        have hcase : i = 0 ∨ i = 1 ∨ i = 2 ∨ i = 3 ∨ i = 4 ∨ i = 5 ∨ i = 6 ∨ i = 7 ∨ i = 8 ∨ i = 9 ∨ i = 10 ∨ i = 11 ∨ i = 12 ∨ i = 13 ∨ i = 14 ∨ i = 15 ∨ i = 16 := by omega
        rcases hcase with rfl | rfl | rfl | rfl | rfl | rfl | rfl | rfl | rfl | rfl | rfl | rfl | rfl | rfl | rfl | rfl | rfl
        · refine wpOp_step rfl (fun K' hK => ?_)
          clear hd hi17
          go_simp
          exact hK _ _ ⟨updV y 0 (.slice a0 l.length c0), by simp [updV], hb, hG.step 0 _ (fun j u h => h) rfl⟩
        · refine wpOp_step rfl (fun K' hK => ?_)
          simp [Region.binds] at hd
          have e0 : y 0 = .slice a0 l.length c0 := hG 0 (by simp [hd])
          clear hd hi17
          go_simp
          exact hK _ _ ⟨updV y 1 (.int .i64 l.length), by simp [updV, e0], hb, hG.step 1 _ (fun j u h => h) rfl⟩
        · refine wpOp_step rfl (fun K' hK => ?_)
          simp [Region.binds] at hd
          have e1 : y 1 = .int .i64 l.length := hG 1 (by simp [hd])
          clear hd hi17
          go_simp
          exact hK _ _ ⟨updV y 2 (.bool false), by simp [updV, e1]; omega, hb, hG.step 2 _ (fun j u h => h) rfl⟩
        · refine wpOp_step rfl (fun K' hK => ?_)
          simp [Region.binds] at hd
          have e2 : y 2 = .bool false := hG 2 (by simp [hd])
          clear hd hi17
          go_simp
          exact hK _ _ ⟨updV y 3 (.bool false), by simp [updV, e2], hb, hG.step 3 _ (fun j u h => h) rfl⟩
        · refine wpOp_step rfl (fun K' hK => ?_)
          simp [Region.binds] at hd
          have e3 : y 3 = .bool false := hG 3 (by simp [hd])
          clear hd hi17
          go_simp
          exact hK _ _ ⟨updV y 4 (undef), by simp [updV, e3], hb, hG.step 4 _ (fun j u h => h) trivial⟩
        · refine wpOp_step rfl (fun K' hK => ?_)
          simp [Region.binds] at hd
          have e3 : y 3 = .bool false := hG 3 (by simp [hd])
          clear hd hi17
          go_simp
          exact hK _ _ ⟨updV y 5 (undef), by simp [updV, e3], hb, hG.step 5 _ (fun j u h => h) trivial⟩
        · refine wpOp_step rfl (fun K' hK => ?_)
          simp [Region.binds] at hd
          have e3 : y 3 = .bool false := hG 3 (by simp [hd])
          clear hd hi17
          go_simp
          exact hK _ _ ⟨updV y 6 (undef), by simp [updV, e3], hb, hG.step 6 _ (fun j u h => h) trivial⟩
        · refine wpOp_step rfl (fun K' hK => ?_)
          simp [Region.binds] at hd
          have e3 : y 3 = .bool false := hG 3 (by simp [hd])
          clear hd hi17
          go_simp
          exact hK _ _ ⟨updV y 7 (undef), by simp [updV, e3], hb, hG.step 7 _ (fun j u h => h) trivial⟩
        · refine wpOp_step rfl (fun K' hK => ?_)
          simp [Region.binds] at hd
          have e3 : y 3 = .bool false := hG 3 (by simp [hd])
          clear hd hi17
          go_simp
          exact hK _ _ ⟨updV y 8 (undef), by simp [updV, e3], hb, hG.step 8 _ (fun j u h => h) trivial⟩
        · refine wpOp_step rfl (fun K' hK => ?_)
          simp [Region.binds] at hd
          have e3 : y 3 = .bool false := hG 3 (by simp [hd])
          clear hd hi17
          go_simp
          exact hK _ _ ⟨updV y 9 (undef), by simp [updV, e3], hb, hG.step 9 _ (fun j u h => h) trivial⟩
        · refine wpOp_step rfl (fun K' hK => ?_)
          simp [Region.binds] at hd
          have e3 : y 3 = .bool false := hG 3 (by simp [hd])
          clear hd hi17
          go_simp
          exact hK _ _ ⟨updV y 10 (undef), by simp [updV, e3], hb, hG.step 10 _ (fun j u h => h) trivial⟩
        · refine wpOp_step rfl (fun K' hK => ?_)
          simp [Region.binds] at hd
          have e3 : y 3 = .bool false := hG 3 (by simp [hd])
          clear hd hi17
          go_simp
          exact hK _ _ ⟨updV y 11 (undef), by simp [updV, e3], hb, hG.step 11 _ (fun j u h => h) trivial⟩
        · refine wpOp_step rfl (fun K' hK => ?_)
          simp [Region.binds] at hd
          have e3 : y 3 = .bool false := hG 3 (by simp [hd])
          clear hd hi17
          go_simp
          exact hK _ _ ⟨updV y 12 (undef), by simp [updV, e3], hb, hG.step 12 _ (fun j u h => h) trivial⟩
        · refine wpOp_step rfl (fun K' hK => ?_)
          simp [Region.binds] at hd
          have e3 : y 3 = .bool false := hG 3 (by simp [hd])
          clear hd hi17
          go_simp
          exact hK _ _ ⟨updV y 13 (undef), by simp [updV, e3], hb, hG.step 13 _ (fun j u h => h) trivial⟩
        · refine wpOp_step rfl (fun K' hK => ?_)
          simp [Region.binds] at hd
          have e3 : y 3 = .bool false := hG 3 (by simp [hd])
          clear hd hi17
          go_simp
          exact hK _ _ ⟨updV y 14 (undef), by simp [updV, e3], hb, hG.step 14 _ (fun j u h => h) trivial⟩
        · refine wpOp_step rfl (fun K' hK => ?_)
          simp [Region.binds] at hd
          have e3 : y 3 = .bool false := hG 3 (by simp [hd])
          clear hd hi17
          go_simp
          exact hK _ _ ⟨updV y 15 (.bool false), by simp [updV, e3], hb, hG.step 15 _ (fun j u h => h) rfl⟩
        · refine wpOp_step rfl (fun K' hK => ?_)
          simp [Region.binds] at hd
          have e15 : y 15 = .bool false := hG 15 (by simp [hd])
          clear hd hi17
          go_simp
          exact hK _ _ ⟨updV y 16 (.bool false), by simp [updV, e15], hb, hG.step 16 _ (fun j u h => h) rfl⟩
      · rintro listed a V ⟨y, rfl, hb, hG⟩ hall
        have e16 : y 16 = .bool false := hG 16 (hall 16 (by decide))
        have Y6 : Hid (Below W.heap.size W V) := hb
        clear hall hG hb
        rw [e16]
        clear e16
        go_wp2_with fail
        refine (right_any g _ l _ (TW.out.below Y6.out) (BW.out.below Y6.out)).mono ?_
        rintro e w7 ⟨rfl, hb7⟩
        have Y7 : Hid (Below w.heap.size w w7) := (XZ.out.trans (Y6.out.mono XZ.out.size)).trans (hb7.mono (Nat.le_trans XZ.out.size Y6.out.size))
        rw [Hr.out]
        clear hb7
        go_wp2
        go_ret
        exact ⟨rfl, Y7.out⟩

end Go.Proofs.Ytjbgfgpclkabjaa
