/-
  emit: the statements' small and speaks.
-/
import Derived.Test.YtehpbnakdadedaaEmC
import Derived.Test.YtehpbnakdadedaaCBlks
namespace Go.Proofs.Ytehpbnakdadedaa
open Go.RowKit
set_option linter.unusedVariables false

def smallP (N B Q E F : Int) (n : Nat) : Prop := May N B Q E F ∧ N ≤ 60 ∧ B ≤ 60 ∧ F ≤ 200 ∧ (n : Int) ≤ N * B

set_option maxRecDepth 100000 in
set_option maxHeartbeats 1000000 in
theorem small14_any (N B Q E F : Int) (ov : Value) (l : List UInt8) (n : Nat) (w : World) (ho : Bs w ov l) (hn : l.length = n) :
    Calls Try.prog 26 #[.agg #[.int .i64 N, .int .i64 B, .int .i64 Q, .int .i64 E, .int .i64 F], ov] w fun e w' => TellsP (smallP N B Q E F n) e ∧ Below w.heap.size w w' := by
  obtain ⟨-, ao, cap, rfl, -, h3, -, -⟩ := ho
  unfold maxLen at h3
  rw [hn]
  clear hn
  have P0 : Hid (Five (w.alloc (.cells #[.int .i64 N, .int .i64 B, .int .i64 Q, .int .i64 E, .int .i64 F] 23)) w.heap.size N B Q E F) := five_new w _ N B Q E F
  by_cases hm : May N B Q E F
  · have CM : Hid (∀ W, Calls Try.prog 15 #[.agg #[.int .i64 N, .int .i64 B, .int .i64 Q, .int .i64 E, .int .i64 F]] W fun e w' => e = .returned (.bool true) ∧ Below W.heap.size W w') := fun W => rmay_yes N B Q E F W hm
    go_enter Try.func26, Try.ntmps26
    go_wp2_with fail
    refine (CM.out _).mono ?_
    rintro e w1 ⟨rfl, hb⟩
    have B1 : Hid (Below w.heap.size w w1) := on_below (below_alloc _ _) hb
    have P1 : Hid (Five w1 w.heap.size N B Q E F) := P0.out.below hb
    clear hb P0 CM
    have HM : Hid (May N B Q E F) := hm
    obtain ⟨c0, c1, c2, c3, c4⟩ := P1.out
    by_cases h1 : N ≤ 60
    · by_cases h2 : B ≤ 60
      · by_cases h4 : F ≤ 200
        · have hr := hm.1
          have hb := hm.2.1
          have hp : N * B ≤ 60 * 60 := Int.mul_le_mul h1 h2 (by omega) (by omega)
          have hp0 : 0 ≤ N * B := Int.mul_nonneg (by omega) (by omega)
          obtain ⟨P, hP⟩ : ∃ P, N * B = P := ⟨_, rfl⟩
          rw [hP] at hp hp0
          have wm : IntKind.i64.wrap (N * B) = P := by rw [hP, IntKind.wrap_i64]; omega
          have R1 : Hid ((n : Int) ≤ P → smallP N B Q E F n) := fun h => ⟨HM.out, h1, h2, h4, by rw [hP]; exact h⟩
          have R2 : Hid (¬ (n : Int) ≤ P → ¬ smallP N B Q E F n) := fun h hs => h (by rw [← hP]; exact hs.2.2.2.2)
          clear hr hb hm hP
          by_cases h5 : (n : Int) ≤ P
          · go_wp2
            go_ret
            exact ⟨tells_yes rfl (R1.out h5), B1.out⟩
          · go_wp2
            go_ret
            exact ⟨tells_no (show Ending.returned (.bool (decide ((n : Int) ≤ P))) = _ by rw [decide_eq_false (by omega)]) (R2.out (by omega)), B1.out⟩
        · have R : Hid (¬ smallP N B Q E F n) := fun h => h4 h.2.2.2.1
          clear hm
          go_wp2
          go_ret
          exact ⟨tells_no rfl R.out, B1.out⟩
      · have R : Hid (¬ smallP N B Q E F n) := fun h => h2 h.2.2.1
        clear hm
        go_wp2
        go_ret
        exact ⟨tells_no rfl R.out, B1.out⟩
    · have R : Hid (¬ smallP N B Q E F n) := fun h => h1 h.2.1
      clear hm
      go_wp2
      go_ret
      exact ⟨tells_no rfl R.out, B1.out⟩
  · have CM : Hid (∀ W, Calls Try.prog 15 #[.agg #[.int .i64 N, .int .i64 B, .int .i64 Q, .int .i64 E, .int .i64 F]] W fun e w' => e = .returned (.bool false) ∧ Below W.heap.size W w') := fun W => rmay_no N B Q E F W hm
    have R : Hid (¬ smallP N B Q E F n) := fun h => hm h.1
    clear hm
    go_enter Try.func26, Try.ntmps26
    go_wp2_with fail
    refine (CM.out _).mono ?_
    rintro e w1 ⟨rfl, hb⟩
    have B1 : Hid (Below w.heap.size w w1) := on_below (below_alloc _ _) hb
    clear hb P0 CM
    go_wp2
    go_ret
    exact ⟨tells_no rfl R.out, B1.out⟩

theorem pr_e1 : PrOk ((1 : Nat) : Int) ((2 : Nat) : Int) ((1 : Nat) : Int) ((1000 : Nat) : Int) ((2 : Nat) : Int) 1 1 1 := ⟨by unfold May; decide, rfl, rfl, by decide⟩
theorem comp_e1 (S : Nat) : compD 1 2 (hasR S 1 1 1) [5, 6] = [[5, 6], [5, 6]] := by
  rw [has_one]
  decide
theorem mayH_e1 : MayH 1 2 1 1000 2 2 := ⟨⟨by omega, by omega, by omega, by omega, by omega, by decide⟩, by decide, by decide⟩
/-- Blocks of a check block are there. -/
theorem Chk.ok {F E S K id k N B A : Nat} {l : List Int} {rows : List (List Int)} {o : List UInt8} (hc : Chk F E S K id k l) (hr : RwOk N A rows) (hK : K = N + A) : OkOf B (compD N B rows o) l :=
  okOf_below (compD_mem hr) (by rw [compD_length, hr.1]; exact fun i hi => by have := hc.mem hi; omega)

set_option maxRecDepth 100000 in
set_option maxHeartbeats 4000000 in
theorem speaks14_any (w : World) : Calls Try.prog 25 #[] w fun e w' => e = .returned (.bool true) ∧ Below w.heap.size w w' := by
  have CN : Hid (∀ W v, Bs W v [5, 6] → Calls Try.prog 27 #[.agg #[.int .i64 1, .int .i64 2, .int .i64 1, .int .i64 1000, .int .i64 2], .int .u64 7, v] W fun e w' => ∃ p, e = .returned (.tuple #[.pointer (some ⟨p, 0, none⟩), .int .i64 0]) ∧ Enc W.heap.size w' p 7 1 2 1 1000 2 2 2 [[5, 6], [5, 6]] ∧ Below W.heap.size W w') := by
    intro W v hv
    have := enew_yes 1 2 1 1 7 1000 2 2 v [5, 6] W pr_e1 (by decide) hv rfl (by decide)
    rw [comp_e1] at this
    exact this
  obtain ⟨k, of, hc⟩ := chk_is 1000 7 2 3 (F := 2) (by decide)
  have hok : OkOf 2 [[5, 6], [5, 6]] of := by
    have := Chk.ok (N := 1) (A := 1) (B := 2) (o := [5, 6]) hc (hasR_rw 7 1 1 1) rfl
    rw [comp_e1] at this
    exact this
  have CP : Hid (∀ B0 p W, Enc B0 W p 7 1 2 1 1000 2 2 2 [[5, 6], [5, 6]] → Calls Try.prog 29 #[.pointer (some ⟨p, 0, none⟩), .int .u64 3] W fun e w' => ∃ q, e = .returned (.agg #[.int .u64 7, .int .i64 1, .int .i64 2, .int .i64 1, .int .i64 1000, .int .i64 2, .int .i64 2, .int .u64 3, .slice (some ⟨q, 0, none⟩) 2 2]) ∧ Below W.heap.size W w') := by
    intro B0 p W h
    refine (epacket_any B0 p 7 1 2 1 1000 2 2 2 3 k _ of W h (by decide) hc mayD_21000 (by decide) (by decide) (by decide) hok).mono ?_
    rintro e w' ⟨q, rfl, -, -, hb⟩
    exact ⟨q, rfl, hb⟩
  have CF : Hid (∀ B0 p W, Enc B0 W p 7 1 2 1 1000 2 2 2 [[5, 6], [5, 6]] → Calls Try.prog 32 #[.pointer (some ⟨p, 0, none⟩), .int .u64 3] W fun e w' => ∃ q, e = .returned (.slice (some ⟨q, 0, none⟩) 44 44) ∧ Below W.heap.size W w') := by
    intro B0 p W h
    refine (eframe_any B0 p 7 1 2 1 1000 2 2 2 3 k _ of W h (by decide) hc mayD_21000 (by decide) (by decide) (by decide) hok mayH_e1).mono ?_
    rintro e w' ⟨q, rfl, -, -, hb⟩
    exact ⟨q, rfl, hb⟩
  have CC : Hid (∀ B0 p W, Enc B0 W p 7 1 2 1 1000 2 2 2 [[5, 6], [5, 6]] → Calls Try.prog 28 #[.pointer (some ⟨p, 0, none⟩), .int .i64 1] W fun e w' => ∃ q, e = .returned (.slice (some ⟨q, 0, none⟩) 2 2) ∧ Blk w' q [] [5, 6] [] ∧ Below W.heap.size W w') := by
    intro B0 p W h
    refine (ecomp_yes B0 p 7 1 2 1 1000 2 2 2 1 _ [5, 6] W h (by decide) rfl rfl).mono ?_
    rintro e w' ⟨q, rfl, -, h1, hb⟩
    exact ⟨q, rfl, h1, hb⟩
  clear hc hok
  go_enter Try.func25, Try.ntmps25
  go_wp2_with fail
  refine (CN.out _ _ (Bs.lit w _ _ _ [5, 6] _ _ rfl rfl rfl (by decide))).mono ?_
  rintro e w1 ⟨p, rfl, he, hb⟩
  have B1 : Hid (Below w.heap.size w w1) := on_below (below_alloc _ _) hb
  obtain ⟨B0, he⟩ : ∃ B0, Enc B0 w1 p 7 1 2 1 1000 2 2 2 [[5, 6], [5, 6]] := ⟨_, he⟩
  have E1 : Hid (Enc B0 w1 p 7 1 2 1 1000 2 2 2 [[5, 6], [5, 6]]) := he
  clear he hb CN
  go_wp2_with fail
  refine (CP.out B0 p w1 E1.out).mono ?_
  rintro e w2 ⟨q2, rfl, hb⟩
  have B2 : Hid (Below w.heap.size w w2) := on_below B1.out hb
  have E2 : Hid (Enc B0 w2 p 7 1 2 1 1000 2 2 2 [[5, 6], [5, 6]]) := E1.out.below hb
  clear hb CP E1 B1
  go_upto_region 5 with fail
  obtain ⟨w3, hw3⟩ : ∃ w3, w2.alloc (.cells #[.int .u64 7, .int .i64 1, .int .i64 2, .int .i64 1, .int .i64 1000, .int .i64 2, .int .i64 2, .int .u64 3, .slice (some ⟨q2, 0, none⟩) 2 2] 65) = w3 := ⟨_, rfl⟩
  have B3 : Hid (Below w.heap.size w w3) := by rw [← hw3]; exact on_below B2.out (below_alloc _ _)
  have E3 : Hid (Enc B0 w3 p 7 1 2 1 1000 2 2 2 [[5, 6], [5, 6]]) := by rw [← hw3]; exact E2.out.below (below_alloc _ _)
  obtain ⟨b3, hb3⟩ : ∃ b3, w2.heap.size = b3 := ⟨_, rfl⟩
  have N3 : Hid (Nine w3 b3 7 1 2 1 1000 2 2 3 (.slice (some ⟨q2, 0, none⟩) 2 2)) := by rw [← hw3, ← hb3]; exact nine_new _ _ _ _ _ _ _ _ _ _ _
  rw [hw3, hb3]
  clear hw3 hb3 E2 B2
  obtain ⟨⟨n0, n1, n2, n3, n4, n5, n6, n7⟩, n8⟩ := N3.out
  go_wp2_with fail
  refine (CF.out B0 p w3 E3.out).mono ?_
  rintro e w4 ⟨q4, rfl, hb⟩
  have B4 : Hid (Below w.heap.size w w4) := on_below B3.out hb
  have E4 : Hid (Enc B0 w4 p 7 1 2 1 1000 2 2 2 [[5, 6], [5, 6]]) := E3.out.below hb
  clear hb CF E3 B3 N3 n0 n1 n2 n3 n4 n5 n6 n7 n8
  go_wp2_with fail
  refine (CC.out B0 p w4 E4.out).mono ?_
  rintro e w5 ⟨q5, rfl, hk, hb⟩
  have B5 : Hid (Below w.heap.size w w5) := on_below B4.out hb
  have kr : (convert 25 9 (.slice (some ⟨q5, 0, none⟩) 2 2)).run Try.prog w5 = .ok (.string { data := #[5, 6] }) w5 := conv_bytes (l := [5, 6]) (hk.bs0 2 2 rfl (Nat.le_refl _) (by decide))
  clear hk hb CC E4 B4
  go_wp2
  go_ret
  exact ⟨rfl, B5.out⟩

end Go.Proofs.Ytehpbnakdadedaa
