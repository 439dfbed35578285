/-
  WholePackets.
-/
import Derived.Test.YtehpbnakdadedaaESums
namespace Go.Proofs.Ytehpbnakdadedaa
open Go.RowKit
set_option linter.unusedVariables false

theorem pr_e0 : PrOk ((1 : Nat) : Int) ((1 : Nat) : Int) ((1 : Nat) : Int) ((1000 : Nat) : Int) ((2 : Nat) : Int) 1 1 1 := ⟨by unfold May; decide, rfl, rfl, by decide⟩
theorem comp_e0 (S : Nat) : compD 1 1 (hasR S 1 1 1) [5] = [[5], [5]] := by
  rw [has_one]
  decide
theorem mayH_e0 : MayH 1 1 1 1000 2 1 := ⟨⟨by omega, by omega, by omega, by omega, by omega, by decide⟩, by decide, by decide⟩

/-- A packet's nine cells. -/
def NineF (W : World) (b : Nat) (S N B Q E F L I : Int) (v : Value) : Prop := W.cell? ⟨b, 0, none⟩ = some (.int .u64 S) ∧ W.cell? ⟨b, 1, none⟩ = some (.int .i64 N) ∧ W.cell? ⟨b, 2, none⟩ = some (.int .i64 B) ∧ W.cell? ⟨b, 3, none⟩ = some (.int .i64 Q) ∧ W.cell? ⟨b, 4, none⟩ = some (.int .i64 E) ∧ W.cell? ⟨b, 5, none⟩ = some (.int .i64 F) ∧ W.cell? ⟨b, 6, none⟩ = some (.int .i64 L) ∧ W.cell? ⟨b, 7, none⟩ = some (.int .u64 I) ∧ W.cell? ⟨b, 8, none⟩ = some v
theorem Nine.flat {W : World} {b : Nat} {S N B Q E F L I : Int} {v : Value} (h : Nine W b S N B Q E F L I v) : NineF W b S N B Q E F L I v := by
  obtain ⟨⟨h0, h1, h2, h3, h4, h5, h6, h7⟩, h8⟩ := h
  exact ⟨h0, h1, h2, h3, h4, h5, h6, h7, h8⟩

set_option maxRecDepth 100000 in
set_option maxHeartbeats 8000000 in
theorem wholePackets_walk (N B Q E F : Int) (S : Nat) (ov : Value) (l : List UInt8) (iv : Value) (ids : List Nat) (w : World) (hS : S < 18446744073709551616) (ho : Bs w ov l) (hi : Us w iv ids) :
    Calls Try.prog 11 #[.agg #[.int .i64 N, .int .i64 B, .int .i64 Q, .int .i64 E, .int .i64 F, .int .u64 (S : Int), ov, iv]] w fun e w' => e = .returned (.bool true) ∧ Below w.heap.size w w' := by
  have HO : Hid (Bs w ov l) := ho
  have HS : Hid (S < 18446744073709551616) := hS
  have HU : Hid (Us w iv ids) := hi
  obtain ⟨⟨-, io, icap, rfl, hi2, hi3, -, -⟩, -⟩ := hi
  obtain ⟨-, ao, cap, rfl, h2, h3, -, -⟩ := ho
  unfold maxLen at h3 hi3
  obtain ⟨n, hn⟩ : ∃ n, l.length = n := ⟨_, rfl⟩
  obtain ⟨m, hm⟩ : ∃ m, ids.length = m := ⟨_, rfl⟩
  rw [hn] at h2 HO ⊢
  rw [hm] at hi2 HU ⊢
  have HL : Hid (l.length = n) := hn
  have HM : Hid (ids.length = m) := hm
  clear hn hm hS
  have CN0 : Hid (∀ W v, Bs W v [5] → Calls Try.prog 27 #[.agg #[.int .i64 1, .int .i64 1, .int .i64 1, .int .i64 1000, .int .i64 2], .int .u64 7, v] W fun e w' => ∃ p B0, e = .returned (.tuple #[.pointer (some ⟨p, 0, none⟩), .int .i64 0]) ∧ Enc B0 w' p 7 1 1 1 1000 2 1 2 [[5], [5]] ∧ Below W.heap.size W w') := by
    intro W v hv
    have := enew_yes 1 1 1 1 7 1000 2 1 v [5] W pr_e0 (by decide) hv rfl (by decide)
    rw [comp_e0] at this
    refine this.mono ?_
    rintro e w' ⟨p, rfl, he, hb⟩
    exact ⟨p, _, rfl, he, hb⟩
  have CF0 : Hid (∀ B0 p W, Enc B0 W p 7 1 1 1 1000 2 1 2 [[5], [5]] → Calls Try.prog 32 #[.pointer (some ⟨p, 0, none⟩), .int .u64 1] W fun e w' => ∃ q, e = .returned (.slice (some ⟨q, 0, none⟩) 43 43) ∧ Below W.heap.size W w') := by
    intro B0 p W h
    obtain ⟨k, of, hc⟩ := chk_is 1000 7 2 1 (F := 2) (by decide)
    have hok : OkOf 1 [[5], [5]] of := by
      have := Chk.ok (N := 1) (A := 1) (B := 1) (o := [5]) hc (hasR_rw 7 1 1 1) rfl
      rw [comp_e0] at this
      exact this
    refine (eframe_any B0 p 7 1 1 1 1000 2 1 2 1 k _ of W h (by decide) hc mayD_21000 (by decide) (by decide) (by decide) hok mayH_e0).mono ?_
    rintro e w' ⟨q, rfl, -, -, hb⟩
    exact ⟨q, rfl, hb⟩
  have F0 : Hid (CaseC (w.alloc (.cells #[.int .i64 N, .int .i64 B, .int .i64 Q, .int .i64 E, .int .i64 F, .int .u64 (S : Int), .slice ao n cap, .slice io m icap] 55)) w.heap.size N B Q E F S (.slice ao n cap) (.slice io m icap)) := case_new w _ N B Q E F S _ _
  have B0 : Hid (Below w.heap.size w (w.alloc (.cells #[.int .i64 N, .int .i64 B, .int .i64 Q, .int .i64 E, .int .i64 F, .int .u64 (S : Int), .slice ao n cap, .slice io m icap] 55))) := below_alloc _ _
  go_enter Try.func11, Try.ntmps11
  go_upto_region 1 with fail
  generalize w.alloc (.cells #[.int .i64 N, .int .i64 B, .int .i64 Q, .int .i64 E, .int .i64 F, .int .u64 (S : Int), .slice ao n cap, .slice io m icap] 55) = w0 at *
  go_wp2_with fail
  refine (CN0.out _ _ (Bs.lit w0 _ _ _ [5] _ _ rfl rfl rfl (by decide))).mono ?_
  rintro e w1 ⟨p1, q1, rfl, he1, hb⟩
  have B1 : Hid (Below w.heap.size w w1) := on_below B0.out (on_below (below_alloc _ _) hb)
  have F1 : Hid (CaseC w1 w.heap.size N B Q E F S (.slice ao n cap) (.slice io m icap)) := F0.out.below (on_below (below_alloc _ _) hb)
  have E1 : Hid (Enc q1 w1 p1 7 1 1 1 1000 2 1 2 [[5], [5]]) := he1
  clear he1 hb CN0 F0 B0
  go_wp2_with fail
  refine (CF0.out q1 p1 w1 E1.out).mono ?_
  rintro e w2 ⟨q2, rfl, hb⟩
  have B2 : Hid (Below w.heap.size w w2) := on_below B1.out hb
  have F2 : Hid (CaseC w2 w.heap.size N B Q E F S (.slice ao n cap) (.slice io m icap)) := F1.out.below hb
  clear hb CF0 E1 F1 B1
  obtain ⟨c0, c1, c2, c3, c4, c5, c6, c7⟩ := F2.out
  have CM : Hid (∀ W, Calls Try.prog 15 #[.agg #[.int .i64 N, .int .i64 B, .int .i64 Q, .int .i64 E, .int .i64 F]] W fun e w' => e = .returned (.bool (@decide (May N B Q E F) (decMay N B Q E F))) ∧ Below W.heap.size W w') := fun W => rmay_any N B Q E F W
  go_wp2_with fail
  refine (CM.out w2).mono ?_
  rintro e w3 ⟨rfl, hb⟩
  have B3 : Hid (Below w.heap.size w w3) := on_below B2.out hb
  have F3 : Hid (CaseC w3 w.heap.size N B Q E F S (.slice ao n cap) (.slice io m icap)) := F2.out.below hb
  clear hb CM B2 F2 c0 c1 c2 c3 c4 c5 c6 c7
  obtain ⟨c0, c1, c2, c3, c4, c5, c6, c7⟩ := F3.out
  by_cases hm : May N B Q E F
  case neg =>
    have hd : @decide (May N B Q E F) (decMay N B Q E F) = false := @decide_eq_false _ (decMay N B Q E F) hm
    rw [hd]
    clear hm hd
    go_wp2
    go_ret
    exact ⟨rfl, B3.out⟩
  have hd : @decide (May N B Q E F) (decMay N B Q E F) = true := @decide_eq_true _ (decMay N B Q E F) hm
  have HMy : Hid (May N B Q E F) := hm
  rw [hd]
  clear hd hm
  by_cases h40 : N > 40
  · go_wp2
    go_ret
    exact ⟨rfl, B3.out⟩
  by_cases hb40 : B > 40
  · go_wp2
    go_ret
    exact ⟨rfl, B3.out⟩
  by_cases hf200 : F > 200
  · go_wp2
    go_ret
    exact ⟨rfl, B3.out⟩
  obtain ⟨N, B, Q, E, F, A, rfl, rfl, rfl, rfl, rfl, hpr, hmd⟩ := pr_natE HMy.out
  have hN40 : N ≤ 40 := by omega
  have hB40 : B ≤ 40 := by omega
  have hF200 : F ≤ 200 := by omega
  have hA6 : A ≤ 1000000 := may_small hpr (by omega)
  have hP : N * B ≤ 1600 := Nat.mul_le_mul hN40 hB40
  have wm : IntKind.i64.wrap ((N : Int) * (B : Int)) = ((N * B : Nat) : Int) := by rw [IntKind.wrap_i64]; simp; omega
  by_cases hl : n ≤ N * B
  case neg =>
    have hgt : (n : Int) > ((N * B : Nat) : Int) := by omega
    clear hl hP hpr hmd
    generalize N * B = P at *
    go_wp2
    go_ret
    exact ⟨rfl, B3.out⟩
  have hle : ¬ (n : Int) > ((N * B : Nat) : Int) := by omega
  by_cases hm20 : 20 < m
  · have hm20I : (20 : Int) < (m : Int) := by omega
    clear hl hP hpr hmd
    generalize N * B = P at *
    go_wp2
    go_ret
    exact ⟨rfl, B3.out⟩
  have hm20I : ¬ (20 : Int) < (m : Int) := by omega
  have HD : Hid (MayD F E) := hmd
  have hH : Hid (MayH N B Q E F n) := ⟨HMy.out, by omega, by exact_mod_cast hl⟩
  have PR : Hid (PrOk (N : Int) (B : Int) (Q : Int) (E : Int) (F : Int) N Q A) := hpr
  have CN : Hid (∀ W, Below w3.heap.size w3 W → Calls Try.prog 27 #[.agg #[.int .i64 (N : Int), .int .i64 (B : Int), .int .i64 (Q : Int), .int .i64 (E : Int), .int .i64 (F : Int)], .int .u64 (S : Int), .slice ao n cap] W fun e w' => ∃ p q, e = .returned (.tuple #[.pointer (some ⟨p, 0, none⟩), .int .i64 0]) ∧ Enc q w' p S N B Q E F n (N + A) (compD N B (hasR S A Q N) l) ∧ Below W.heap.size W w') := by
    intro W hW
    refine (enew_yes N B Q A S E F n _ l W hpr HS.out (HO.out.below (on_below B3.out hW)) HL.out hl).mono ?_
    rintro e w' ⟨p, rfl, he, hb⟩
    exact ⟨p, _, rfl, he, hb⟩
  have CB : Hid (∀ W, Below w3.heap.size w3 W → Calls Try.prog 14 #[.agg #[.int .i64 (N : Int), .int .i64 (B : Int), .int .i64 (Q : Int), .int .i64 (E : Int), .int .i64 (F : Int)], .int .u64 (S : Int), .slice ao n cap] W fun e w' => ∃ a c vs, e = .returned (.tuple #[.slice a (N + A) c, .int .i64 0]) ∧ w'.ownsRow W.heap.size 25 1 (.slice a (N + A) c) (N + A) vs ∧ RowsB W.heap.size w' vs (compD N B (hasR S A Q N) l) ∧ Below W.heap.size W w') := fun W hW => cblocks_yes N B Q A S E F _ l W hpr HS.out (HO.out.below (on_below B3.out hW)) (by rw [HL.out]; exact hl)
  have OKc : Hid (∀ (id k : Nat) (of : List Int), Chk F E S (N + A) id k of → OkOf B (compD N B (hasR S A Q N) l) of) := fun id k of hc => hc.ok (hasR_rw S A Q N) rfl
  have DM : Hid (∀ x ∈ compD N B (hasR S A Q N) l, x.length = B) := compD_mem (hasR_rw S A Q N)
  have DL : Hid ((compD N B (hasR S A Q N) l).length = N + A) := by unfold Hid; rw [compD_length, hasR_length]
  have RC : Hid (RightP N B A (hasR S A Q N) (n : Int) (compD N B (hasR S A Q N) l)) := by
    have := right_comp (l := l) (B := B) (hasR_rw S A Q N) (by rw [HL.out]; exact hl)
    rw [HL.out] at this
    exact this
  clear hl hP hpr hmd HMy
  generalize N * B = P at *
  have hnP : n ≤ P := by omega
  obtain ⟨D, hD⟩ : ∃ D, compD N B (hasR S A Q N) l = D := ⟨_, rfl⟩
  rw [hD] at CN CB OKc DM DL RC
  clear hD
  go_wp2_with fail
  refine (CN.out w3 (by first | exact Below.refl _ _ | exact below0 _)).mono ?_
  rintro e w4 ⟨p, q0, rfl, he, hb⟩
  have B4 : Hid (Below w.heap.size w w4) := on_below B3.out hb
  have X4 : Hid (Below w3.heap.size w3 w4) := hb
  have F4 : Hid (CaseC w4 w.heap.size N B Q E F S (.slice ao n cap) (.slice io m icap)) := F3.out.below hb
  have E4 : Hid (Enc q0 w4 p S N B Q E F n (N + A) D) := he
  clear he hb CN F3 B3 c0 c1 c2 c3 c4 c5 c6 c7
  obtain ⟨c0, c1, c2, c3, c4, c5, c6, c7⟩ := F4.out
  go_wp2_with fail
  refine (CB.out w4 X4.out).mono ?_
  rintro e w5 ⟨a5, k5, vs, rfl, ho5, hr5, hb⟩
  have B5 : Hid (Below w.heap.size w w5) := on_below B4.out hb
  have F5 : Hid (CaseC w5 w.heap.size N B Q E F S (.slice ao n cap) (.slice io m icap)) := F4.out.below hb
  have E5 : Hid (Enc q0 w5 p S N B Q E F n (N + A) D) := E4.out.below hb
  have V5 : Hid (vs.length = N + A) := by have := ho5.1; unfold Hid; omega
  have S5 : Hid (Sl 1 w5 (.slice a5 (N + A) k5) (N + A) vs ∧ Parts w5 vs D) := ⟨owned_sl ho5, hr5.parts⟩
  clear ho5 hr5 hb CB X4 E4 F4 B4 c0 c1 c2 c3 c4 c5 c6 c7
  go_wp2_with fail
  refine (fnew_any w5).mono ?_
  rintro e w6 ⟨co, g, rfl, hco, hb, -, -, -⟩
  have B6 : Hid (Below w.heap.size w w6) := on_below B5.out hb
  have F6 : Hid (CaseC w6 w.heap.size N B Q E F S (.slice ao n cap) (.slice io m icap)) := F5.out.below hb
  have E6 : Hid (Enc q0 w6 p S N B Q E F n (N + A) D) := E5.out.below hb
  have S6 : Hid (Sl 1 w6 (.slice a5 (N + A) k5) (N + A) vs ∧ Parts w6 vs D) := ⟨S5.out.1.below hb, S5.out.2.below hb⟩
  have C6 : Hid (IsCo w6 co g) := hco
  clear hco hb S5 E5 F5 B5
  obtain ⟨c0, c1, c2, c3, c4, c5, c6, c7⟩ := F6.out
  go_wp2
  clear c0 c1 c2 c3 c4 c5 c6 c7
  go_loopw [110] (fun jv wr => ∃ i : Nat, i ≤ m ∧ jv = .int .i64 i ∧ Hid (Below w6.heap.size w6 wr)) (fun jv _ => m - (intOf jv).toNat)
  case atStart => exact ⟨0, by omega, rfl, Below.refl _ _⟩
  case round =>
    obtain ⟨i, hi, rfl, BB⟩ := hrel
    by_cases hlt : i < m
    · have hltI : (i : Int) < (m : Int) := by omega
      obtain ⟨J, hJ⟩ : ∃ J, m - 1 - i = J := ⟨_, rfl⟩
      have wr1 : IntKind.i64.wrap ((m : Int) - 1) = (m : Int) - 1 := by rw [IntKind.wrap_i64]; omega
      have wr2 : IntKind.i64.wrap ((m : Int) - 1 - (i : Int)) = (J : Int) := by rw [IntKind.wrap_i64]; omega
      have hJm : J < m := by omega
      have hil : J < ids.length := by rw [HM.out]; exact hJm
      obtain ⟨⟨-, ao', cap', hv0, -, -, -, h5⟩, hbd⟩ := HU.out
      injection hv0 with y1 y2 y3
      subst y1
      obtain ⟨bi, oi, rfl, hc0⟩ : ∃ b off, io = some ⟨b, off, none⟩ ∧ ∀ j u, (ids.map uv)[j]? = some u → w.cell? ⟨b, off + j, none⟩ = some u := by
        rcases h5 with h0 | h0
        · omega
        · exact h0
      have ck0 := hc0 J _ (map_uv_at ids J hil)
      have ck := ((on_below B6.out BB.out).cell (cell_block_lt ck0)).trans ck0
      have HI : Hid (ids[J] < 18446744073709551616) := hbd _ (List.getElem_mem hil)
      clear hc0 ck0 y2 y3 hbd hJ
      generalize ids[J] = id at *
      obtain ⟨k, of, hch⟩ := chk_is E S (N + A) id HD.out.f2
      have hok := OKc.out id k of hch
      obtain ⟨x, hx⟩ : ∃ x, chkD B D of = x := ⟨_, rfl⟩
      have XL : Hid (x.length = B) := by unfold Hid; rw [← hx]; exact chkD_length hok
      obtain ⟨fr, hfr⟩ : ∃ fr, frameB S N B Q E F n id x = fr := ⟨_, rfl⟩
      have hfl : fr.length = 42 + B := by rw [← hfr, frameB_length, XL.out]
      have FR : Hid (CaseC wr w.heap.size N B Q E F S (.slice ao n cap) (.slice (some ⟨bi, oi, none⟩) m icap)) := F6.out.below BB.out
      have C1 : Hid (Calls Try.prog 32 #[.pointer (some ⟨p, 0, none⟩), .int .u64 id] wr fun e w' => ∃ q, e = .returned (.slice (some ⟨q, 0, none⟩) (42 + B) (42 + B)) ∧ Bs w' (.slice (some ⟨q, 0, none⟩) (42 + B) (42 + B)) fr ∧ Below wr.heap.size wr w') := by
        refine (eframe_any q0 p S N B Q E F n (N + A) id k D of wr (E6.out.below BB.out) (by omega) hch HD.out (by omega) HS.out HI.out hok hH.out).mono ?_
        rintro e w' ⟨q, rfl, -, h1, h2⟩
        rw [hx, hfr] at h1
        exact ⟨_, rfl, (by have h9 := h1.bs (by rw [hfl]; omega); rw [hfl] at h9; exact h9), h2⟩
      have PF := pack_frame S N B Q E F n id x HS.out HI.out hH.out XL.out
      have PE := parse_frame S N B Q E F n id x HS.out HI.out hH.out XL.out
      rw [hfr] at PF PE
      have C2 : Hid (∀ W v, Below wr.heap.size wr W → Bs W v fr → Calls Try.prog 34 #[.pointer (some ⟨co, 0, none⟩), v] W fun e w' => ∃ q, e = .returned (.tuple #[.agg #[.int .u64 (S : Int), .int .i64 (N : Int), .int .i64 (B : Int), .int .i64 (Q : Int), .int .i64 (E : Int), .int .i64 (F : Int), .int .i64 (n : Int), .int .u64 (id : Int), .slice (some ⟨q, 0, none⟩) B B], .int .i64 0]) ∧ Bs w' (.slice (some ⟨q, 0, none⟩) B B) x ∧ Below W.heap.size W w') := by
        intro W v hW hv
        refine (parse_ok co g v fr W (C6.out.below (on_below BB.out hW)) hv PE).mono ?_
        rintro e w' ⟨q, rfl, -, h1, h2⟩
        rw [PF.2] at h1
        exact ⟨q, by rw [PF.1], (by have h9 := h1.bs (by rw [XL.out]; omega); rw [XL.out] at h9; exact h9), h2⟩
      have C3 : Hid (∀ W, Below wr.heap.size wr W → Calls Try.prog 29 #[.pointer (some ⟨p, 0, none⟩), .int .u64 id] W fun e w' => ∃ v, e = .returned v ∧ IsPa 0 S N B Q E F n id x v w' ∧ Below W.heap.size W w') := by
        intro W hW
        refine (epacket_any q0 p S N B Q E F n (N + A) id k D of W (E6.out.below (on_below BB.out hW)) (by omega) hch HD.out (by omega) HS.out HI.out hok).mono ?_
        rintro e w' ⟨q, rfl, -, h1, h2⟩
        rw [hx] at h1
        exact ⟨_, rfl, ⟨q, rfl, Nat.zero_le _, h1⟩, h2⟩
      clear hch hok hx hfr hfl PF PE HI
      obtain ⟨c0, c1, c2, c3, c4, c5, c6, c7⟩ := FR.out
      go_wp2_with fail
      refine C1.out.mono ?_
      rintro e w7 ⟨q7, rfl, hs7, hb⟩
      have B7 : Hid (Below wr.heap.size wr w7) := hb
      have S7 : Hid (Bs w7 (.slice (some ⟨q7, 0, none⟩) (42 + B) (42 + B)) fr) := hs7
      clear hs7 hb C1 c0 c1 c2 c3 c4 c5 c6 c7
      go_wp2_with fail
      refine (C2.out w7 _ B7.out S7.out).mono ?_
      rintro e w8 ⟨q8, rfl, hs8, hb⟩
      have B8 : Hid (Below wr.heap.size wr w8) := on_below B7.out hb
      have S8 : Hid (Bs w8 (.slice (some ⟨q8, 0, none⟩) B B) x) := hs8
      clear hs8 hb C2 S7 B7
      go_upto_region 16 with fail
      obtain ⟨w9, hw9⟩ : ∃ w9, w8.alloc (.cells #[.int .u64 (S : Int), .int .i64 (N : Int), .int .i64 (B : Int), .int .i64 (Q : Int), .int .i64 (E : Int), .int .i64 (F : Int), .int .i64 (n : Int), .int .u64 (id : Int), .slice (some ⟨q8, 0, none⟩) B B] 65) = w9 := ⟨_, rfl⟩
      obtain ⟨b9, hb9⟩ : ∃ b9, w8.heap.size = b9 := ⟨_, rfl⟩
      have B9 : Hid (Below wr.heap.size wr w9) := by rw [← hw9]; exact on_below B8.out (below_alloc _ _)
      have N9 : Hid (Nine w9 b9 S N B Q E F n id (.slice (some ⟨q8, 0, none⟩) B B)) := by rw [← hw9, ← hb9]; exact nine_new _ _ _ _ _ _ _ _ _ _ _
      have S9 : Hid (Bs w9 (.slice (some ⟨q8, 0, none⟩) B B) x) := by rw [← hw9]; exact S8.out.below (below_alloc _ _)
      rw [hw9, hb9]
      clear hw9 hb9 S8 B8
      have BX : Hid (∀ W, Below w9.heap.size w9 W → CaseC W w.heap.size N B Q E F S (.slice ao n cap) (.slice (some ⟨bi, oi, none⟩) m icap)) := fun W hW => FR.out.below (on_below B9.out hW)
      have BY : Hid (∀ W, Below w9.heap.size w9 W → NineF W b9 S N B Q E F n id (.slice (some ⟨q8, 0, none⟩) B B)) := fun W hW => (N9.out.below hW).flat
      have K9 : Hid (∀ W, Below w9.heap.size w9 W → (convert 25 9 (.slice (some ⟨q8, 0, none⟩) B B)).run Try.prog W = .ok (.string (str x)) W) := fun W hW => conv_bytes (S9.out.below hW)
      have C4 : Hid (∀ W, Below w9.heap.size w9 W → Calls Try.prog 29 #[.pointer (some ⟨p, 0, none⟩), .int .u64 id] W fun e w' => ∃ v, e = .returned v ∧ IsPa 0 S N B Q E F n id x v w' ∧ Below W.heap.size W w') := fun W hW => C3.out W (on_below B9.out hW)
      have HF : Hid (∀ (q : Nat) (W : World), (Instr.field 65 (.agg #[.int .u64 (S : Int), .int .i64 (N : Int), .int .i64 (B : Int), .int .i64 (Q : Int), .int .i64 (E : Int), .int .i64 (F : Int), .int .i64 (n : Int), .int .u64 (id : Int), .slice (some ⟨q, 0, none⟩) B B]) 1).run Try.prog W = .ok (.slice (some ⟨q, 0, none⟩) B B) W) := fun q W => run_payload S N B Q E F n id _ W
      clear C3 N9 S9 wr1 wr2
      refine wp_region_any (by kernel_rfl) ?_
      obtain ⟨gs, hgs⟩ : ∃ gs : List (Value → World → Prop), gs = [IsV (Value.int IntKind.i64 (0 : Int)), IsV (.bool false), IsV (.bool false), IsV (.pointer (some ⟨b9, 0, none⟩)), IsV (.pointer (some ⟨b9, 7, none⟩)), IsV (.int .u64 (id : Int)), IsV (Value.int IntKind.u64 ↑id), IsV (.bool false), IsV (.bool false), IsV (.bool false), IsV (.pointer (some ⟨b9, 0, none⟩)), IsV (.pointer (some ⟨b9, 0, none⟩)), IsV (.int .u64 (S : Int)), IsV (.pointer (some ⟨w.heap.size, 5, none⟩)), IsV (.int .u64 (S : Int)), IsV (.bool false), IsV (.bool false), IsV (.bool false), IsV (.pointer (some ⟨b9, 0, none⟩)), IsV (.pointer (some ⟨b9, 6, none⟩)), IsV (.int .i64 (n : Int)), IsV (.pointer (some ⟨w.heap.size, 6, none⟩)), IsV (.slice ao n cap), IsV (.int .i64 (n : Int)), IsV (.bool false), IsV (.bool false), IsV (.bool false), IsV (.pointer (some ⟨b9, 8, none⟩)), IsV (.slice (some ⟨q8, 0, none⟩) B B), IsV (.string (str x)), IsV (Value.pointer (some { block := p, off := 0 })), IsV (Value.int IntKind.u64 ↑id), IsAnyV, IsAnyV, IsV (.string (str x)), IsV (.bool false), IsV (.bool false)] := ⟨_, rfl⟩
      have g0 : Hid (gs[0]? = some (IsV (Value.int IntKind.i64 (0 : Int)))) := by unfold Hid; rw [hgs]; rfl
      have g1 : Hid (gs[1]? = some (IsV (.bool false))) := by unfold Hid; rw [hgs]; rfl
      have g2 : Hid (gs[2]? = some (IsV (.bool false))) := by unfold Hid; rw [hgs]; rfl
      have g3 : Hid (gs[3]? = some (IsV (.pointer (some ⟨b9, 0, none⟩)))) := by unfold Hid; rw [hgs]; rfl
      have g4 : Hid (gs[4]? = some (IsV (.pointer (some ⟨b9, 7, none⟩)))) := by unfold Hid; rw [hgs]; rfl
      have g5 : Hid (gs[5]? = some (IsV (.int .u64 (id : Int)))) := by unfold Hid; rw [hgs]; rfl
      have g6 : Hid (gs[6]? = some (IsV (Value.int IntKind.u64 ↑id))) := by unfold Hid; rw [hgs]; rfl
      have g7 : Hid (gs[7]? = some (IsV (.bool false))) := by unfold Hid; rw [hgs]; rfl
      have g8 : Hid (gs[8]? = some (IsV (.bool false))) := by unfold Hid; rw [hgs]; rfl
      have g9 : Hid (gs[9]? = some (IsV (.bool false))) := by unfold Hid; rw [hgs]; rfl
      have g10 : Hid (gs[10]? = some (IsV (.pointer (some ⟨b9, 0, none⟩)))) := by unfold Hid; rw [hgs]; rfl
      have g11 : Hid (gs[11]? = some (IsV (.pointer (some ⟨b9, 0, none⟩)))) := by unfold Hid; rw [hgs]; rfl
      have g12 : Hid (gs[12]? = some (IsV (.int .u64 (S : Int)))) := by unfold Hid; rw [hgs]; rfl
      have g13 : Hid (gs[13]? = some (IsV (.pointer (some ⟨w.heap.size, 5, none⟩)))) := by unfold Hid; rw [hgs]; rfl
      have g14 : Hid (gs[14]? = some (IsV (.int .u64 (S : Int)))) := by unfold Hid; rw [hgs]; rfl
      have g15 : Hid (gs[15]? = some (IsV (.bool false))) := by unfold Hid; rw [hgs]; rfl
      have g16 : Hid (gs[16]? = some (IsV (.bool false))) := by unfold Hid; rw [hgs]; rfl
      have g17 : Hid (gs[17]? = some (IsV (.bool false))) := by unfold Hid; rw [hgs]; rfl
      have g18 : Hid (gs[18]? = some (IsV (.pointer (some ⟨b9, 0, none⟩)))) := by unfold Hid; rw [hgs]; rfl
      have g19 : Hid (gs[19]? = some (IsV (.pointer (some ⟨b9, 6, none⟩)))) := by unfold Hid; rw [hgs]; rfl
      have g20 : Hid (gs[20]? = some (IsV (.int .i64 (n : Int)))) := by unfold Hid; rw [hgs]; rfl
      have g21 : Hid (gs[21]? = some (IsV (.pointer (some ⟨w.heap.size, 6, none⟩)))) := by unfold Hid; rw [hgs]; rfl
      have g22 : Hid (gs[22]? = some (IsV (.slice ao n cap))) := by unfold Hid; rw [hgs]; rfl
      have g23 : Hid (gs[23]? = some (IsV (.int .i64 (n : Int)))) := by unfold Hid; rw [hgs]; rfl
      have g24 : Hid (gs[24]? = some (IsV (.bool false))) := by unfold Hid; rw [hgs]; rfl
      have g25 : Hid (gs[25]? = some (IsV (.bool false))) := by unfold Hid; rw [hgs]; rfl
      have g26 : Hid (gs[26]? = some (IsV (.bool false))) := by unfold Hid; rw [hgs]; rfl
      have g27 : Hid (gs[27]? = some (IsV (.pointer (some ⟨b9, 8, none⟩)))) := by unfold Hid; rw [hgs]; rfl
      have g28 : Hid (gs[28]? = some (IsV (.slice (some ⟨q8, 0, none⟩) B B))) := by unfold Hid; rw [hgs]; rfl
      have g29 : Hid (gs[29]? = some (IsV (.string (str x)))) := by unfold Hid; rw [hgs]; rfl
      have g30 : Hid (gs[30]? = some (IsV (Value.pointer (some { block := p, off := 0 })))) := by unfold Hid; rw [hgs]; rfl
      have g31 : Hid (gs[31]? = some (IsV (Value.int IntKind.u64 ↑id))) := by unfold Hid; rw [hgs]; rfl
      have g32 : Hid (gs[32]? = some (IsAnyV)) := by unfold Hid; rw [hgs]; rfl
      have g33 : Hid (gs[33]? = some (IsAnyV)) := by unfold Hid; rw [hgs]; rfl
      have g34 : Hid (gs[34]? = some (IsV (.string (str x)))) := by unfold Hid; rw [hgs]; rfl
      have g35 : Hid (gs[35]? = some (IsV (.bool false))) := by unfold Hid; rw [hgs]; rfl
      have g36 : Hid (gs[36]? = some (IsV (.bool false))) := by unfold Hid; rw [hgs]; rfl
      have gk : Hid (∀ p ∈ gs, ∀ v (U U' : World), p v U → p v U') := by
        unfold Hid
        rw [hgs]
        simp only [List.forall_mem_cons]
        exact ⟨(fun _ _ _ h => h), (fun _ _ _ h => h), (fun _ _ _ h => h), (fun _ _ _ h => h), (fun _ _ _ h => h), (fun _ _ _ h => h), (fun _ _ _ h => h), (fun _ _ _ h => h), (fun _ _ _ h => h), (fun _ _ _ h => h), (fun _ _ _ h => h), (fun _ _ _ h => h), (fun _ _ _ h => h), (fun _ _ _ h => h), (fun _ _ _ h => h), (fun _ _ _ h => h), (fun _ _ _ h => h), (fun _ _ _ h => h), (fun _ _ _ h => h), (fun _ _ _ h => h), (fun _ _ _ h => h), (fun _ _ _ h => h), (fun _ _ _ h => h), (fun _ _ _ h => h), (fun _ _ _ h => h), (fun _ _ _ h => h), (fun _ _ _ h => h), (fun _ _ _ h => h), (fun _ _ _ h => h), (fun _ _ _ h => h), (fun _ _ _ h => h), (fun _ _ _ h => h), (fun _ _ _ h => h), (fun _ _ _ h => h), (fun _ _ _ h => h), (fun _ _ _ h => h), (fun _ _ _ h => h), by simp⟩
      clear hgs
      have JS : Hid (∀ W W', Below W.heap.size W W' → (fun W => Below w9.heap.size w9 W) W → (fun W => Below w9.heap.size w9 W) W') := fun W W' hb h => h.trans (hb.mono h.size)
      have st32 : Hid (Stays (IsPa 0 S N B Q E F n id x)) := stays_pa _ _ _ _ _ _ _ _ _ _
      have st33 : Hid (Stays (IsBs x)) := stays_bs _
      refine wpAny_inv4 (fun listed ac W => ∃ xv : Nat → Value, ac = ⟨#[Value.agg #[Value.int IntKind.i64 ↑N, Value.int IntKind.i64 ↑B, Value.int IntKind.i64 ↑Q, Value.int IntKind.i64 ↑E, Value.int IntKind.i64 ↑F, Value.int IntKind.u64 ↑S, Value.slice ao n cap, Value.slice (some { block := bi, off := oi }) m icap], Value.pointer (some { block := w.heap.size, off := 0 }), u2, Value.pointer (some { block := p, off := 0 }), Value.int IntKind.i64 (0 : Int), Value.slice a5 (N + A) k5, Value.int IntKind.i64 (0 : Int), Value.pointer (some { block := co, off := 0 }), Value.int IntKind.i64 ↑i, Value.int IntKind.u64 ↑id, Value.pointer (some { block := b9, off := 0 }), Value.int IntKind.i64 (0 : Int), undef, undef, undef, undef, undef, Value.tuple #[Value.pointer (some { block := p1, off := 0 }), Value.int IntKind.i64 (0 : Int)], Value.agg #[Value.int IntKind.i64 (1 : Int), Value.int IntKind.i64 (1 : Int), Value.int IntKind.i64 (1 : Int), Value.int IntKind.i64 (1000 : Int), Value.int IntKind.i64 (2 : Int)], Value.slice (some { block := w0.heap.size, off := 0 }) 1 1, Value.tuple #[Value.pointer (some { block := p1, off := 0 }), Value.int IntKind.i64 (0 : Int)], Value.pointer (some { block := p1, off := 0 }), Value.int IntKind.i64 (0 : Int), Value.int IntKind.i64 (0 : Int), Value.bool false, Value.bool false, Value.pointer (some { block := p1, off := 0 }), Value.bool false, Value.bool false, Value.bool false, Value.pointer (some { block := p1, off := 0 }), Value.slice (some { block := q2, off := 0 }) 43 43, Value.int IntKind.i64 (43 : Int), Value.bool false, Value.bool false, Value.pointer (some { block := w.heap.size, off := 0 }), Value.agg #[Value.int IntKind.i64 ↑N, Value.int IntKind.i64 ↑B, Value.int IntKind.i64 ↑Q, Value.int IntKind.i64 ↑E, Value.int IntKind.i64 ↑F], Value.bool true, Value.bool false, Value.bool false, Value.pointer (some { block := w.heap.size, off := 0 }), Value.pointer (some { block := w.heap.size, off := 0 }), Value.int IntKind.i64 ↑N, Value.bool (decide ((40 : Int) < ↑N)), Value.bool (decide ((40 : Int) < ↑N)), Value.bool (decide ((40 : Int) < ↑N)), Value.pointer (some { block := w.heap.size, off := 0 }), Value.pointer (some { block := w.heap.size, off := 1 }), Value.int IntKind.i64 ↑B, Value.bool (decide ((40 : Int) < ↑B)), Value.bool (decide ((40 : Int) < ↑N) || decide ((40 : Int) < ↑B)), Value.bool (decide ((40 : Int) < ↑N) || decide ((40 : Int) < ↑B)), Value.pointer (some { block := w.heap.size, off := 0 }), Value.pointer (some { block := w.heap.size, off := 4 }), Value.int IntKind.i64 ↑F, Value.bool (decide ((200 : Int) < ↑F)), Value.bool (decide ((40 : Int) < ↑N) || decide ((40 : Int) < ↑B) || decide ((200 : Int) < ↑F)), Value.bool (decide ((40 : Int) < ↑N) || decide ((40 : Int) < ↑B) || decide ((200 : Int) < ↑F)), Value.pointer (some { block := w.heap.size, off := 6 }), Value.slice ao n cap, Value.int IntKind.i64 ↑n, Value.pointer (some { block := w.heap.size, off := 0 }), Value.pointer (some { block := w.heap.size, off := 0 }), Value.int IntKind.i64 ↑N, Value.pointer (some { block := w.heap.size, off := 0 }), Value.pointer (some { block := w.heap.size, off := 1 }), Value.int IntKind.i64 ↑B, Value.int IntKind.i64 ↑P, Value.bool false, Value.bool (decide ((40 : Int) < ↑N) || decide ((40 : Int) < ↑B) || decide ((200 : Int) < ↑F)), Value.bool (decide ((40 : Int) < ↑N) || decide ((40 : Int) < ↑B) || decide ((200 : Int) < ↑F)), Value.pointer (some { block := w.heap.size, off := 7 }), Value.slice (some { block := bi, off := oi }) m icap, Value.int IntKind.i64 ↑m, Value.bool (decide ((20 : Int) < ↑m)), Value.bool (decide ((40 : Int) < ↑N) || decide ((40 : Int) < ↑B) || decide ((200 : Int) < ↑F) || decide ((20 : Int) < ↑m)), Value.tuple #[Value.pointer (some { block := p, off := 0 }), Value.int IntKind.i64 (0 : Int)], Value.pointer (some { block := w.heap.size, off := 0 }), Value.agg #[Value.int IntKind.i64 ↑N, Value.int IntKind.i64 ↑B, Value.int IntKind.i64 ↑Q, Value.int IntKind.i64 ↑E, Value.int IntKind.i64 ↑F], Value.pointer (some { block := w.heap.size, off := 5 }), Value.int IntKind.u64 ↑S, Value.pointer (some { block := w.heap.size, off := 6 }), Value.slice ao n cap, Value.tuple #[Value.pointer (some { block := p, off := 0 }), Value.int IntKind.i64 (0 : Int)], Value.pointer (some { block := p, off := 0 }), Value.int IntKind.i64 (0 : Int), Value.tuple #[Value.slice a5 (N + A) k5, Value.int IntKind.i64 (0 : Int)], Value.pointer (some { block := w.heap.size, off := 0 }), Value.agg #[Value.int IntKind.i64 ↑N, Value.int IntKind.i64 ↑B, Value.int IntKind.i64 ↑Q, Value.int IntKind.i64 ↑E, Value.int IntKind.i64 ↑F], Value.pointer (some { block := w.heap.size, off := 5 }), Value.int IntKind.u64 ↑S, Value.pointer (some { block := w.heap.size, off := 6 }), Value.slice ao n cap, Value.tuple #[Value.slice a5 (N + A) k5, Value.int IntKind.i64 (0 : Int)], Value.slice a5 (N + A) k5, Value.int IntKind.i64 (0 : Int), Value.int IntKind.i64 (0 : Int), Value.bool false, Value.bool false, Value.int IntKind.i64 (0 : Int), Value.bool false, Value.bool false, Value.bool false, Value.pointer (some { block := p, off := 0 }), Value.bool false, Value.bool false, Value.pointer (some { block := co, off := 0 }), Value.pointer (some { block := w.heap.size, off := 7 }), Value.slice (some { block := bi, off := oi }) m icap, Value.int IntKind.i64 ↑m, Value.int IntKind.i64 ↑i, Value.bool true, Value.int IntKind.i64 ↑i, Value.pointer (some { block := w.heap.size, off := 7 }), Value.slice (some { block := bi, off := oi }) m icap, Value.pointer (some { block := w.heap.size, off := 7 }), Value.slice (some { block := bi, off := oi }) m icap, Value.int IntKind.i64 ↑m, Value.int IntKind.i64 (↑m - (1 : Int)), Value.int IntKind.i64 ↑i, Value.int IntKind.i64 ↑J, Value.pointer (some { block := bi, off := oi + J }), Value.int IntKind.u64 ↑id, Value.tuple #[Value.agg #[Value.int IntKind.u64 ↑S, Value.int IntKind.i64 ↑N, Value.int IntKind.i64 ↑B, Value.int IntKind.i64 ↑Q, Value.int IntKind.i64 ↑E, Value.int IntKind.i64 ↑F, Value.int IntKind.i64 ↑n, Value.int IntKind.u64 ↑id, Value.slice (some { block := q8, off := 0 }) B B], Value.int IntKind.i64 (0 : Int)], Value.pointer (some { block := co, off := 0 }), Value.pointer (some { block := p, off := 0 }), Value.int IntKind.u64 ↑id, Value.slice (some { block := q7, off := 0 }) (42 + B) (42 + B), Value.tuple #[Value.agg #[Value.int IntKind.u64 ↑S, Value.int IntKind.i64 ↑N, Value.int IntKind.i64 ↑B, Value.int IntKind.i64 ↑Q, Value.int IntKind.i64 ↑E, Value.int IntKind.i64 ↑F, Value.int IntKind.i64 ↑n, Value.int IntKind.u64 ↑id, Value.slice (some { block := q8, off := 0 }) B B], Value.int IntKind.i64 (0 : Int)], Value.agg #[Value.int IntKind.u64 ↑S, Value.int IntKind.i64 ↑N, Value.int IntKind.i64 ↑B, Value.int IntKind.i64 ↑Q, Value.int IntKind.i64 ↑E, Value.int IntKind.i64 ↑F, Value.int IntKind.i64 ↑n, Value.int IntKind.u64 ↑id, Value.slice (some { block := q8, off := 0 }) B B], Value.int IntKind.i64 (0 : Int), xv 0, xv 1, xv 2, xv 3, xv 4, xv 5, xv 6, xv 7, xv 8, xv 9, xv 10, xv 11, xv 12, xv 13, xv 14, xv 15, xv 16, xv 17, xv 18, xv 19, xv 20, xv 21, xv 22, xv 23, xv 24, xv 25, xv 26, xv 27, xv 28, xv 29, xv 30, xv 31, xv 32, xv 33, xv 34, xv 35, xv 36, u168, undef, undef, undef, undef, undef, undef, undef, undef, undef, undef, undef, undef, undef, undef, undef, undef, undef, undef, undef, undef, undef, undef, undef, undef, undef, undef, undef, undef, undef, undef, undef, undef, undef, undef, undef, undef, undef, undef, undef, undef, undef, undef, undef, undef, undef, undef, undef, undef, undef, undef, undef], []⟩ ∧ (fun W => Below w9.heap.size w9 W) W ∧ Lst gs listed xv W ∧ Fe listed xv W 32 (IsPa 0 S N B Q E F n id x) ∧ Fe listed xv W 33 (IsBs x)) (by kernel_rfl) ?_ ?_ _ _ _ _ (by kernel_rfl) (of_decide_eq_true (by kernel_rfl)) (Down.start _) ⟨fun jx => if jx = 0 then u131 else if jx = 1 then u132 else if jx = 2 then u133 else if jx = 3 then u134 else if jx = 4 then u135 else if jx = 5 then u136 else if jx = 6 then u137 else if jx = 7 then u138 else if jx = 8 then u139 else if jx = 9 then u140 else if jx = 10 then u141 else if jx = 11 then u142 else if jx = 12 then u143 else if jx = 13 then u144 else if jx = 14 then u145 else if jx = 15 then u146 else if jx = 16 then u147 else if jx = 17 then u148 else if jx = 18 then u149 else if jx = 19 then u150 else if jx = 20 then u151 else if jx = 21 then u152 else if jx = 22 then u153 else if jx = 23 then u154 else if jx = 24 then u155 else if jx = 25 then u156 else if jx = 26 then u157 else if jx = 27 then u158 else if jx = 28 then u159 else if jx = 29 then u160 else if jx = 30 then u161 else if jx = 31 then u162 else if jx = 32 then u163 else if jx = 33 then u164 else if jx = 34 then u165 else if jx = 35 then u166 else if jx = 36 then u167 else undef, rfl, below0 _, Lst.start _ _ _ _, Fe.start _ _ _ _ _, Fe.start _ _ _ _ _⟩
      · rintro listed ac W ⟨xv, rfl, hb, hG, hF32, hF33⟩ hD i hi hnl hd
        have hin : i < 37 := hi
        clear hi
        have hcase : i = 0 ∨ i = 1 ∨ i = 2 ∨ i = 3 ∨ i = 4 ∨ i = 5 ∨ i = 6 ∨ i = 7 ∨ i = 8 ∨ i = 9 ∨ i = 10 ∨ i = 11 ∨ i = 12 ∨ i = 13 ∨ i = 14 ∨ i = 15 ∨ i = 16 ∨ i = 17 ∨ i = 18 ∨ i = 19 ∨ i = 20 ∨ i = 21 ∨ i = 22 ∨ i = 23 ∨ i = 24 ∨ i = 25 ∨ i = 26 ∨ i = 27 ∨ i = 28 ∨ i = 29 ∨ i = 30 ∨ i = 31 ∨ i = 32 ∨ i = 33 ∨ i = 34 ∨ i = 35 ∨ i = 36 := by omega
        rcases hcase with rfl | rfl | rfl | rfl | rfl | rfl | rfl | rfl | rfl | rfl | rfl | rfl | rfl | rfl | rfl | rfl | rfl | rfl | rfl | rfl | rfl | rfl | rfl | rfl | rfl | rfl | rfl | rfl | rfl | rfl | rfl | rfl | rfl | rfl | rfl | rfl | rfl
        · refine wpOp_step rfl (fun K' hK => ?_)
          clear hd hin hD
          go_simp
          exact hK _ _ ⟨updV xv 0 (Value.int IntKind.i64 (0 : Int)), by simp [updV], hb, hG.any gk.out g0.out _ rfl, hF32.step (fun _ h => h) (by decide) _, hF33.step (fun _ h => h) (by decide) _⟩
        · refine wpOp_step rfl (fun K' hK => ?_)
          simp [Region.binds] at hd
          have e0 : xv 0 = Value.int IntKind.i64 (0 : Int) := hG.get g0.out (by simp [hd])
          clear hd hin hD
          go_simp
          exact hK _ _ ⟨updV xv 1 (.bool false), by simp [updV, e0], hb, hG.any gk.out g1.out _ rfl, hF32.step (fun _ h => h) (by decide) _, hF33.step (fun _ h => h) (by decide) _⟩
        · refine wpOp_step rfl (fun K' hK => ?_)
          simp [Region.binds] at hd
          have e1 : xv 1 = .bool false := hG.get g1.out (by simp [hd])
          clear hd hin hD
          go_simp
          exact hK _ _ ⟨updV xv 2 (.bool false), by simp [updV, e1], hb, hG.any gk.out g2.out _ rfl, hF32.step (fun _ h => h) (by decide) _, hF33.step (fun _ h => h) (by decide) _⟩
        · refine wpOp_step rfl (fun K' hK => ?_)
          simp [Region.binds] at hd
          have e2 : xv 2 = .bool false := hG.get g2.out (by simp [hd])
          clear hd hin hD
          go_simp
          exact hK _ _ ⟨updV xv 3 (.pointer (some ⟨b9, 0, none⟩)), by simp [updV, e2], hb, hG.any gk.out g3.out _ rfl, hF32.step (fun _ h => h) (by decide) _, hF33.step (fun _ h => h) (by decide) _⟩
        · refine wpOp_step rfl (fun K' hK => ?_)
          simp [Region.binds] at hd
          have e3 : xv 3 = .pointer (some ⟨b9, 0, none⟩) := hG.get g3.out (by simp [hd])
          have e2 : xv 2 = .bool false := hG.get g2.out (by simp [hd])
          clear hd hin hD
          go_simp
          exact hK _ _ ⟨updV xv 4 (.pointer (some ⟨b9, 7, none⟩)), by simp [updV, e3, e2], hb, hG.any gk.out g4.out _ rfl, hF32.step (fun _ h => h) (by decide) _, hF33.step (fun _ h => h) (by decide) _⟩
        · refine wpOp_step rfl (fun K' hK => ?_)
          simp [Region.binds] at hd
          have e4 : xv 4 = .pointer (some ⟨b9, 7, none⟩) := hG.get g4.out (by simp [hd])
          have e2 : xv 2 = .bool false := hG.get g2.out (by simp [hd])
          obtain ⟨c0, c1, c2, c3, c4, c5, c6, c7, c8⟩ := BY.out W hb
          clear hd hin hD
          go_simp
          exact hK _ _ ⟨updV xv 5 (.int .u64 (id : Int)), by simp [updV, e4, e2], hb, hG.any gk.out g5.out _ rfl, hF32.step (fun _ h => h) (by decide) _, hF33.step (fun _ h => h) (by decide) _⟩
        · refine wpOp_step rfl (fun K' hK => ?_)
          simp [Region.binds] at hd
          have e2 : xv 2 = .bool false := hG.get g2.out (by simp [hd])
          clear hd hin hD
          go_simp
          exact hK _ _ ⟨updV xv 6 (Value.int IntKind.u64 ↑id), by simp [updV, e2], hb, hG.any gk.out g6.out _ rfl, hF32.step (fun _ h => h) (by decide) _, hF33.step (fun _ h => h) (by decide) _⟩
        · refine wpOp_step rfl (fun K' hK => ?_)
          simp [Region.binds] at hd
          have e5 : xv 5 = .int .u64 (id : Int) := hG.get g5.out (by simp [hd])
          have e6 : xv 6 = Value.int IntKind.u64 ↑id := hG.get g6.out (by simp [hd])
          have e2 : xv 2 = .bool false := hG.get g2.out (by simp [hd])
          clear hd hin hD
          go_simp
          exact hK _ _ ⟨updV xv 7 (.bool false), by simp [updV, e5, e6, e2], hb, hG.any gk.out g7.out _ rfl, hF32.step (fun _ h => h) (by decide) _, hF33.step (fun _ h => h) (by decide) _⟩
        · refine wpOp_step rfl (fun K' hK => ?_)
          simp [Region.binds] at hd
          have e2 : xv 2 = .bool false := hG.get g2.out (by simp [hd])
          have e7 : xv 7 = .bool false := hG.get g7.out (by simp [hd])
          clear hd hin hD
          go_simp
          exact hK _ _ ⟨updV xv 8 (.bool false), by simp [updV, e2, e7], hb, hG.any gk.out g8.out _ rfl, hF32.step (fun _ h => h) (by decide) _, hF33.step (fun _ h => h) (by decide) _⟩
        · refine wpOp_step rfl (fun K' hK => ?_)
          simp [Region.binds] at hd
          have e8 : xv 8 = .bool false := hG.get g8.out (by simp [hd])
          clear hd hin hD
          go_simp
          exact hK _ _ ⟨updV xv 9 (.bool false), by simp [updV, e8], hb, hG.any gk.out g9.out _ rfl, hF32.step (fun _ h => h) (by decide) _, hF33.step (fun _ h => h) (by decide) _⟩
        · refine wpOp_step rfl (fun K' hK => ?_)
          simp [Region.binds] at hd
          have e9 : xv 9 = .bool false := hG.get g9.out (by simp [hd])
          clear hd hin hD
          go_simp
          exact hK _ _ ⟨updV xv 10 (.pointer (some ⟨b9, 0, none⟩)), by simp [updV, e9], hb, hG.any gk.out g10.out _ rfl, hF32.step (fun _ h => h) (by decide) _, hF33.step (fun _ h => h) (by decide) _⟩
        · refine wpOp_step rfl (fun K' hK => ?_)
          simp [Region.binds] at hd
          have e10 : xv 10 = .pointer (some ⟨b9, 0, none⟩) := hG.get g10.out (by simp [hd])
          have e9 : xv 9 = .bool false := hG.get g9.out (by simp [hd])
          clear hd hin hD
          go_simp
          exact hK _ _ ⟨updV xv 11 (.pointer (some ⟨b9, 0, none⟩)), by simp [updV, e10, e9], hb, hG.any gk.out g11.out _ rfl, hF32.step (fun _ h => h) (by decide) _, hF33.step (fun _ h => h) (by decide) _⟩
        · refine wpOp_step rfl (fun K' hK => ?_)
          simp [Region.binds] at hd
          have e11 : xv 11 = .pointer (some ⟨b9, 0, none⟩) := hG.get g11.out (by simp [hd])
          have e9 : xv 9 = .bool false := hG.get g9.out (by simp [hd])
          obtain ⟨c0, c1, c2, c3, c4, c5, c6, c7, c8⟩ := BY.out W hb
          clear hd hin hD
          go_simp
          exact hK _ _ ⟨updV xv 12 (.int .u64 (S : Int)), by simp [updV, e11, e9], hb, hG.any gk.out g12.out _ rfl, hF32.step (fun _ h => h) (by decide) _, hF33.step (fun _ h => h) (by decide) _⟩
        · refine wpOp_step rfl (fun K' hK => ?_)
          simp [Region.binds] at hd
          have e9 : xv 9 = .bool false := hG.get g9.out (by simp [hd])
          clear hd hin hD
          go_simp
          exact hK _ _ ⟨updV xv 13 (.pointer (some ⟨w.heap.size, 5, none⟩)), by simp [updV, e9], hb, hG.any gk.out g13.out _ rfl, hF32.step (fun _ h => h) (by decide) _, hF33.step (fun _ h => h) (by decide) _⟩
        · refine wpOp_step rfl (fun K' hK => ?_)
          simp [Region.binds] at hd
          have e13 : xv 13 = .pointer (some ⟨w.heap.size, 5, none⟩) := hG.get g13.out (by simp [hd])
          have e9 : xv 9 = .bool false := hG.get g9.out (by simp [hd])
          obtain ⟨c0, c1, c2, c3, c4, c5, c6, c7⟩ := BX.out W hb
          clear hd hin hD
          go_simp
          exact hK _ _ ⟨updV xv 14 (.int .u64 (S : Int)), by simp [updV, e13, e9], hb, hG.any gk.out g14.out _ rfl, hF32.step (fun _ h => h) (by decide) _, hF33.step (fun _ h => h) (by decide) _⟩
        · refine wpOp_step rfl (fun K' hK => ?_)
          simp [Region.binds] at hd
          have e12 : xv 12 = .int .u64 (S : Int) := hG.get g12.out (by simp [hd])
          have e14 : xv 14 = .int .u64 (S : Int) := hG.get g14.out (by simp [hd])
          have e9 : xv 9 = .bool false := hG.get g9.out (by simp [hd])
          clear hd hin hD
          go_simp
          exact hK _ _ ⟨updV xv 15 (.bool false), by simp [updV, e12, e14, e9], hb, hG.any gk.out g15.out _ rfl, hF32.step (fun _ h => h) (by decide) _, hF33.step (fun _ h => h) (by decide) _⟩
        · refine wpOp_step rfl (fun K' hK => ?_)
          simp [Region.binds] at hd
          have e9 : xv 9 = .bool false := hG.get g9.out (by simp [hd])
          have e15 : xv 15 = .bool false := hG.get g15.out (by simp [hd])
          clear hd hin hD
          go_simp
          exact hK _ _ ⟨updV xv 16 (.bool false), by simp [updV, e9, e15], hb, hG.any gk.out g16.out _ rfl, hF32.step (fun _ h => h) (by decide) _, hF33.step (fun _ h => h) (by decide) _⟩
        · refine wpOp_step rfl (fun K' hK => ?_)
          simp [Region.binds] at hd
          have e16 : xv 16 = .bool false := hG.get g16.out (by simp [hd])
          clear hd hin hD
          go_simp
          exact hK _ _ ⟨updV xv 17 (.bool false), by simp [updV, e16], hb, hG.any gk.out g17.out _ rfl, hF32.step (fun _ h => h) (by decide) _, hF33.step (fun _ h => h) (by decide) _⟩
        · refine wpOp_step rfl (fun K' hK => ?_)
          simp [Region.binds] at hd
          have e17 : xv 17 = .bool false := hG.get g17.out (by simp [hd])
          clear hd hin hD
          go_simp
          exact hK _ _ ⟨updV xv 18 (.pointer (some ⟨b9, 0, none⟩)), by simp [updV, e17], hb, hG.any gk.out g18.out _ rfl, hF32.step (fun _ h => h) (by decide) _, hF33.step (fun _ h => h) (by decide) _⟩
        · refine wpOp_step rfl (fun K' hK => ?_)
          simp [Region.binds] at hd
          have e18 : xv 18 = .pointer (some ⟨b9, 0, none⟩) := hG.get g18.out (by simp [hd])
          have e17 : xv 17 = .bool false := hG.get g17.out (by simp [hd])
          clear hd hin hD
          go_simp
          exact hK _ _ ⟨updV xv 19 (.pointer (some ⟨b9, 6, none⟩)), by simp [updV, e18, e17], hb, hG.any gk.out g19.out _ rfl, hF32.step (fun _ h => h) (by decide) _, hF33.step (fun _ h => h) (by decide) _⟩
        · refine wpOp_step rfl (fun K' hK => ?_)
          simp [Region.binds] at hd
          have e19 : xv 19 = .pointer (some ⟨b9, 6, none⟩) := hG.get g19.out (by simp [hd])
          have e17 : xv 17 = .bool false := hG.get g17.out (by simp [hd])
          obtain ⟨c0, c1, c2, c3, c4, c5, c6, c7, c8⟩ := BY.out W hb
          clear hd hin hD
          go_simp
          exact hK _ _ ⟨updV xv 20 (.int .i64 (n : Int)), by simp [updV, e19, e17], hb, hG.any gk.out g20.out _ rfl, hF32.step (fun _ h => h) (by decide) _, hF33.step (fun _ h => h) (by decide) _⟩
        · refine wpOp_step rfl (fun K' hK => ?_)
          simp [Region.binds] at hd
          have e17 : xv 17 = .bool false := hG.get g17.out (by simp [hd])
          clear hd hin hD
          go_simp
          exact hK _ _ ⟨updV xv 21 (.pointer (some ⟨w.heap.size, 6, none⟩)), by simp [updV, e17], hb, hG.any gk.out g21.out _ rfl, hF32.step (fun _ h => h) (by decide) _, hF33.step (fun _ h => h) (by decide) _⟩
        · refine wpOp_step rfl (fun K' hK => ?_)
          simp [Region.binds] at hd
          have e21 : xv 21 = .pointer (some ⟨w.heap.size, 6, none⟩) := hG.get g21.out (by simp [hd])
          have e17 : xv 17 = .bool false := hG.get g17.out (by simp [hd])
          obtain ⟨c0, c1, c2, c3, c4, c5, c6, c7⟩ := BX.out W hb
          clear hd hin hD
          go_simp
          exact hK _ _ ⟨updV xv 22 (.slice ao n cap), by simp [updV, e21, e17], hb, hG.any gk.out g22.out _ rfl, hF32.step (fun _ h => h) (by decide) _, hF33.step (fun _ h => h) (by decide) _⟩
        · refine wpOp_step rfl (fun K' hK => ?_)
          simp [Region.binds] at hd
          have e22 : xv 22 = .slice ao n cap := hG.get g22.out (by simp [hd])
          have e17 : xv 17 = .bool false := hG.get g17.out (by simp [hd])
          clear hd hin hD
          go_simp
          exact hK _ _ ⟨updV xv 23 (.int .i64 (n : Int)), by simp [updV, e22, e17], hb, hG.any gk.out g23.out _ rfl, hF32.step (fun _ h => h) (by decide) _, hF33.step (fun _ h => h) (by decide) _⟩
        · refine wpOp_step rfl (fun K' hK => ?_)
          simp [Region.binds] at hd
          have e20 : xv 20 = .int .i64 (n : Int) := hG.get g20.out (by simp [hd])
          have e23 : xv 23 = .int .i64 (n : Int) := hG.get g23.out (by simp [hd])
          have e17 : xv 17 = .bool false := hG.get g17.out (by simp [hd])
          clear hd hin hD
          go_simp
          exact hK _ _ ⟨updV xv 24 (.bool false), by simp [updV, e20, e23, e17], hb, hG.any gk.out g24.out _ rfl, hF32.step (fun _ h => h) (by decide) _, hF33.step (fun _ h => h) (by decide) _⟩
        · refine wpOp_step rfl (fun K' hK => ?_)
          simp [Region.binds] at hd
          have e17 : xv 17 = .bool false := hG.get g17.out (by simp [hd])
          have e24 : xv 24 = .bool false := hG.get g24.out (by simp [hd])
          clear hd hin hD
          go_simp
          exact hK _ _ ⟨updV xv 25 (.bool false), by simp [updV, e17, e24], hb, hG.any gk.out g25.out _ rfl, hF32.step (fun _ h => h) (by decide) _, hF33.step (fun _ h => h) (by decide) _⟩
        · refine wpOp_step rfl (fun K' hK => ?_)
          simp [Region.binds] at hd
          have e25 : xv 25 = .bool false := hG.get g25.out (by simp [hd])
          clear hd hin hD
          go_simp
          exact hK _ _ ⟨updV xv 26 (.bool false), by simp [updV, e25], hb, hG.any gk.out g26.out _ rfl, hF32.step (fun _ h => h) (by decide) _, hF33.step (fun _ h => h) (by decide) _⟩
        · refine wpOp_step rfl (fun K' hK => ?_)
          simp [Region.binds] at hd
          have e26 : xv 26 = .bool false := hG.get g26.out (by simp [hd])
          clear hd hin hD
          go_simp
          exact hK _ _ ⟨updV xv 27 (.pointer (some ⟨b9, 8, none⟩)), by simp [updV, e26], hb, hG.any gk.out g27.out _ rfl, hF32.step (fun _ h => h) (by decide) _, hF33.step (fun _ h => h) (by decide) _⟩
        · refine wpOp_step rfl (fun K' hK => ?_)
          simp [Region.binds] at hd
          have e27 : xv 27 = .pointer (some ⟨b9, 8, none⟩) := hG.get g27.out (by simp [hd])
          have e26 : xv 26 = .bool false := hG.get g26.out (by simp [hd])
          obtain ⟨c0, c1, c2, c3, c4, c5, c6, c7, c8⟩ := BY.out W hb
          clear hd hin hD
          go_simp
          exact hK _ _ ⟨updV xv 28 (.slice (some ⟨q8, 0, none⟩) B B), by simp [updV, e27, e26], hb, hG.any gk.out g28.out _ rfl, hF32.step (fun _ h => h) (by decide) _, hF33.step (fun _ h => h) (by decide) _⟩
        · refine wpOp_step rfl (fun K' hK => ?_)
          simp [Region.binds] at hd
          have e28 : xv 28 = .slice (some ⟨q8, 0, none⟩) B B := hG.get g28.out (by simp [hd])
          have e26 : xv 26 = .bool false := hG.get g26.out (by simp [hd])
          have kr := K9.out W hb
          clear hd hin hD
          go_simp
          exact hK _ _ ⟨updV xv 29 (.string (str x)), by simp [updV, e28, e26], hb, hG.any gk.out g29.out _ rfl, hF32.step (fun _ h => h) (by decide) _, hF33.step (fun _ h => h) (by decide) _⟩
        · refine wpOp_step rfl (fun K' hK => ?_)
          simp [Region.binds] at hd
          have e26 : xv 26 = .bool false := hG.get g26.out (by simp [hd])
          clear hd hin hD
          go_simp
          exact hK _ _ ⟨updV xv 30 (Value.pointer (some { block := p, off := 0 })), by simp [updV, e26], hb, hG.any gk.out g30.out _ rfl, hF32.step (fun _ h => h) (by decide) _, hF33.step (fun _ h => h) (by decide) _⟩
        · refine wpOp_step rfl (fun K' hK => ?_)
          simp [Region.binds] at hd
          have e26 : xv 26 = .bool false := hG.get g26.out (by simp [hd])
          clear hd hin hD
          go_simp
          exact hK _ _ ⟨updV xv 31 (Value.int IntKind.u64 ↑id), by simp [updV, e26], hb, hG.any gk.out g31.out _ rfl, hF32.step (fun _ h => h) (by decide) _, hF33.step (fun _ h => h) (by decide) _⟩
        · refine wpOp_step rfl (fun K' hK => ?_)
          simp [Region.binds] at hd
          have e30 : xv 30 = Value.pointer (some { block := p, off := 0 }) := hG.get g30.out (by simp [hd])
          have e31 : xv 31 = Value.int IntKind.u64 ↑id := hG.get g31.out (by simp [hd])
          have e26 : xv 26 = .bool false := hG.get g26.out (by simp [hd])
          clear hd hin hD
          go_simp
          refine (C4.out W hb).mono ?_
          rintro e w' ⟨v, rfl, hv, hb'⟩
          go_wp2_with fail
          exact ⟨updV xv 32 v, by simp [updV, e30, e31, e26], JS.out _ _ hb' hb, hG.any gk.out g32.out v trivial, Fe.new (hv), hF33.on st33.out hb' (by decide) _⟩
        · refine wpOp_step rfl (fun K' hK => ?_)
          simp [Region.binds] at hd
          have l32 : listed.getD 32 false = true := by simp [hd]
          have m32 := hF32 l32
          have e26 : xv 26 = .bool false := hG.get g26.out (by simp [hd])
          clear hd hin hD
          obtain ⟨q32, e32, -, k32⟩ := m32
          have hfd := HF.out q32
          go_simp
          exact hK _ _ ⟨updV xv 33 (.slice (some ⟨q32, 0, none⟩) B B), by simp [updV, e32, e26], hb, hG.any gk.out g33.out _ trivial, hF32.step (fun _ h => h) (by decide) _, Fe.new (k32.bs0 B B XL.out.symm (Nat.le_refl _) (by unfold maxLen; omega))⟩
        · refine wpOp_step rfl (fun K' hK => ?_)
          simp [Region.binds] at hd
          have l33 : listed.getD 33 false = true := by simp [hd]
          have m33 := hF33 l33
          have e26 : xv 26 = .bool false := hG.get g26.out (by simp [hd])
          have kr := conv_bytes m33
          clear hd hin hD
          go_simp
          exact hK _ _ ⟨updV xv 34 (.string (str x)), by simp [updV, e26], hb, hG.any gk.out g34.out _ rfl, hF32.step (fun _ h => h) (by decide) _, hF33.step (fun _ h => h) (by decide) _⟩
        · refine wpOp_step rfl (fun K' hK => ?_)
          simp [Region.binds] at hd
          have e29 : xv 29 = .string (str x) := hG.get g29.out (by simp [hd])
          have e34 : xv 34 = .string (str x) := hG.get g34.out (by simp [hd])
          have e26 : xv 26 = .bool false := hG.get g26.out (by simp [hd])
          clear hd hin hD
          go_simp
          exact hK _ _ ⟨updV xv 35 (.bool false), by simp [updV, e29, e34, e26], hb, hG.any gk.out g35.out _ rfl, hF32.step (fun _ h => h) (by decide) _, hF33.step (fun _ h => h) (by decide) _⟩
        · refine wpOp_step rfl (fun K' hK => ?_)
          simp [Region.binds] at hd
          have e26 : xv 26 = .bool false := hG.get g26.out (by simp [hd])
          have e35 : xv 35 = .bool false := hG.get g35.out (by simp [hd])
          clear hd hin hD
          go_simp
          exact hK _ _ ⟨updV xv 36 (.bool false), by simp [updV, e26, e35], hb, hG.any gk.out g36.out _ rfl, hF32.step (fun _ h => h) (by decide) _, hF33.step (fun _ h => h) (by decide) _⟩
      · rintro listed ac W ⟨xv, rfl, hb, hG, hF32, hF33⟩ hall
        have e36 : xv 36 = .bool false := hG.get g36.out (hall 36 (by decide))
        have XW : Hid ((fun W => Below w9.heap.size w9 W) W) := hb
        clear hall hG hb gk JS g0 g1 g2 g3 g4 g5 g6 g7 g8 g9 g10 g11 g12 g13 g14 g15 g16 g17 g18 g19 g20 g21 g22 g23 g24 g25 g26 g27 g28 g29 g30 g31 g32 g33 g34 g35 g36 hF32 st32 hF33 st33
        rw [e36]
        clear e36
        have BN : Hid (Below w6.heap.size w6 W) := on_below BB.out (on_below B9.out XW.out)
        clear BB B9 XW BX BY K9 C4 HF FR
        go_wp2
        go_roundw
        case rel => exact ⟨i + 1, by omega, by go_num, BN⟩
        case measure => simp [intOf]; omega
    · have hltI : ¬ (i : Int) < (m : Int) := by omega
      obtain ⟨w7, hw7⟩ : ∃ x, x = wr := ⟨_, rfl⟩
      subst hw7
      have B7 : Hid (Below w.heap.size w w7) := on_below B6.out BB.out
      have F7 : Hid (CaseC w7 w.heap.size N B Q E F S (.slice ao n cap) (.slice io m icap)) := F6.out.below BB.out
      have E7 : Hid (Enc q0 w7 p S N B Q E F n (N + A) D) := E6.out.below BB.out
      have S7 : Hid (Sl 1 w7 (.slice a5 (N + A) k5) vs.length vs ∧ Parts w7 vs D) := ⟨by rw [V5.out]; exact S6.out.1.below BB.out, S6.out.2.below BB.out⟩
      clear BB E6 F6 S6 C6
      obtain ⟨al, hal⟩ : ∃ al, xorAll (zeros B) D = al := ⟨_, rfl⟩
      have AL : Hid (al.length = B) := by unfold Hid; rw [← hal, xorAll_length (by rw [zeros_length]; exact DM.out), zeros_length]
      have CS : Hid (Calls Try.prog 35 #[.int .i64 B, .slice a5 (N + A) k5] w7 fun e w' => ∃ q, e = .returned (.tuple #[.slice (some ⟨q, 0, none⟩) B B, .bool true]) ∧ Blk w' q [] al [] ∧ Below w7.heap.size w7 w') := by
        have := sum_yes B _ vs D w7 (by omega) S7.out.1 S7.out.2 (fitB_of DM.out)
        rw [hal] at this
        refine this.mono ?_
        rintro e w' ⟨rfl, h1, h2⟩
        exact ⟨_, rfl, h1, h2⟩
      clear hal
      obtain ⟨c0, c1, c2, c3, c4, c5, c6, c7⟩ := F7.out
      go_wp2_with fail
      refine CS.out.mono ?_
      rintro e w8 ⟨q8, rfl, hk8, hb⟩
      have B8 : Hid (Below w.heap.size w w8) := on_below B7.out hb
      have F8 : Hid (CaseC w8 w.heap.size N B Q E F S (.slice ao n cap) (.slice io m icap)) := F7.out.below hb
      have E8 : Hid (Enc q0 w8 p S N B Q E F n (N + A) D) := E7.out.below hb
      have S8 : Hid (Sl 1 w8 (.slice a5 (N + A) k5) vs.length vs ∧ Parts w8 vs D) := ⟨S7.out.1.below hb, S7.out.2.below hb⟩
      have A8 : Hid (Bs w8 (.slice (some ⟨q8, 0, none⟩) B B) al) := hk8.bs0 B B AL.out.symm (Nat.le_refl _) (by unfold maxLen; omega)
      clear hk8 hb CS E7 F7 S7 B7 c0 c1 c2 c3 c4 c5 c6 c7
      go_wp2
      go_loopw [179] (fun jv wr => ∃ j : Nat, j ≤ N + A ∧ jv = .int .i64 j ∧ Hid (Below w8.heap.size w8 wr)) (fun jv _ => N + A - (intOf jv).toNat)
      case atStart => exact ⟨0, by omega, rfl, Below.refl _ _⟩
      case round =>
        obtain ⟨j, hj, rfl, BB⟩ := hrel
        by_cases hjl : j < N + A
        · have hjI : (j : Int) < (N : Int) + (A : Int) := by omega
          have hjD : j < D.length := by rw [DL.out]; exact hjl
          obtain ⟨x, hx⟩ : ∃ x, D[j]? = some x := ⟨_, List.getElem?_eq_getElem hjD⟩
          have hxB : x.length = B := DM.out x (List.mem_of_getElem? hx)
          have hsl : Sl 1 wr (.slice a5 (N + A) k5) (N + A) vs := by have := S8.out.1.below BB.out; rw [V5.out] at this; exact this
          obtain ⟨bb, o, rfl, u, hu, ck⟩ := hsl.at_addr hjl
          have hbs := (S8.out.2.below BB.out).2 j u x hu hx
          obtain ⟨qb, db, rfl⟩ : ∃ q d, u = .slice q B d := by obtain ⟨-, q, d, h, -⟩ := hbs; exact ⟨q, d, by rw [h, hxB]⟩
          have HB : Hid (Bs wr (.slice qb B db) x) := hbs
          have XL : Hid (x.length = B) := hxB
          have CC : Hid (∀ W, Below wr.heap.size wr W → Calls Try.prog 28 #[.pointer (some ⟨p, 0, none⟩), .int .i64 j] W fun e w' => ∃ v, e = .returned v ∧ IsBs x v w' ∧ Below W.heap.size W w') := by
            intro W hW
            refine (ecomp_yes _ p S N B Q E F n (N + A) j D x W (E8.out.below (on_below BB.out hW)) (by omega) hx hxB).mono ?_
            rintro e w' ⟨q, rfl, -, h1, h2⟩
            exact ⟨_, rfl, h1.bs0 B B hxB.symm (Nat.le_refl _) (by unfold maxLen; omega), h2⟩
          have KB : Hid (∀ W, Below wr.heap.size wr W → (convert 25 9 (.slice qb B db)).run Try.prog W = .ok (.string (str x)) W) := fun W hW => conv_bytes (HB.out.below hW)
          clear hx hxB hu hbs hjD hsl
          go_upto_region 23 with fail
          refine wp_region_any (by kernel_rfl) ?_
          obtain ⟨gs, hgs⟩ : ∃ gs : List (Value → World → Prop), gs = [IsV (Value.pointer (some { block := p, off := 0 })), IsV (Value.int IntKind.i64 ↑j), IsBs x, IsV (.string (str x)), IsV (Value.slice qb B db), IsV (.string (str x)), IsV (.bool false)] := ⟨_, rfl⟩
          have g0 : Hid (gs[0]? = some (IsV (Value.pointer (some { block := p, off := 0 })))) := by unfold Hid; rw [hgs]; rfl
          have g1 : Hid (gs[1]? = some (IsV (Value.int IntKind.i64 ↑j))) := by unfold Hid; rw [hgs]; rfl
          have g2 : Hid (gs[2]? = some (IsBs x)) := by unfold Hid; rw [hgs]; rfl
          have g3 : Hid (gs[3]? = some (IsV (.string (str x)))) := by unfold Hid; rw [hgs]; rfl
          have g4 : Hid (gs[4]? = some (IsV (Value.slice qb B db))) := by unfold Hid; rw [hgs]; rfl
          have g5 : Hid (gs[5]? = some (IsV (.string (str x)))) := by unfold Hid; rw [hgs]; rfl
          have g6 : Hid (gs[6]? = some (IsV (.bool false))) := by unfold Hid; rw [hgs]; rfl
          have gk : Hid (∀ p ∈ gs, Stays p) := by
            unfold Hid
            rw [hgs]
            simp only [List.forall_mem_cons]
            exact ⟨stays_v _, stays_v _, stays_bs _, stays_v _, stays_v _, stays_v _, stays_v _, by simp⟩
          clear hgs
          refine wpAny_inv (fun listed ac Wb => ∃ xvb : Nat → Value, ac = ⟨#[Value.agg #[Value.int IntKind.i64 ↑N, Value.int IntKind.i64 ↑B, Value.int IntKind.i64 ↑Q, Value.int IntKind.i64 ↑E, Value.int IntKind.i64 ↑F, Value.int IntKind.u64 ↑S, Value.slice ao n cap, Value.slice io m icap], Value.pointer (some { block := w.heap.size, off := 0 }), u2, Value.pointer (some { block := p, off := 0 }), Value.int IntKind.i64 (0 : Int), Value.slice (some { block := bb, off := o }) (N + A) k5, Value.int IntKind.i64 (0 : Int), Value.pointer (some { block := co, off := 0 }), u8, u9, u10, u11, Value.slice (some { block := q8, off := 0 }) B B, Value.bool true, Value.int IntKind.i64 ↑j, Value.slice qb B db, u16, Value.tuple #[Value.pointer (some { block := p1, off := 0 }), Value.int IntKind.i64 (0 : Int)], Value.agg #[Value.int IntKind.i64 (1 : Int), Value.int IntKind.i64 (1 : Int), Value.int IntKind.i64 (1 : Int), Value.int IntKind.i64 (1000 : Int), Value.int IntKind.i64 (2 : Int)], Value.slice (some { block := w0.heap.size, off := 0 }) 1 1, Value.tuple #[Value.pointer (some { block := p1, off := 0 }), Value.int IntKind.i64 (0 : Int)], Value.pointer (some { block := p1, off := 0 }), Value.int IntKind.i64 (0 : Int), Value.int IntKind.i64 (0 : Int), Value.bool false, Value.bool false, Value.pointer (some { block := p1, off := 0 }), Value.bool false, Value.bool false, Value.bool false, Value.pointer (some { block := p1, off := 0 }), Value.slice (some { block := q2, off := 0 }) 43 43, Value.int IntKind.i64 (43 : Int), Value.bool false, Value.bool false, Value.pointer (some { block := w.heap.size, off := 0 }), Value.agg #[Value.int IntKind.i64 ↑N, Value.int IntKind.i64 ↑B, Value.int IntKind.i64 ↑Q, Value.int IntKind.i64 ↑E, Value.int IntKind.i64 ↑F], Value.bool true, Value.bool false, Value.bool false, Value.pointer (some { block := w.heap.size, off := 0 }), Value.pointer (some { block := w.heap.size, off := 0 }), Value.int IntKind.i64 ↑N, Value.bool (decide ((40 : Int) < ↑N)), Value.bool (decide ((40 : Int) < ↑N)), Value.bool (decide ((40 : Int) < ↑N)), Value.pointer (some { block := w.heap.size, off := 0 }), Value.pointer (some { block := w.heap.size, off := 1 }), Value.int IntKind.i64 ↑B, Value.bool (decide ((40 : Int) < ↑B)), Value.bool (decide ((40 : Int) < ↑N) || decide ((40 : Int) < ↑B)), Value.bool (decide ((40 : Int) < ↑N) || decide ((40 : Int) < ↑B)), Value.pointer (some { block := w.heap.size, off := 0 }), Value.pointer (some { block := w.heap.size, off := 4 }), Value.int IntKind.i64 ↑F, Value.bool (decide ((200 : Int) < ↑F)), Value.bool (decide ((40 : Int) < ↑N) || decide ((40 : Int) < ↑B) || decide ((200 : Int) < ↑F)), Value.bool (decide ((40 : Int) < ↑N) || decide ((40 : Int) < ↑B) || decide ((200 : Int) < ↑F)), Value.pointer (some { block := w.heap.size, off := 6 }), Value.slice ao n cap, Value.int IntKind.i64 ↑n, Value.pointer (some { block := w.heap.size, off := 0 }), Value.pointer (some { block := w.heap.size, off := 0 }), Value.int IntKind.i64 ↑N, Value.pointer (some { block := w.heap.size, off := 0 }), Value.pointer (some { block := w.heap.size, off := 1 }), Value.int IntKind.i64 ↑B, Value.int IntKind.i64 ↑P, Value.bool false, Value.bool (decide ((40 : Int) < ↑N) || decide ((40 : Int) < ↑B) || decide ((200 : Int) < ↑F)), Value.bool (decide ((40 : Int) < ↑N) || decide ((40 : Int) < ↑B) || decide ((200 : Int) < ↑F)), Value.pointer (some { block := w.heap.size, off := 7 }), Value.slice io m icap, Value.int IntKind.i64 ↑m, Value.bool (decide ((20 : Int) < ↑m)), Value.bool (decide ((40 : Int) < ↑N) || decide ((40 : Int) < ↑B) || decide ((200 : Int) < ↑F) || decide ((20 : Int) < ↑m)), Value.tuple #[Value.pointer (some { block := p, off := 0 }), Value.int IntKind.i64 (0 : Int)], Value.pointer (some { block := w.heap.size, off := 0 }), Value.agg #[Value.int IntKind.i64 ↑N, Value.int IntKind.i64 ↑B, Value.int IntKind.i64 ↑Q, Value.int IntKind.i64 ↑E, Value.int IntKind.i64 ↑F], Value.pointer (some { block := w.heap.size, off := 5 }), Value.int IntKind.u64 ↑S, Value.pointer (some { block := w.heap.size, off := 6 }), Value.slice ao n cap, Value.tuple #[Value.pointer (some { block := p, off := 0 }), Value.int IntKind.i64 (0 : Int)], Value.pointer (some { block := p, off := 0 }), Value.int IntKind.i64 (0 : Int), Value.tuple #[Value.slice (some { block := bb, off := o }) (N + A) k5, Value.int IntKind.i64 (0 : Int)], Value.pointer (some { block := w.heap.size, off := 0 }), Value.agg #[Value.int IntKind.i64 ↑N, Value.int IntKind.i64 ↑B, Value.int IntKind.i64 ↑Q, Value.int IntKind.i64 ↑E, Value.int IntKind.i64 ↑F], Value.pointer (some { block := w.heap.size, off := 5 }), Value.int IntKind.u64 ↑S, Value.pointer (some { block := w.heap.size, off := 6 }), Value.slice ao n cap, Value.tuple #[Value.slice (some { block := bb, off := o }) (N + A) k5, Value.int IntKind.i64 (0 : Int)], Value.slice (some { block := bb, off := o }) (N + A) k5, Value.int IntKind.i64 (0 : Int), Value.int IntKind.i64 (0 : Int), Value.bool false, Value.bool false, Value.int IntKind.i64 (0 : Int), Value.bool false, Value.bool false, Value.bool false, Value.pointer (some { block := p, off := 0 }), Value.bool false, Value.bool false, Value.pointer (some { block := co, off := 0 }), Value.pointer (some { block := w.heap.size, off := 7 }), Value.slice io m icap, Value.int IntKind.i64 ↑m, Value.int IntKind.i64 ↑i, Value.bool false, u112, u113, u114, u115, u116, u117, u118, u119, u120, u121, u122, u123, u124, u125, u126, u127, u128, u129, u130, u131, u132, u133, u134, u135, u136, u137, u138, u139, u140, u141, u142, u143, u144, u145, u146, u147, u148, u149, u150, u151, u152, u153, u154, u155, u156, u157, u158, u159, u160, u161, u162, u163, u164, u165, u166, u167, u168, Value.tuple #[Value.slice (some { block := q8, off := 0 }) B B, Value.bool true], Value.pointer (some { block := w.heap.size, off := 0 }), Value.pointer (some { block := w.heap.size, off := 1 }), Value.int IntKind.i64 ↑B, Value.slice (some { block := bb, off := o }) (N + A) k5, Value.tuple #[Value.slice (some { block := q8, off := 0 }) B B, Value.bool true], Value.slice (some { block := q8, off := 0 }) B B, Value.bool true, Value.slice (some { block := bb, off := o }) (N + A) k5, Value.int IntKind.i64 (↑N + ↑A), Value.int IntKind.i64 ↑j, Value.bool true, Value.int IntKind.i64 ↑j, Value.pointer (some { block := bb, off := o + j }), Value.slice qb B db, xvb 0, xvb 1, xvb 2, xvb 3, xvb 4, xvb 5, xvb 6, u191, u192, u193, u194, u195, u196, u197, u198, u199, u200, u201, u202, u203, u204, u205, u206, u207, undef, undef, undef, undef, undef, undef, undef, undef, undef, undef, undef, undef], []⟩ ∧ Below wr.heap.size wr Wb ∧ Lst gs listed xvb Wb) (by kernel_rfl) ?_ ?_ _ _ _ _ (by kernel_rfl) (of_decide_eq_true (by kernel_rfl)) ⟨fun j => if j = 0 then u184 else if j = 1 then u185 else if j = 2 then u186 else if j = 3 then u187 else if j = 4 then u188 else if j = 5 then u189 else if j = 6 then u190 else undef, rfl, below0 _, Lst.start _ _ _ _⟩
          · rintro listed ac Wb ⟨xvb, rfl, hb, hG⟩ i hi hd
            have hin : i < 7 := hi
            clear hi
            have hcase : i = 0 ∨ i = 1 ∨ i = 2 ∨ i = 3 ∨ i = 4 ∨ i = 5 ∨ i = 6 := by omega
            rcases hcase with rfl | rfl | rfl | rfl | rfl | rfl | rfl
            · refine wpOp_step rfl (fun K' hK => ?_)
              clear hd hin
              go_simp
              exact hK _ _ ⟨updV xvb 0 (Value.pointer (some { block := p, off := 0 })), by simp [updV], hb, hG.same gk.out g0.out _ rfl⟩
            · refine wpOp_step rfl (fun K' hK => ?_)
              clear hd hin
              go_simp
              exact hK _ _ ⟨updV xvb 1 (Value.int IntKind.i64 ↑j), by simp [updV], hb, hG.same gk.out g1.out _ rfl⟩
            · refine wpOp_step rfl (fun K' hK => ?_)
              simp [Region.binds] at hd
              have e0 : xvb 0 = Value.pointer (some { block := p, off := 0 }) := hG.get g0.out (by simp [hd])
              have e1 : xvb 1 = Value.int IntKind.i64 ↑j := hG.get g1.out (by simp [hd])
              clear hd hin
              go_simp
              refine (CC.out Wb hb).mono ?_
              rintro e w' ⟨v, rfl, hv, hb'⟩
              go_wp2_with fail
              exact ⟨updV xvb 2 v, by simp [updV, e0, e1], hb.trans (hb'.mono hb.size), hG.step gk.out hb' g2.out v hv⟩
            · refine wpOp_step rfl (fun K' hK => ?_)
              simp [Region.binds] at hd
              have m2 : IsBs x (xvb 2) Wb := hG.get g2.out (by simp [hd])
              have kr := conv_bytes m2
              clear hd hin
              go_simp
              exact hK _ _ ⟨updV xvb 3 (.string (str x)), by simp [updV], hb, hG.same gk.out g3.out _ rfl⟩
            · refine wpOp_step rfl (fun K' hK => ?_)
              clear hd hin
              go_simp
              exact hK _ _ ⟨updV xvb 4 (Value.slice qb B db), by simp [updV], hb, hG.same gk.out g4.out _ rfl⟩
            · refine wpOp_step rfl (fun K' hK => ?_)
              simp [Region.binds] at hd
              have e4 : xvb 4 = Value.slice qb B db := hG.get g4.out (by simp [hd])
              have kr := KB.out Wb hb
              clear hd hin
              go_simp
              exact hK _ _ ⟨updV xvb 5 (.string (str x)), by simp [updV, e4], hb, hG.same gk.out g5.out _ rfl⟩
            · refine wpOp_step rfl (fun K' hK => ?_)
              simp [Region.binds] at hd
              have e3 : xvb 3 = .string (str x) := hG.get g3.out (by simp [hd])
              have e5 : xvb 5 = .string (str x) := hG.get g5.out (by simp [hd])
              clear hd hin
              go_simp
              exact hK _ _ ⟨updV xvb 6 (.bool false), by simp [updV, e3, e5], hb, hG.same gk.out g6.out _ rfl⟩
          · rintro listed ac Wb ⟨xvb, rfl, hb, hG⟩ hall
            have e6 : xvb 6 = .bool false := hG.get g6.out (hall 6 (by decide))
            have XW : Hid (Below wr.heap.size wr Wb) := hb
            clear hall hG hb gk g0 g1 g2 g3 g4 g5 g6
            rw [e6]
            clear e6
            have B9 : Hid (Below wr.heap.size wr Wb) := XW.out
            obtain ⟨w9, hw9⟩ : ∃ w9, w9 = Wb := ⟨_, rfl⟩
            subst hw9
            have A9 : Hid (Bs w9 (.slice (some ⟨q8, 0, none⟩) B B) al) := A8.out.below (on_below BB.out B9.out)
            have H9 : Hid (Bs w9 (.slice qb B db) x) := HB.out.below B9.out
            clear XW CC KB
            go_upto_region 26 with (at_builtin; refine wpList_copy w9 rfl (.tmp 191) (.tmp 192) rfl al (.slice (some ⟨q8, 0, none⟩) B B) _ rfl rfl rfl A9.out (by rw [AL.out]; omega) ?_; intro q3 c3 w10 hown hb10; obtain ⟨qa, ca, pa, e3, hqa, hka, hlo, hcm, hca⟩ := hown; subst hca; rw [e3]; clear e3)
            rw [AL.out] at hcm ⊢
            have B10 : Hid (Below wr.heap.size wr w10) := on_below B9.out hb10
            have K10 : Hid (Blk w10 qa [] al pa) := hka
            have C10 : Hid (B + pa.length ≤ maxLen) := hcm
            have Q10 : Hid (w9.heap.size ≤ qa) := hqa
            have H10 : Hid (Bs w10 (.slice qb B db) x) := H9.out.below hb10
            have A10 : Hid (Bs w10 (.slice (some ⟨q8, 0, none⟩) B B) al) := A9.out.below hb10
            have OX : Hid (Off qa (.slice qb B db)) := H9.out.off_new hqa
            have OA : Hid (Off qa (.slice (some ⟨q8, 0, none⟩) B B)) := A9.out.off_new hqa
            clear hqa hka hlo hcm hb10 A9 H9 HB
            have HXR : Hid (∀ r W, Below w10.heap.size w10 W → Sl 1 W (.slice (some ⟨r, 0, none⟩) 2 2) 2 [.slice qb B db, .slice qb B db] → w10.heap.size ≤ r → Calls Try.prog 36 #[.slice (some ⟨qa, 0, none⟩) B (B + pa.length), .slice (some ⟨r, 0, none⟩) 2 2] W fun e w' => e = .returned (.bool true) ∧ Blk w' qa [] al pa ∧ W.grownBy w' (some qa)) := by
              intro r W hW hsl hr
              have := xor_yes qa (B + pa.length) [] pa al (.slice (some ⟨r, 0, none⟩) 2 2) [.slice qb B db, .slice qb B db] [x, x] W (K10.out.below hW) (by rw [AL.out]; omega) C10.out hsl (parts_two (H10.out.below hW) (H10.out.below hW)) (by intro a n c h; injection h with h1 _ _; injection h1 with h1; right; rw [← h1]; have := K10.out.lt; show r ≠ qa; omega) (by intro v hv; simp at hv; rw [hv]; exact OX.out) (fitB_of (by intro y hy; simp at hy; rw [hy, XL.out, AL.out]))
              rw [AL.out] at this
              have ex : xorAll al [x, x] = al := xorL_twice (by rw [XL.out, AL.out])
              rw [ex] at this
              refine this.mono ?_
              rintro e w' ⟨rfl, h1, h2, -⟩
              exact ⟨rfl, h1, h2⟩
            go_wp2_with fail
            refine (HXR.out _ _ (below_alloc _ _) (Sl.lit _ [.slice qb B db, .slice qb B db] _ _ _ rfl rfl (by simp)) (Nat.le_refl _)).mono ?_
            rintro e w11 ⟨rfl, hk, hg⟩
            have BU : Hid (Below w10.heap.size w10 (w10.alloc (.cells #[.slice qb B db, .slice qb B db] 25))) := below_alloc _ _
            have B11 : Hid (Below wr.heap.size wr w11) := below_grown (on_below B10.out BU.out) hg (on_below B10.out BU.out).size (by have := B9.out.size; have := Q10.out; omega)
            have A11 : Hid (Bs w11 (.slice (some ⟨q8, 0, none⟩) B B) al) := (A10.out.below BU.out).off OA.out hg
            have k1 := conv_bytes (hk.bs0 B (B + pa.length) AL.out.symm (by omega) C10.out)
            have k2 := conv_bytes A11.out
            have BN : Hid (Below w8.heap.size w8 w11) := on_below BB.out B11.out
            clear hk hg HXR BU B11 A11 A10 H10 K10 OX OA Q10 C10 B10 B9 BB
            go_wp2
            go_roundw
            case rel => exact ⟨j + 1, by omega, by go_num, BN⟩
            case measure => simp [intOf]; omega
        · have hjI : ¬ (j : Int) < (N : Int) + (A : Int) := by omega
          have BE : Hid (Below w.heap.size w wr) := on_below B8.out BB.out
          have FE : Hid (CaseC wr w.heap.size N B Q E F S (.slice ao n cap) (.slice io m icap)) := F8.out.below BB.out
          have CR : Hid (Calls Try.prog 18 #[.agg #[.int .i64 (N : Int), .int .i64 (B : Int), .int .i64 (Q : Int), .int .i64 (E : Int), .int .i64 (F : Int)], .int .u64 (S : Int), .int .i64 n, .slice a5 (N + A) k5] wr fun e w' => e = .returned (.bool true) ∧ Below wr.heap.size wr w') := by
            refine (cright_any N B Q A S E F n _ vs D wr PR.out HS.out (by omega) (by omega) (S8.out.1.below BB.out) (S8.out.2.below BB.out)).mono ?_
            rintro e w' ⟨⟨b, rfl, hb⟩, hx⟩
            obtain rfl : b = true := hb.2 RC.out
            exact ⟨rfl, hx⟩
          clear BB E8 F8 S8 A8
          obtain ⟨c0, c1, c2, c3, c4, c5, c6, c7⟩ := FE.out
          go_wp2_with fail
          refine CR.out.mono ?_
          rintro e w9 ⟨rfl, hb⟩
          have B9 : Hid (Below w.heap.size w w9) := on_below BE.out hb
          clear hb CR BE FE c0 c1 c2 c3 c4 c5 c6 c7
          go_wp2
          go_ret
          exact ⟨rfl, B9.out⟩

theorem wholePackets_law (N B Q E F S : Int) (ov : Value) (l : List UInt8) (iv : Value) (il : List Int) (w : World) (h : (Lit.int .u64 S).wf = true ∧ Bs w ov l ∧ Sl 1 w iv il.length (il.map (Value.int .u64)) ∧ ∀ z ∈ il, (Lit.int .u64 z).wf = true) :
    Calls Try.prog 11 #[.agg #[.int .i64 N, .int .i64 B, .int .i64 Q, .int .i64 E, .int .i64 F, .int .u64 S, ov, iv]] w fun e w' => e = .returned (.bool true) ∧ Below w.heap.size w w' := by
  obtain ⟨hS, ho, hi, hk⟩ := h
  simp [Lit.wf, IntKind.min, IntKind.max, IntKind.bits, IntKind.signed] at hS
  obtain ⟨s, rfl⟩ : ∃ s : Nat, S = s := ⟨S.toNat, by omega⟩
  obtain ⟨ids, hs⟩ := us_of hi hk
  exact wholePackets_walk N B Q E F s ov l iv ids w (by omega) ho hs

end Go.Proofs.Ytehpbnakdadedaa
