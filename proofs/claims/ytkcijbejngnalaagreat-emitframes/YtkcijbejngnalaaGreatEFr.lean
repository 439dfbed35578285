/-
  EmitFrames.
-/
import Derived.Test.YtkcijbejngnalaaGreatEmR
import Derived.Test.YtkcijbejngnalaaGreatEBlks
import Derived.RegionTactic
import Derived.Deep.Light
namespace Go.Proofs.YtkcijbejngnalaaGreat
open Go.RowKit
set_option linter.unusedVariables false

theorem own_setB {w : World} {B g n cap j : Nat} {l : List UInt8} (h : OwB B w (.slice (some ⟨g, 0, none⟩) n cap) n l) (x : UInt8) : OwB B (w.setCell ⟨g, j, none⟩ (.int .u8 (x.toNat : Int))) (.slice (some ⟨g, 0, none⟩) n cap) n (l.set j x) := by
  obtain ⟨h1, h2⟩ := h
  refine ⟨by simpa using h1, ?_⟩
  rcases h2 with ⟨h2, -⟩ | ⟨g', cap', cur, hv, hg, hh, hnc, hcm, hcs, htake⟩
  · cases h2
  · injection hv with e1 e2 e3
    injection e1 with e1
    injection e1 with e1 e4 e5
    subst e1
    subst e3
    refine .inr ⟨g, cap, cur.setIfInBounds j (.int .u8 (x.toNat : Int)), rfl, hg, ?_, hnc, hcm, by simpa using hcs, ?_⟩
    · unfold World.setCell
      simp [Array.getElem?_modify, hh]
    · rw [Array.toList_setIfInBounds, List.take_set, htake, List.map_set]
      rfl
theorem own_fr {w : World} {B g n cap : Nat} {l : List UInt8} (h : OwB B w (.slice (some ⟨g, 0, none⟩) n cap) n l) (j : Nat) : w.frozen? ⟨g, j, none⟩ = false := by
  rcases h.2 with ⟨h2, -⟩ | ⟨g', cap', cur, hv, hg, hh, -⟩
  · cases h2
  · injection hv with e1 e2 e3
    injection e1 with e1
    injection e1 with e1 e4 e5
    subst e1
    simp [World.frozen?, hh]
theorem u8_next (y : UInt8) : ((y.toNat : Int) + 1) % 256 = ((y + 1).toNat : Int) := by
  rw [UInt8.toNat_add]
  simp

set_option maxRecDepth 100000 in
set_option maxHeartbeats 8000000 in
theorem emitFrames_walk (N B Q E F : Int) (S : Nat) (ov : Value) (l : List UInt8) (iv : Value) (ids : List Nat) (w : World) (hS : S < 18446744073709551616) (ho : Bs w ov l) (hi : Us w iv ids) :
    Calls Tryz.prog 3 #[.agg #[.int .i64 N, .int .i64 B, .int .i64 Q, .int .i64 E, .int .i64 F, .int .u64 (S : Int), ov, iv]] w fun e w' => e = .returned (.bool true) ∧ Below w.heap.size w w' := by
  have HO : Hid (Bs w ov l) := ho
  have HS : Hid (S < 18446744073709551616) := hS
  have HU : Hid (Us w iv ids) := hi
  obtain ⟨⟨-, io, icap, rfl, hi2, hi3, -, -⟩, -⟩ := hi
  obtain ⟨-, ao, cap, rfl, h2, h3, -, -⟩ := ho
  unfold maxLen at h3 hi3
  obtain ⟨n, hn⟩ : ∃ n, l.length = n := ⟨_, rfl⟩
  obtain ⟨m, hm⟩ : ∃ m, ids.length = m := ⟨_, rfl⟩
  rw [hn] at h2 HO ⊢
  rw [hm] at hi2 HU ⊢
  have HL : Hid (l.length = n) := hn
  have HM : Hid (ids.length = m) := hm
  clear hn hm hS
  go_enter Tryz.func3, Tryz.ntmps3
  go_wp2_with fail
  refine (speaks14_any _).mono ?_
  rintro e w1 ⟨rfl, hb⟩
  have B1 : Hid (Below w.heap.size w w1) := on_below (below_alloc _ _) hb
  have F1 : Hid (CaseC w1 w.heap.size N B Q E F S (.slice ao n cap) (.slice io m icap)) := (case_new w _ N B Q E F S _ _).below hb
  clear hb
  obtain ⟨c0, c1, c2, c3, c4, c5, c6, c7⟩ := F1.out
  have hsz : w.heap.size < w1.heap.size := cell_block_lt c0
  go_wp2_with fail
  go_region
  have B2 : Hid (Below w.heap.size w (w1.alloc (.cells #[.int .i64 N, .int .i64 B, .int .i64 Q, .int .i64 E, .int .i64 F] 23)).drew) := on_below (on_below B1.out (below_alloc _ _)) (below0 _)
  have P2 : Hid (Five (w1.alloc (.cells #[.int .i64 N, .int .i64 B, .int .i64 Q, .int .i64 E, .int .i64 F] 23)).drew w1.heap.size N B Q E F) := (five_new w1 _ N B Q E F).below (below0 _)
  obtain ⟨w2, hw2⟩ : ∃ W, (w1.alloc (.cells #[.int .i64 N, .int .i64 B, .int .i64 Q, .int .i64 E, .int .i64 F] 23)).drew = W := ⟨_, rfl⟩
  rw [hw2] at B2 P2 ⊢
  clear hw2 B1 F1 c0 c1 c2 c3 c4 c5 c6 c7 hsz
  generalize w1.heap.size = b0 at *
  obtain ⟨c0, c1, c2, c3, c4⟩ := P2.out
  by_cases hm20 : 20 < m
  · go_wp2
    go_ret
    exact ⟨rfl, B2.out⟩
  by_cases hn4 : 4000 < n
  · go_wp2
    go_ret
    exact ⟨rfl, B2.out⟩
  by_cases hN6 : N > 60
  · go_wp2
    go_ret
    exact ⟨rfl, B2.out⟩
  by_cases hB6 : B > 60
  · go_wp2
    go_ret
    exact ⟨rfl, B2.out⟩
  have hm20I : ¬ (20 : Int) < (m : Int) := by omega
  have hn4I : ¬ (4000 : Int) < (n : Int) := by omega
  have B2' : Hid (Below w.heap.size w w2) := B2.out
  have hb02 : Hid (b0 < w2.heap.size) := cell_block_lt c0
  by_cases hF2 : F > 200
  · as_aux_lemma =>
      by_cases hF4 : F ≤ 4096
      · go_wp2
        go_ret
        exact ⟨rfl, B2.out⟩
      · have hm : ¬ May N B Q E F := fun h => by have := h.2.2.2.2.1; omega
        have hsz2 : b0 < w2.heap.size := cell_block_lt c0
        have SLo : Hid (∀ W, Below w2.heap.size w2 W → Sl 1 W (.slice ao n cap) n (l.map bv)) := by
          intro W hW
          have := HO.out.below (on_below B2.out hW)
          unfold Bs at this
          rw [HL.out] at this
          exact this
        go_upto_region 7 with (at_builtin; refine wpList_addB _ rfl (.tmp 51) (.tmp 52) rfl w2.heap.size (.slice (some ⟨w2.heap.size, 0, none⟩) 0 0) 0 [] rfl (OwB.new w2 (Nat.le_refl _)) _ n l rfl (SLo.out _ (below_alloc _ _)) (by omega) (by simp) ?_; intro oa oc w3 ho3 hg3 hnc3 hcm3)
        simp only [Nat.zero_add, List.nil_append] at ho3 hnc3
        unfold maxLen at hcm3
        have X3 : Hid (Below w2.heap.size w2 w3) := below_addB (below_alloc w2 _) (OwB.new w2 (Nat.le_refl _)) (Nat.le_refl _) (by simp) hg3
        have B3 : Hid (Below w.heap.size w w3) := on_below B2.out X3.out
        have P3 : Hid (Five w3 b0 N B Q E F) := P2.out.below X3.out
        have O3 : Hid (OwB w2.heap.size w3 (.slice oa n oc) n l) := ho3
        clear ho3 hg3 SLo B2 P2 hsz2 c0 c1 c2 c3 c4
        obtain ⟨c0, c1, c2, c3, c4⟩ := P3.out
        have CN : Hid (Calls Tryz.prog 6 #[.agg #[.int .i64 N, .int .i64 B, .int .i64 Q, .int .i64 E, .int .i64 F], .int .u64 (S : Int), .slice oa n oc] w3 fun e w' => e = .returned (.tuple #[.pointer none, .int .i64 1]) ∧ Below w3.heap.size w3 w') := enew_no N B Q E F S _ oa n oc w3 hm rfl
        have CM : Hid (∀ W, Calls Tryz.prog 7 #[.agg #[.int .i64 N, .int .i64 B, .int .i64 Q, .int .i64 E, .int .i64 F]] W fun e w' => e = .returned (.bool false) ∧ Below W.heap.size W w') := fun W => rmay_no N B Q E F W hm
        clear hm
        go_wp2_with fail
        refine CN.out.mono ?_
        rintro e w4 ⟨rfl, hb⟩
        have B4 : Hid (Below w.heap.size w w4) := on_below B3.out hb
        have P4 : Hid (Five w4 b0 N B Q E F) := P3.out.below hb
        clear hb CN P3 B3 O3 X3 c0 c1 c2 c3 c4
        obtain ⟨c0, c1, c2, c3, c4⟩ := P4.out
        go_wp2_with fail
        refine (CM.out _).mono ?_
        rintro e w5 ⟨rfl, hb⟩
        have B5 : Hid (Below w.heap.size w w5) := on_below B4.out hb
        clear hb CM B4 P4 c0 c1 c2 c3 c4
        go_wp2
        go_ret
        exact ⟨rfl, B5.out⟩
  have hsz2 : b0 < w2.heap.size := cell_block_lt c0
  have SLo : Hid (∀ W, Below w2.heap.size w2 W → Sl 1 W (.slice ao n cap) n (l.map bv)) := by
    intro W hW
    have := HO.out.below (on_below B2.out hW)
    unfold Bs at this
    rw [HL.out] at this
    exact this
  go_upto_region 7 with (at_builtin; refine wpList_addB _ rfl (.tmp 51) (.tmp 52) rfl w2.heap.size (.slice (some ⟨w2.heap.size, 0, none⟩) 0 0) 0 [] rfl (OwB.new w2 (Nat.le_refl _)) _ n l rfl (SLo.out _ (below_alloc _ _)) (by omega) (by simp) ?_; intro oa oc w3 ho3 hg3 hnc3 hcm3)
  simp only [Nat.zero_add, List.nil_append] at ho3 hnc3
  unfold maxLen at hcm3
  have X3 : Hid (Below w2.heap.size w2 w3) := below_addB (below_alloc w2 _) (OwB.new w2 (Nat.le_refl _)) (Nat.le_refl _) (by simp) hg3
  have B3 : Hid (Below w.heap.size w w3) := on_below B2.out X3.out
  have P3 : Hid (Five w3 b0 N B Q E F) := P2.out.below X3.out
  have O3 : Hid (OwB w2.heap.size w3 (.slice oa n oc) n l) := ho3
  clear ho3 hg3 SLo B2 P2 hsz2 c0 c1 c2 c3 c4
  obtain ⟨c0, c1, c2, c3, c4⟩ := P3.out
  by_cases hm : May N B Q E F
  case neg =>
    as_aux_lemma =>
      have CN : Hid (Calls Tryz.prog 6 #[.agg #[.int .i64 N, .int .i64 B, .int .i64 Q, .int .i64 E, .int .i64 F], .int .u64 (S : Int), .slice oa n oc] w3 fun e w' => e = .returned (.tuple #[.pointer none, .int .i64 1]) ∧ Below w3.heap.size w3 w') := enew_no N B Q E F S _ oa n oc w3 hm rfl
      have CM : Hid (∀ W, Calls Tryz.prog 7 #[.agg #[.int .i64 N, .int .i64 B, .int .i64 Q, .int .i64 E, .int .i64 F]] W fun e w' => e = .returned (.bool false) ∧ Below W.heap.size W w') := fun W => rmay_no N B Q E F W hm
      clear hm
      go_wp2_with fail
      refine CN.out.mono ?_
      rintro e w4 ⟨rfl, hb⟩
      have B4 : Hid (Below w.heap.size w w4) := on_below B3.out hb
      have P4 : Hid (Five w4 b0 N B Q E F) := P3.out.below hb
      clear hb CN P3 B3 O3 X3 c0 c1 c2 c3 c4
      obtain ⟨c0, c1, c2, c3, c4⟩ := P4.out
      go_wp2_with fail
      refine (CM.out _).mono ?_
      rintro e w5 ⟨rfl, hb⟩
      have B5 : Hid (Below w.heap.size w w5) := on_below B4.out hb
      clear hb CM B4 P4 c0 c1 c2 c3 c4
      go_wp2
      go_ret
      exact ⟨rfl, B5.out⟩
  case pos =>
    obtain ⟨N, B, Q, E, F, A, rfl, rfl, rfl, rfl, rfl, hpr, hmd⟩ := pr_natE hm
    have CM : Hid (∀ W, Calls Tryz.prog 7 #[.agg #[.int .i64 (N : Int), .int .i64 (B : Int), .int .i64 (Q : Int), .int .i64 (E : Int), .int .i64 (F : Int)]] W fun e w' => e = .returned (.bool true) ∧ Below W.heap.size W w') := fun W => rmay_yes N B Q E F W hm
    have hN60 : N ≤ 60 := by omega
    have hB60 : B ≤ 60 := by omega
    have hP : N * B ≤ 3600 := Nat.mul_le_mul hN60 hB60
    have wm : IntKind.i64.wrap ((N : Int) * (B : Int)) = ((N * B : Nat) : Int) := by rw [IntKind.wrap_i64]; simp; omega
    by_cases hl : n ≤ N * B
    · have hA6 : A ≤ 1000000 := may_small hpr (by omega)
      have hH : Hid (MayH N B Q E F n) := ⟨hm, by omega, by exact_mod_cast hl⟩
      have HD : Hid (MayD F E) := hmd
      have PR : Hid (PrOk (N : Int) (B : Int) (Q : Int) (E : Int) (F : Int) N Q A) := hpr
      have ol : Bs w3 (.slice oa n oc) l := O3.out.bs
      have CN : Hid (Calls Tryz.prog 6 #[.agg #[.int .i64 (N : Int), .int .i64 (B : Int), .int .i64 (Q : Int), .int .i64 (E : Int), .int .i64 (F : Int)], .int .u64 (S : Int), .slice oa n oc] w3 fun e w' => ∃ p, e = .returned (.tuple #[.pointer (some ⟨p, 0, none⟩), .int .i64 0]) ∧ Enc w3.heap.size w' p S N B Q E F n (N + A) (compD N B (hasR S A Q N) l) ∧ Below w3.heap.size w3 w') := enew_yes N B Q A S E F n _ l w3 hpr HS.out ol HL.out hl
      have hle : ¬ (n : Int) > ((N * B : Nat) : Int) := by omega
      have OKc : Hid (∀ (id k : Nat) (of : List Int), Chk F E S (N + A) id k of → OkOf B (compD N B (hasR S A Q N) l) of) := fun id k of hc => hc.ok (hasR_rw S A Q N) rfl
      clear hl hP hm hpr hmd ol
      generalize N * B = P at *
      have hnP : n ≤ P := by omega
      obtain ⟨D, hD⟩ : ∃ D, compD N B (hasR S A Q N) l = D := ⟨_, rfl⟩
      have DD : Hid (compD N B (hasR S A Q N) l = D) := hD
      rw [hD] at CN OKc
      clear hD
      go_wp2_with fail
      refine CN.out.mono ?_
      rintro e w4 ⟨p, rfl, he, hb⟩
      have B4 : Hid (Below w.heap.size w w4) := on_below B3.out hb
      have P4 : Hid (Five w4 b0 N B Q E F) := P3.out.below hb
      have O4 : Hid (OwB w2.heap.size w4 (.slice oa n oc) n l) := O3.out.below hb
      have OL : Hid (∀ q, (Value.slice oa n oc).ownBlock = some q → q < w3.heap.size ∧ w.heap.size ≤ q ∧ b0 ≠ q) := by
        intro q hq
        have h1 := O3.out.lt q hq
        have h2 := B2'.out.size
        have h3 := hb02.out
        exact ⟨h1.2, by omega, by omega⟩
      have E4 : Hid (Enc w3.heap.size w4 p S N B Q E F n (N + A) D) := he
      obtain ⟨B0, hB0⟩ : ∃ B0, w3.heap.size = B0 := ⟨_, rfl⟩
      rw [hB0] at E4 OL
      clear he hb hB0 CN P3 B3 O3 X3 c0 c1 c2 c3 c4
      obtain ⟨c0, c1, c2, c3, c4⟩ := P4.out
      go_wp2_with fail
      refine (CM.out _).mono ?_
      rintro e w5 ⟨rfl, hb⟩
      have B5 : Hid (Below w.heap.size w w5) := on_below B4.out hb
      have P5 : Hid (Five w5 b0 N B Q E F) := P4.out.below hb
      have O5 : Hid (OwB w2.heap.size w5 (.slice oa n oc) n l) := O4.out.below hb
      have E5 : Hid (Enc B0 w5 p S N B Q E F n (N + A) D) := E4.out.below hb
      clear hb CM B4 P4 O4 E4 c0 c1 c2 c3 c4
      obtain ⟨c0, c1, c2, c3, c4⟩ := P5.out
      go_wp2
      go_loopw [95] (fun jv wr => ∃ (j : Nat) (l' : List UInt8), j ≤ n ∧ jv = .int .i64 j ∧ Hid (OwB w2.heap.size wr (.slice oa n oc) n l') ∧ Hid (Enc B0 wr p S N B Q E F n (N + A) D) ∧ Hid (Five wr b0 N B Q E F) ∧ Hid (Below w.heap.size w wr)) (fun jv _ => n - (intOf jv).toNat)
      case atStart => exact ⟨0, l, by omega, rfl, O5, E5, P5, B5⟩
      case round =>
        obtain ⟨j, l', hj, rfl, O, EE, PF5, BB⟩ := hrel
        clear O5 E5 P5 B5
        by_cases hlt : j < n
        · as_aux_lemma =>
            obtain ⟨qo, qc, eo, -, -, -⟩ := owned_shape O.out (by omega)
            injection eo with e1 e2 e3
            subst e1; subst e3
            have hll : l'.length = n := O.out.len
            have hjl : j < l'.length := by omega
            have cj : wr.cell? ⟨qo, j, none⟩ = some (.int .u8 (l'[j].toNat : Int)) := by
              have h1 := World.ownsRow.cellAt O.out j (by omega)
              rw [map_bv_at l' j hjl] at h1
              exact h1
            have fj := own_fr O.out j
            obtain ⟨hq1, hq2, hq3⟩ := OL.out qo rfl
            have U8 := u8_next l'[j]
            have O6 : Hid (OwB w2.heap.size (wr.setCell ⟨qo, j, none⟩ (.int .u8 ((l'[j] + 1).toNat : Int))) (.slice (some ⟨qo, 0, none⟩) n oc) n (l'.set j (l'[j] + 1))) := own_setB O.out _
            have KK : Hid (∀ k, k ≠ qo → (wr.setCell ⟨qo, j, none⟩ (.int .u8 ((l'[j] + 1).toNat : Int))).heap[k]? = wr.heap[k]?) := fun k hk => Below.heap_setCell _ _ _ k hk
            have E6 : Hid (Enc B0 (wr.setCell ⟨qo, j, none⟩ (.int .u8 ((l'[j] + 1).toNat : Int))) p S N B Q E F n (N + A) D) := EE.out.kept (fun k hk _ => KK.out k (by omega))
            have P6 : Hid (Five (wr.setCell ⟨qo, j, none⟩ (.int .u8 ((l'[j] + 1).toNat : Int))) b0 N B Q E F) := PF5.out.kept (KK.out b0 hq3)
            have B6 : Hid (Below w.heap.size w (wr.setCell ⟨qo, j, none⟩ (.int .u8 ((l'[j] + 1).toNat : Int)))) := BB.out.grown (grown_setCell wr qo j _) BB.out.size (fun k hk => by injection hk with hk; omega)
            rw [← U8] at O6 E6 P6 B6
            clear O EE PF5 BB KK hq1 hq2 hq3 hll U8
            generalize l'.set j (l'[j] + 1) = l'' at *
            generalize (l'[j].toNat : Int) = y at *
            go_wp2
            go_roundw
            case rel => exact ⟨j + 1, l'', by omega, by go_num, O6, E6, P6, B6⟩
            case measure => simp [intOf]; omega
        · as_aux_lemma =>
            clear O
            have hltI : ¬ (j : Int) < (n : Int) := by omega
            go_wp2
            obtain ⟨w6, hw6⟩ : ∃ x, x = wr := ⟨_, rfl⟩
            subst hw6
            go_loopw [107] (fun jv wr => ∃ i : Nat, i ≤ m ∧ jv = .int .i64 i ∧ Hid (Below w6.heap.size w6 wr)) (fun jv _ => m - (intOf jv).toNat)
            case atStart => exact ⟨0, by omega, rfl, Below.refl _ _⟩
            case round =>
              obtain ⟨i, hi, rfl, BL⟩ := hrel
              by_cases him : i < m
              · as_aux_lemma =>
                  have hil : i < ids.length := by rw [HM.out]; exact him
                  obtain ⟨⟨-, ao', cap', hv0, -, -, -, h5⟩, hbd⟩ := HU.out
                  injection hv0 with e1 e2 e3
                  subst e1
                  obtain ⟨bi, oi, rfl, hc0⟩ : ∃ b off, io = some ⟨b, off, none⟩ ∧ ∀ j u, (ids.map uv)[j]? = some u → w.cell? ⟨b, off + j, none⟩ = some u := by
                    rcases h5 with h0 | h0
                    · omega
                    · exact h0
                  have ck0 := hc0 i _ (map_uv_at ids i hil)
                  have ck := ((on_below BB.out BL.out).cell (cell_block_lt ck0)).trans ck0
                  have HI : Hid (ids[i] < 18446744073709551616) := hbd _ (List.getElem_mem hil)
                  clear hc0 ck0 e2 e3 hbd
                  generalize ids[i] = id at *
                  obtain ⟨k, of, hch⟩ := chk_is E S (N + A) id HD.out.f2
                  have hok := OKc.out id k of hch
                  obtain ⟨x, hx⟩ : ∃ x, chkD B D of = x := ⟨_, rfl⟩
                  obtain ⟨fr, hfr⟩ : ∃ fr, frameB S N B Q E F n id x = fr := ⟨_, rfl⟩
                  have XL : Hid (x.length = B) := by unfold Hid; rw [← hx]; exact chkD_length hok
                  have BX : Hid (∀ W, Below wr.heap.size wr W → Five W b0 N B Q E F) := fun W hW => PF5.out.below (on_below BL.out hW)
                  have C1 : Hid (∀ W, Below wr.heap.size wr W → Calls Tryz.prog 8 #[.pointer (some ⟨p, 0, none⟩), .int .u64 id] W fun e w' => ∃ v, e = .returned v ∧ IsBs fr v w' ∧ Below W.heap.size W w') := by
                    intro W hW
                    refine (eframe_any B0 p S N B Q E F n (N + A) id k D of W (EE.out.below (on_below BL.out hW)) (by omega) hch HD.out (by omega) HS.out HI.out hok hH.out).mono ?_
                    rintro e w' ⟨q, rfl, -, h1, h2⟩
                    rw [hx, hfr] at h1
                    have hfl : fr.length = 42 + B := by rw [← hfr, frameB_length, XL.out]
                    exact ⟨_, rfl, (by have h9 := h1.bs (by rw [hfl]; omega); rw [hfl] at h9; exact h9), h2⟩
                  have C2 : Hid (∀ W, Below wr.heap.size wr W → Calls Tryz.prog 9 #[.agg #[.int .i64 (N : Int), .int .i64 (B : Int), .int .i64 (Q : Int), .int .i64 (E : Int), .int .i64 (F : Int)], .int .u64 (S : Int), .slice ao n cap, .int .u64 (id : Int)] W fun e w' => ∃ v, e = .returned v ∧ IsBs fr v w' ∧ Below W.heap.size W w') := by
                    intro W hW
                    have := rframe_any N B Q A S E F n id k (.slice ao n cap) l of W PR.out HS.out HI.out HD.out (by omega) (by omega) hA6 (HO.out.below (on_below BB.out (on_below BL.out hW))) HL.out hch hH.out
                    rw [DD.out, hx, hfr] at this
                    exact this
                  have C3 : Hid (∀ W, Below wr.heap.size wr W → Calls Tryz.prog 11 #[.pointer (some ⟨p, 0, none⟩), .int .u64 id] W fun e w' => ∃ v, e = .returned v ∧ IsPa 0 S N B Q E F n id x v w' ∧ Below W.heap.size W w') := by
                    intro W hW
                    refine (epacket_any B0 p S N B Q E F n (N + A) id k D of W (EE.out.below (on_below BL.out hW)) (by omega) hch HD.out (by omega) HS.out HI.out hok).mono ?_
                    rintro e w' ⟨q, rfl, -, h1, h2⟩
                    rw [hx] at h1
                    exact ⟨_, rfl, ⟨q, rfl, Nat.zero_le _, h1⟩, h2⟩
                  have C4 : Hid (∀ W, Below wr.heap.size wr W → Calls Tryz.prog 12 #[.agg #[.int .i64 (N : Int), .int .i64 (B : Int), .int .i64 (Q : Int), .int .i64 (E : Int), .int .i64 (F : Int)], .int .u64 (S : Int), .slice ao n cap, .int .u64 (id : Int)] W fun e w' => ∃ v, e = .returned v ∧ IsPa 0 S N B Q E F n id x v w' ∧ Below W.heap.size W w') := by
                    intro W hW
                    refine (rpacket_any N B Q A S E F n id k (.slice ao n cap) l of W PR.out HS.out HI.out HD.out (by omega) (by omega) hA6 (HO.out.below (on_below BB.out (on_below BL.out hW))) HL.out hch).mono ?_
                    rintro e w' ⟨q, rfl, -, h1, h2⟩
                    rw [DD.out, hx] at h1
                    exact ⟨_, rfl, ⟨q, rfl, Nat.zero_le _, h1⟩, h2⟩
                  have C5 : Hid (∀ W v1 v2, Below wr.heap.size wr W → IsPa 0 S N B Q E F n id x v1 W → IsPa 0 S N B Q E F n id x v2 W → Calls Tryz.prog 10 #[v1, v2] W fun e w' => ∃ v, e = .returned v ∧ IsV (.bool true) v w' ∧ Below W.heap.size W w') := by
                    rintro W v1 v2 hW ⟨q1, e1, -, k1⟩ ⟨q2, e2, -, k2⟩
                    subst e1; subst e2
                    refine (same6_yes S N B Q E F n id _ _ B B B B x W (k1.bs0 B B XL.out.symm (Nat.le_refl _) (by unfold maxLen; omega)) (k2.bs0 B B XL.out.symm (Nat.le_refl _) (by unfold maxLen; omega))).mono ?_
                    rintro e w' ⟨rfl, hb⟩
                    exact ⟨_, rfl, rfl, hb⟩
                  clear hch hok hx hfr HI XL
                  go_upto_region 22 with fail
                  refine wp_region_any (by kernel_rfl) ?_
                  obtain ⟨gs, hgs⟩ : ∃ gs : List (Value → World → Prop), gs = [IsV (Value.pointer (some { block := p, off := 0 })), IsV (Value.int IntKind.u64 ↑id), IsAnyV, IsV (.string (str fr)), IsV (.agg #[.int .i64 (N : Int), .int .i64 (B : Int), .int .i64 (Q : Int), .int .i64 (E : Int), .int .i64 (F : Int)]), IsV (Value.int IntKind.u64 ↑S), IsV (Value.slice ao n cap), IsV (Value.int IntKind.u64 ↑id), IsAnyV, IsV (.string (str fr)), IsV (.bool false), IsV (.bool false), IsV (Value.pointer (some { block := p, off := 0 })), IsV (Value.int IntKind.u64 ↑id), IsAnyV, IsV (.agg #[.int .i64 (N : Int), .int .i64 (B : Int), .int .i64 (Q : Int), .int .i64 (E : Int), .int .i64 (F : Int)]), IsV (Value.int IntKind.u64 ↑S), IsV (Value.slice ao n cap), IsV (Value.int IntKind.u64 ↑id), IsAnyV, IsV (.bool true), IsV (.bool false), IsV (.bool false)] := ⟨_, rfl⟩
                  have g0 : Hid (gs[0]? = some (IsV (Value.pointer (some { block := p, off := 0 })))) := by unfold Hid; rw [hgs]; rfl
                  have g1 : Hid (gs[1]? = some (IsV (Value.int IntKind.u64 ↑id))) := by unfold Hid; rw [hgs]; rfl
                  have g2 : Hid (gs[2]? = some (IsAnyV)) := by unfold Hid; rw [hgs]; rfl
                  have g3 : Hid (gs[3]? = some (IsV (.string (str fr)))) := by unfold Hid; rw [hgs]; rfl
                  have g4 : Hid (gs[4]? = some (IsV (.agg #[.int .i64 (N : Int), .int .i64 (B : Int), .int .i64 (Q : Int), .int .i64 (E : Int), .int .i64 (F : Int)]))) := by unfold Hid; rw [hgs]; rfl
                  have g5 : Hid (gs[5]? = some (IsV (Value.int IntKind.u64 ↑S))) := by unfold Hid; rw [hgs]; rfl
                  have g6 : Hid (gs[6]? = some (IsV (Value.slice ao n cap))) := by unfold Hid; rw [hgs]; rfl
                  have g7 : Hid (gs[7]? = some (IsV (Value.int IntKind.u64 ↑id))) := by unfold Hid; rw [hgs]; rfl
                  have g8 : Hid (gs[8]? = some (IsAnyV)) := by unfold Hid; rw [hgs]; rfl
                  have g9 : Hid (gs[9]? = some (IsV (.string (str fr)))) := by unfold Hid; rw [hgs]; rfl
                  have g10 : Hid (gs[10]? = some (IsV (.bool false))) := by unfold Hid; rw [hgs]; rfl
                  have g11 : Hid (gs[11]? = some (IsV (.bool false))) := by unfold Hid; rw [hgs]; rfl
                  have g12 : Hid (gs[12]? = some (IsV (Value.pointer (some { block := p, off := 0 })))) := by unfold Hid; rw [hgs]; rfl
                  have g13 : Hid (gs[13]? = some (IsV (Value.int IntKind.u64 ↑id))) := by unfold Hid; rw [hgs]; rfl
                  have g14 : Hid (gs[14]? = some (IsAnyV)) := by unfold Hid; rw [hgs]; rfl
                  have g15 : Hid (gs[15]? = some (IsV (.agg #[.int .i64 (N : Int), .int .i64 (B : Int), .int .i64 (Q : Int), .int .i64 (E : Int), .int .i64 (F : Int)]))) := by unfold Hid; rw [hgs]; rfl
                  have g16 : Hid (gs[16]? = some (IsV (Value.int IntKind.u64 ↑S))) := by unfold Hid; rw [hgs]; rfl
                  have g17 : Hid (gs[17]? = some (IsV (Value.slice ao n cap))) := by unfold Hid; rw [hgs]; rfl
                  have g18 : Hid (gs[18]? = some (IsV (Value.int IntKind.u64 ↑id))) := by unfold Hid; rw [hgs]; rfl
                  have g19 : Hid (gs[19]? = some (IsAnyV)) := by unfold Hid; rw [hgs]; rfl
                  have g20 : Hid (gs[20]? = some (IsV (.bool true))) := by unfold Hid; rw [hgs]; rfl
                  have g21 : Hid (gs[21]? = some (IsV (.bool false))) := by unfold Hid; rw [hgs]; rfl
                  have g22 : Hid (gs[22]? = some (IsV (.bool false))) := by unfold Hid; rw [hgs]; rfl
                  have gk : Hid (∀ p ∈ gs, ∀ v (U U' : World), p v U → p v U') := by
                    unfold Hid
                    rw [hgs]
                    simp only [List.forall_mem_cons]
                    exact ⟨(fun _ _ _ h => h), (fun _ _ _ h => h), (fun _ _ _ h => h), (fun _ _ _ h => h), (fun _ _ _ h => h), (fun _ _ _ h => h), (fun _ _ _ h => h), (fun _ _ _ h => h), (fun _ _ _ h => h), (fun _ _ _ h => h), (fun _ _ _ h => h), (fun _ _ _ h => h), (fun _ _ _ h => h), (fun _ _ _ h => h), (fun _ _ _ h => h), (fun _ _ _ h => h), (fun _ _ _ h => h), (fun _ _ _ h => h), (fun _ _ _ h => h), (fun _ _ _ h => h), (fun _ _ _ h => h), (fun _ _ _ h => h), (fun _ _ _ h => h), by simp⟩
                  clear hgs
                  have JS : Hid (∀ W W', Below W.heap.size W W' → (fun W => Below wr.heap.size wr W) W → (fun W => Below wr.heap.size wr W) W') := fun W W' hb h => h.trans (hb.mono h.size)
                  have st2 : Hid (Stays (IsBs fr)) := stays_bs _
                  have st8 : Hid (Stays (IsBs fr)) := stays_bs _
                  have st14 : Hid (Stays (IsPa 0 S N B Q E F n id x)) := stays_pa _ _ _ _ _ _ _ _ _ _
                  have st19 : Hid (Stays (IsPa 0 S N B Q E F n id x)) := stays_pa _ _ _ _ _ _ _ _ _ _
                  refine wpAny_inv4 (fun listed ac W => ∃ xv : Nat → Value, ac = ⟨#[Value.agg #[Value.int IntKind.i64 ↑N, Value.int IntKind.i64 ↑B, Value.int IntKind.i64 ↑Q, Value.int IntKind.i64 ↑E, Value.int IntKind.i64 ↑F, Value.int IntKind.u64 ↑S, Value.slice ao n cap, Value.slice (some { block := bi, off := oi }) m icap], Value.pointer (some { block := w.heap.size, off := 0 }), u2, Value.pointer (some { block := b0, off := 0 }), Value.int IntKind.u64 ↑S, Value.slice ao n cap, Value.slice (some { block := bi, off := oi }) m icap, Value.slice oa n oc, Value.pointer (some { block := p, off := 0 }), Value.int IntKind.i64 (0 : Int), u10, undef, Value.int IntKind.u64 ↑id, Value.bool true, Value.bool false, Value.pointer (some { block := w.heap.size, off := 0 }), Value.agg #[Value.int IntKind.i64 ↑N, Value.int IntKind.i64 ↑B, Value.int IntKind.i64 ↑Q, Value.int IntKind.i64 ↑E, Value.int IntKind.i64 ↑F], Value.pointer (some { block := w.heap.size, off := 5 }), Value.int IntKind.u64 ↑S, Value.pointer (some { block := w.heap.size, off := 6 }), Value.slice ao n cap, Value.pointer (some { block := w.heap.size, off := 7 }), Value.slice (some { block := bi, off := oi }) m icap, Value.slice (some { block := bi, off := oi }) m icap, Value.int IntKind.i64 ↑m, Value.bool false, Value.bool false, Value.slice ao n cap, Value.int IntKind.i64 ↑n, Value.bool false, Value.bool false, Value.bool false, Value.pointer (some { block := b0, off := 0 }), Value.int IntKind.i64 ↑N, Value.bool false, Value.bool false, Value.bool false, Value.pointer (some { block := b0, off := 1 }), Value.int IntKind.i64 ↑B, Value.bool false, Value.bool false, Value.bool false, Value.pointer (some { block := b0, off := 4 }), Value.int IntKind.i64 ↑F, Value.bool false, Value.bool false, undef, undef, undef, Value.bool false, Value.bool false, Value.slice (some { block := w2.heap.size, off := 0 }) 0 0, Value.slice ao n cap, Value.slice oa n oc, Value.tuple #[Value.pointer (some { block := p, off := 0 }), Value.int IntKind.i64 (0 : Int)], Value.agg #[Value.int IntKind.i64 ↑N, Value.int IntKind.i64 ↑B, Value.int IntKind.i64 ↑Q, Value.int IntKind.i64 ↑E, Value.int IntKind.i64 ↑F], Value.int IntKind.u64 ↑S, Value.slice oa n oc, Value.tuple #[Value.pointer (some { block := p, off := 0 }), Value.int IntKind.i64 (0 : Int)], Value.pointer (some { block := p, off := 0 }), Value.int IntKind.i64 (0 : Int), Value.bool false, Value.agg #[Value.int IntKind.i64 ↑N, Value.int IntKind.i64 ↑B, Value.int IntKind.i64 ↑Q, Value.int IntKind.i64 ↑E, Value.int IntKind.i64 ↑F], Value.bool true, Value.bool false, undef, undef, undef, undef, undef, undef, Value.bool false, Value.slice ao n cap, Value.int IntKind.i64 ↑n, Value.pointer (some { block := b0, off := 0 }), Value.int IntKind.i64 ↑N, Value.pointer (some { block := b0, off := 1 }), Value.int IntKind.i64 ↑B, Value.int IntKind.i64 ↑P, Value.bool false, undef, undef, undef, undef, undef, undef, Value.bool false, Value.int IntKind.i64 (0 : Int), Value.bool false, Value.bool false, Value.pointer (some { block := p, off := 0 }), Value.bool false, Value.bool false, Value.slice oa n oc, Value.int IntKind.i64 ↑n, Value.int IntKind.i64 ↑j, Value.bool false, u97, u98, u99, u100, u101, u102, u103, u104, Value.slice (some { block := bi, off := oi }) m icap, Value.int IntKind.i64 ↑m, Value.int IntKind.i64 ↑i, Value.bool true, Value.pointer (some { block := bi, off := oi + i }), Value.int IntKind.u64 ↑id, xv 0, xv 1, xv 2, xv 3, xv 4, xv 5, xv 6, xv 7, xv 8, xv 9, xv 10, xv 11, xv 12, xv 13, xv 14, xv 15, xv 16, xv 17, xv 18, xv 19, xv 20, xv 21, xv 22, u134], []⟩ ∧ (fun W => Below wr.heap.size wr W) W ∧ Lst gs listed xv W ∧ Fe listed xv W 2 (IsBs fr) ∧ Fe listed xv W 8 (IsBs fr) ∧ Fe listed xv W 14 (IsPa 0 S N B Q E F n id x) ∧ Fe listed xv W 19 (IsPa 0 S N B Q E F n id x)) (by kernel_rfl) ?_ ?_ _ _ _ _ (by kernel_rfl) (of_decide_eq_true (by kernel_rfl)) (Down.start _) ⟨fun jx => if jx = 0 then u111 else if jx = 1 then u112 else if jx = 2 then u113 else if jx = 3 then u114 else if jx = 4 then u115 else if jx = 5 then u116 else if jx = 6 then u117 else if jx = 7 then u118 else if jx = 8 then u119 else if jx = 9 then u120 else if jx = 10 then u121 else if jx = 11 then u122 else if jx = 12 then u123 else if jx = 13 then u124 else if jx = 14 then u125 else if jx = 15 then u126 else if jx = 16 then u127 else if jx = 17 then u128 else if jx = 18 then u129 else if jx = 19 then u130 else if jx = 20 then u131 else if jx = 21 then u132 else if jx = 22 then u133 else undef, rfl, below0 _, Lst.start _ _ _ _, Fe.start _ _ _ _ _, Fe.start _ _ _ _ _, Fe.start _ _ _ _ _, Fe.start _ _ _ _ _⟩
                  · go_light
                    rintro listed ac W ⟨xv, rfl, hb, hG, hF2, hF8, hF14, hF19⟩ hD i hi hnl hd
                    have hin : i < 23 := hi
                    clear hi
                    have hcase : i = 0 ∨ i = 1 ∨ i = 2 ∨ i = 3 ∨ i = 4 ∨ i = 5 ∨ i = 6 ∨ i = 7 ∨ i = 8 ∨ i = 9 ∨ i = 10 ∨ i = 11 ∨ i = 12 ∨ i = 13 ∨ i = 14 ∨ i = 15 ∨ i = 16 ∨ i = 17 ∨ i = 18 ∨ i = 19 ∨ i = 20 ∨ i = 21 ∨ i = 22 := by omega
                    rcases hcase with rfl | rfl | rfl | rfl | rfl | rfl | rfl | rfl | rfl | rfl | rfl | rfl | rfl | rfl | rfl | rfl | rfl | rfl | rfl | rfl | rfl | rfl | rfl
                    · refine wpOp_step rfl (fun K' hK => ?_)
                      clear hd hin hD
                      go_simp
                      exact hK _ _ ⟨updV xv 0 (Value.pointer (some { block := p, off := 0 })), by simp [updV], hb, hG.any gk.out g0.out _ rfl, hF2.step (fun _ h => h) (by decide) _, hF8.step (fun _ h => h) (by decide) _, hF14.step (fun _ h => h) (by decide) _, hF19.step (fun _ h => h) (by decide) _⟩
                    · refine wpOp_step rfl (fun K' hK => ?_)
                      clear hd hin hD
                      go_simp
                      exact hK _ _ ⟨updV xv 1 (Value.int IntKind.u64 ↑id), by simp [updV], hb, hG.any gk.out g1.out _ rfl, hF2.step (fun _ h => h) (by decide) _, hF8.step (fun _ h => h) (by decide) _, hF14.step (fun _ h => h) (by decide) _, hF19.step (fun _ h => h) (by decide) _⟩
                    · refine wpOp_step rfl (fun K' hK => ?_)
                      simp [Region.binds] at hd
                      have e0 : xv 0 = Value.pointer (some { block := p, off := 0 }) := hG.get g0.out (by simp [hd])
                      have e1 : xv 1 = Value.int IntKind.u64 ↑id := hG.get g1.out (by simp [hd])
                      clear hd hin hD
                      go_simp
                      refine (C1.out W hb).mono ?_
                      rintro e w' ⟨v, rfl, hv, hb'⟩
                      go_wp2_with fail
                      exact ⟨updV xv 2 v, by simp [updV, e0, e1], JS.out _ _ hb' hb, hG.any gk.out g2.out v trivial, Fe.new (hv), hF8.on st8.out hb' (by decide) _, hF14.on st14.out hb' (by decide) _, hF19.on st19.out hb' (by decide) _⟩
                    · refine wpOp_step rfl (fun K' hK => ?_)
                      simp [Region.binds] at hd
                      have l2 : listed.getD 2 false = true := by simp [hd]
                      have m2 := hF2 l2
                      have kr := conv_bytes m2
                      clear hd hin hD
                      go_simp
                      exact hK _ _ ⟨updV xv 3 (.string (str fr)), by simp [updV], hb, hG.any gk.out g3.out _ rfl, hF2.step (fun _ h => h) (by decide) _, hF8.step (fun _ h => h) (by decide) _, hF14.step (fun _ h => h) (by decide) _, hF19.step (fun _ h => h) (by decide) _⟩
                    · refine wpOp_step rfl (fun K' hK => ?_)
                      obtain ⟨c0, c1, c2, c3, c4⟩ := BX.out W hb
                      clear hd hin hD
                      go_simp
                      exact hK _ _ ⟨updV xv 4 (.agg #[.int .i64 (N : Int), .int .i64 (B : Int), .int .i64 (Q : Int), .int .i64 (E : Int), .int .i64 (F : Int)]), by simp [updV], hb, hG.any gk.out g4.out _ rfl, hF2.step (fun _ h => h) (by decide) _, hF8.step (fun _ h => h) (by decide) _, hF14.step (fun _ h => h) (by decide) _, hF19.step (fun _ h => h) (by decide) _⟩
                    · refine wpOp_step rfl (fun K' hK => ?_)
                      clear hd hin hD
                      go_simp
                      exact hK _ _ ⟨updV xv 5 (Value.int IntKind.u64 ↑S), by simp [updV], hb, hG.any gk.out g5.out _ rfl, hF2.step (fun _ h => h) (by decide) _, hF8.step (fun _ h => h) (by decide) _, hF14.step (fun _ h => h) (by decide) _, hF19.step (fun _ h => h) (by decide) _⟩
                    · refine wpOp_step rfl (fun K' hK => ?_)
                      clear hd hin hD
                      go_simp
                      exact hK _ _ ⟨updV xv 6 (Value.slice ao n cap), by simp [updV], hb, hG.any gk.out g6.out _ rfl, hF2.step (fun _ h => h) (by decide) _, hF8.step (fun _ h => h) (by decide) _, hF14.step (fun _ h => h) (by decide) _, hF19.step (fun _ h => h) (by decide) _⟩
                    · refine wpOp_step rfl (fun K' hK => ?_)
                      clear hd hin hD
                      go_simp
                      exact hK _ _ ⟨updV xv 7 (Value.int IntKind.u64 ↑id), by simp [updV], hb, hG.any gk.out g7.out _ rfl, hF2.step (fun _ h => h) (by decide) _, hF8.step (fun _ h => h) (by decide) _, hF14.step (fun _ h => h) (by decide) _, hF19.step (fun _ h => h) (by decide) _⟩
                    · refine wpOp_step rfl (fun K' hK => ?_)
                      simp [Region.binds] at hd
                      have e4 : xv 4 = .agg #[.int .i64 (N : Int), .int .i64 (B : Int), .int .i64 (Q : Int), .int .i64 (E : Int), .int .i64 (F : Int)] := hG.get g4.out (by simp [hd])
                      have e5 : xv 5 = Value.int IntKind.u64 ↑S := hG.get g5.out (by simp [hd])
                      have e6 : xv 6 = Value.slice ao n cap := hG.get g6.out (by simp [hd])
                      have e7 : xv 7 = Value.int IntKind.u64 ↑id := hG.get g7.out (by simp [hd])
                      clear hd hin hD
                      go_simp
                      refine (C2.out W hb).mono ?_
                      rintro e w' ⟨v, rfl, hv, hb'⟩
                      go_wp2_with fail
                      exact ⟨updV xv 8 v, by simp [updV, e4, e5, e6, e7], JS.out _ _ hb' hb, hG.any gk.out g8.out v trivial, hF2.on st2.out hb' (by decide) _, Fe.new (hv), hF14.on st14.out hb' (by decide) _, hF19.on st19.out hb' (by decide) _⟩
                    · refine wpOp_step rfl (fun K' hK => ?_)
                      simp [Region.binds] at hd
                      have l8 : listed.getD 8 false = true := by simp [hd]
                      have m8 := hF8 l8
                      have kr := conv_bytes m8
                      clear hd hin hD
                      go_simp
                      exact hK _ _ ⟨updV xv 9 (.string (str fr)), by simp [updV], hb, hG.any gk.out g9.out _ rfl, hF2.step (fun _ h => h) (by decide) _, hF8.step (fun _ h => h) (by decide) _, hF14.step (fun _ h => h) (by decide) _, hF19.step (fun _ h => h) (by decide) _⟩
                    · refine wpOp_step rfl (fun K' hK => ?_)
                      simp [Region.binds] at hd
                      have e3 : xv 3 = .string (str fr) := hG.get g3.out (by simp [hd])
                      have e9 : xv 9 = .string (str fr) := hG.get g9.out (by simp [hd])
                      clear hd hin hD
                      go_simp
                      exact hK _ _ ⟨updV xv 10 (.bool false), by simp [updV, e3, e9], hb, hG.any gk.out g10.out _ rfl, hF2.step (fun _ h => h) (by decide) _, hF8.step (fun _ h => h) (by decide) _, hF14.step (fun _ h => h) (by decide) _, hF19.step (fun _ h => h) (by decide) _⟩
                    · refine wpOp_step rfl (fun K' hK => ?_)
                      simp [Region.binds] at hd
                      have e10 : xv 10 = .bool false := hG.get g10.out (by simp [hd])
                      clear hd hin hD
                      go_simp
                      exact hK _ _ ⟨updV xv 11 (.bool false), by simp [updV, e10], hb, hG.any gk.out g11.out _ rfl, hF2.step (fun _ h => h) (by decide) _, hF8.step (fun _ h => h) (by decide) _, hF14.step (fun _ h => h) (by decide) _, hF19.step (fun _ h => h) (by decide) _⟩
                    · refine wpOp_step rfl (fun K' hK => ?_)
                      simp [Region.binds] at hd
                      have e11 : xv 11 = .bool false := hG.get g11.out (by simp [hd])
                      clear hd hin hD
                      go_simp
                      exact hK _ _ ⟨updV xv 12 (Value.pointer (some { block := p, off := 0 })), by simp [updV, e11], hb, hG.any gk.out g12.out _ rfl, hF2.step (fun _ h => h) (by decide) _, hF8.step (fun _ h => h) (by decide) _, hF14.step (fun _ h => h) (by decide) _, hF19.step (fun _ h => h) (by decide) _⟩
                    · refine wpOp_step rfl (fun K' hK => ?_)
                      simp [Region.binds] at hd
                      have e11 : xv 11 = .bool false := hG.get g11.out (by simp [hd])
                      clear hd hin hD
                      go_simp
                      exact hK _ _ ⟨updV xv 13 (Value.int IntKind.u64 ↑id), by simp [updV, e11], hb, hG.any gk.out g13.out _ rfl, hF2.step (fun _ h => h) (by decide) _, hF8.step (fun _ h => h) (by decide) _, hF14.step (fun _ h => h) (by decide) _, hF19.step (fun _ h => h) (by decide) _⟩
                    · refine wpOp_step rfl (fun K' hK => ?_)
                      simp [Region.binds] at hd
                      have e12 : xv 12 = Value.pointer (some { block := p, off := 0 }) := hG.get g12.out (by simp [hd])
                      have e13 : xv 13 = Value.int IntKind.u64 ↑id := hG.get g13.out (by simp [hd])
                      have e11 : xv 11 = .bool false := hG.get g11.out (by simp [hd])
                      clear hd hin hD
                      go_simp
                      refine (C3.out W hb).mono ?_
                      rintro e w' ⟨v, rfl, hv, hb'⟩
                      go_wp2_with fail
                      exact ⟨updV xv 14 v, by simp [updV, e12, e13, e11], JS.out _ _ hb' hb, hG.any gk.out g14.out v trivial, hF2.on st2.out hb' (by decide) _, hF8.on st8.out hb' (by decide) _, Fe.new (hv), hF19.on st19.out hb' (by decide) _⟩
                    · refine wpOp_step rfl (fun K' hK => ?_)
                      simp [Region.binds] at hd
                      have e11 : xv 11 = .bool false := hG.get g11.out (by simp [hd])
                      obtain ⟨c0, c1, c2, c3, c4⟩ := BX.out W hb
                      clear hd hin hD
                      go_simp
                      exact hK _ _ ⟨updV xv 15 (.agg #[.int .i64 (N : Int), .int .i64 (B : Int), .int .i64 (Q : Int), .int .i64 (E : Int), .int .i64 (F : Int)]), by simp [updV, e11], hb, hG.any gk.out g15.out _ rfl, hF2.step (fun _ h => h) (by decide) _, hF8.step (fun _ h => h) (by decide) _, hF14.step (fun _ h => h) (by decide) _, hF19.step (fun _ h => h) (by decide) _⟩
                    · refine wpOp_step rfl (fun K' hK => ?_)
                      simp [Region.binds] at hd
                      have e11 : xv 11 = .bool false := hG.get g11.out (by simp [hd])
                      clear hd hin hD
                      go_simp
                      exact hK _ _ ⟨updV xv 16 (Value.int IntKind.u64 ↑S), by simp [updV, e11], hb, hG.any gk.out g16.out _ rfl, hF2.step (fun _ h => h) (by decide) _, hF8.step (fun _ h => h) (by decide) _, hF14.step (fun _ h => h) (by decide) _, hF19.step (fun _ h => h) (by decide) _⟩
                    · refine wpOp_step rfl (fun K' hK => ?_)
                      simp [Region.binds] at hd
                      have e11 : xv 11 = .bool false := hG.get g11.out (by simp [hd])
                      clear hd hin hD
                      go_simp
                      exact hK _ _ ⟨updV xv 17 (Value.slice ao n cap), by simp [updV, e11], hb, hG.any gk.out g17.out _ rfl, hF2.step (fun _ h => h) (by decide) _, hF8.step (fun _ h => h) (by decide) _, hF14.step (fun _ h => h) (by decide) _, hF19.step (fun _ h => h) (by decide) _⟩
                    · refine wpOp_step rfl (fun K' hK => ?_)
                      simp [Region.binds] at hd
                      have e11 : xv 11 = .bool false := hG.get g11.out (by simp [hd])
                      clear hd hin hD
                      go_simp
                      exact hK _ _ ⟨updV xv 18 (Value.int IntKind.u64 ↑id), by simp [updV, e11], hb, hG.any gk.out g18.out _ rfl, hF2.step (fun _ h => h) (by decide) _, hF8.step (fun _ h => h) (by decide) _, hF14.step (fun _ h => h) (by decide) _, hF19.step (fun _ h => h) (by decide) _⟩
                    · refine wpOp_step rfl (fun K' hK => ?_)
                      simp [Region.binds] at hd
                      have e15 : xv 15 = .agg #[.int .i64 (N : Int), .int .i64 (B : Int), .int .i64 (Q : Int), .int .i64 (E : Int), .int .i64 (F : Int)] := hG.get g15.out (by simp [hd])
                      have e16 : xv 16 = Value.int IntKind.u64 ↑S := hG.get g16.out (by simp [hd])
                      have e17 : xv 17 = Value.slice ao n cap := hG.get g17.out (by simp [hd])
                      have e18 : xv 18 = Value.int IntKind.u64 ↑id := hG.get g18.out (by simp [hd])
                      have e11 : xv 11 = .bool false := hG.get g11.out (by simp [hd])
                      clear hd hin hD
                      go_simp
                      refine (C4.out W hb).mono ?_
                      rintro e w' ⟨v, rfl, hv, hb'⟩
                      go_wp2_with fail
                      exact ⟨updV xv 19 v, by simp [updV, e15, e16, e17, e18, e11], JS.out _ _ hb' hb, hG.any gk.out g19.out v trivial, hF2.on st2.out hb' (by decide) _, hF8.on st8.out hb' (by decide) _, hF14.on st14.out hb' (by decide) _, Fe.new (hv)⟩
                    · refine wpOp_step rfl (fun K' hK => ?_)
                      simp [Region.binds] at hd
                      have l14 : listed.getD 14 false = true := by simp [hd]
                      have m14 := hF14 l14
                      have l19 : listed.getD 19 false = true := by simp [hd]
                      have m19 := hF19 l19
                      have e11 : xv 11 = .bool false := hG.get g11.out (by simp [hd])
                      clear hd hin hD
                      go_simp
                      refine (C5.out W _ _ hb m14 m19).mono ?_
                      rintro e w' ⟨v, rfl, hv, hb'⟩
                      go_wp2_with fail
                      exact ⟨updV xv 20 v, by simp [updV, e11], JS.out _ _ hb' hb, hG.any gk.out g20.out v hv, hF2.on st2.out hb' (by decide) _, hF8.on st8.out hb' (by decide) _, hF14.on st14.out hb' (by decide) _, hF19.on st19.out hb' (by decide) _⟩
                    · refine wpOp_step rfl (fun K' hK => ?_)
                      simp [Region.binds] at hd
                      have e20 : xv 20 = .bool true := hG.get g20.out (by simp [hd])
                      have e11 : xv 11 = .bool false := hG.get g11.out (by simp [hd])
                      clear hd hin hD
                      go_simp
                      exact hK _ _ ⟨updV xv 21 (.bool false), by simp [updV, e20, e11], hb, hG.any gk.out g21.out _ rfl, hF2.step (fun _ h => h) (by decide) _, hF8.step (fun _ h => h) (by decide) _, hF14.step (fun _ h => h) (by decide) _, hF19.step (fun _ h => h) (by decide) _⟩
                    · refine wpOp_step rfl (fun K' hK => ?_)
                      simp [Region.binds] at hd
                      have e11 : xv 11 = .bool false := hG.get g11.out (by simp [hd])
                      have e21 : xv 21 = .bool false := hG.get g21.out (by simp [hd])
                      clear hd hin hD
                      go_simp
                      exact hK _ _ ⟨updV xv 22 (.bool false), by simp [updV, e11, e21], hb, hG.any gk.out g22.out _ rfl, hF2.step (fun _ h => h) (by decide) _, hF8.step (fun _ h => h) (by decide) _, hF14.step (fun _ h => h) (by decide) _, hF19.step (fun _ h => h) (by decide) _⟩
                  · rintro listed ac W ⟨xv, rfl, hb, hG, hF2, hF8, hF14, hF19⟩ hall
                    have e22 : xv 22 = .bool false := hG.get g22.out (hall 22 (by decide))
                    have XW : Hid ((fun W => Below wr.heap.size wr W) W) := hb
                    clear hall hG hb gk JS g0 g1 g2 g3 g4 g5 g6 g7 g8 g9 g10 g11 g12 g13 g14 g15 g16 g17 g18 g19 g20 g21 g22 hF2 st2 hF8 st8 hF14 st14 hF19 st19
                    rw [e22]
                    clear e22
                    have BM : Hid (Below w6.heap.size w6 W) := on_below BL.out XW.out
                    clear BL XW BX C1 C2 C3 C4 C5
                    go_wp2
                    go_roundw
                    case rel => exact ⟨i + 1, by omega, by go_num, BM⟩
                    case measure => simp [intOf]; omega
              · have BE : Hid (Below w.heap.size w wr) := on_below BB.out BL.out
                clear BL
                go_wp2
                go_ret
                exact ⟨rfl, BE.out⟩
    · have ol : Bs w3 (.slice oa n oc) l := O3.out.bs
      have CN : Hid (Calls Tryz.prog 6 #[.agg #[.int .i64 (N : Int), .int .i64 (B : Int), .int .i64 (Q : Int), .int .i64 (E : Int), .int .i64 (F : Int)], .int .u64 (S : Int), .slice oa n oc] w3 fun e w' => e = .returned (.tuple #[.pointer none, .int .i64 10]) ∧ Below w3.heap.size w3 w') := enew_long N B Q E F S _ l w3 hm ol (by rw [HL.out]; exact hl)
      have hgt : (n : Int) > ((N * B : Nat) : Int) := by omega
      clear hl hP hm hpr hmd ol
      generalize N * B = P at *
      go_wp2_with fail
      refine CN.out.mono ?_
      rintro e w4 ⟨rfl, hb⟩
      have B4 : Hid (Below w.heap.size w w4) := on_below B3.out hb
      have P4 : Hid (Five w4 b0 N B Q E F) := P3.out.below hb
      clear hb CN P3 B3 O3 X3 c0 c1 c2 c3 c4
      obtain ⟨c0, c1, c2, c3, c4⟩ := P4.out
      go_wp2_with fail
      refine (CM.out _).mono ?_
      rintro e w5 ⟨rfl, hb⟩
      have B5 : Hid (Below w.heap.size w w5) := on_below B4.out hb
      have P5 : Hid (Five w5 b0 N B Q E F) := P4.out.below hb
      clear hb CM B4 P4 c0 c1 c2 c3 c4
      obtain ⟨c0, c1, c2, c3, c4⟩ := P5.out
      go_wp2
      go_ret
      exact ⟨rfl, B5.out⟩

theorem emitFrames_law (N B Q E F S : Int) (ov : Value) (l : List UInt8) (iv : Value) (il : List Int) (w : World) (h : (Lit.int .u64 S).wf = true ∧ Bs w ov l ∧ Sl 1 w iv il.length (il.map (Value.int .u64)) ∧ ∀ z ∈ il, (Lit.int .u64 z).wf = true) :
    Calls Tryz.prog 3 #[.agg #[.int .i64 N, .int .i64 B, .int .i64 Q, .int .i64 E, .int .i64 F, .int .u64 S, ov, iv]] w fun e w' => e = .returned (.bool true) ∧ Below w.heap.size w w' := by
  obtain ⟨hS, ho, hi, hk⟩ := h
  simp [Lit.wf, IntKind.min, IntKind.max, IntKind.bits, IntKind.signed] at hS
  obtain ⟨s, rfl⟩ : ∃ s : Nat, S = s := ⟨S.toNat, by omega⟩
  obtain ⟨ids, hs⟩ := us_of hi hk
  exact emitFrames_walk N B Q E F s ov l iv ids w (by omega) ho hs

end Go.Proofs.YtkcijbejngnalaaGreat
