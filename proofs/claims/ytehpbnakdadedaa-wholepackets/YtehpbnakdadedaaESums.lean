/-
  EmitSums.
-/
import Derived.Test.YtehpbnakdadedaaEBlks
namespace Go.Proofs.Ytehpbnakdadedaa
open Go.RowKit
set_option linter.unusedVariables false

theorem xorAll_xorL (a b : List UInt8) (ls : List (List UInt8)) : xorAll (xorL a b) ls = xorL a (xorAll b ls) := by
  induction ls generalizing b with
  | nil => rfl
  | cons x ls ih =>
    show xorAll (xorL (xorL a b) x) ls = xorL a (xorAll (xorL b x) ls)
    rw [xorL_assoc]
    exact ih _
theorem xorAll_from {n : Nat} {a : List UInt8} (h : a.length = n) (ls : List (List UInt8)) : xorAll a ls = xorL a (xorAll (zeros n) ls) := by
  rw [← xorAll_xorL, xorL_zeros_right h]
/-- A check block, and all that it is made of: nothing. -/
theorem sum_chk {n : Nat} {D : List (List UInt8)} {of : List Int} {x : List UInt8} (hok : OkOf n D of) (hx : chkD n D of = x) : fitB n (x :: pkD D of) = true ∧ xorAll (zeros n) (x :: pkD D of) = zeros n := by
  have hl : x.length = n := by rw [← hx]; exact chkD_length hok
  refine ⟨fitB_of (by intro y hy; rcases List.mem_cons.1 hy with rfl | hy; exact hl; exact pkD_fit hok y hy), ?_⟩
  rw [xorAll_first hl, xorAll_from hl]
  have : xorAll (zeros n) (pkD D of) = x := hx
  rw [this, xorL_self, hl]
theorem pkD_next {D : List (List UInt8)} {of : List Int} {j m : Nat} {y : List UInt8} (hj : j < of.length) (hm : of[j] = (m : Int)) (hy : D[m]? = some y) : pkD D (of.take (j + 1)) = pkD D (of.take j) ++ [y] := by
  unfold pkD
  rw [List.take_succ_eq_append_getElem hj, List.map_append]
  simp [hm, List.getD, hy]

/-- A packet's payload. -/
theorem run_payload (S N B Q E F L I : Int) (v : Value) (W : World) : (Instr.field 65 (.agg #[.int .u64 S, .int .i64 N, .int .i64 B, .int .i64 Q, .int .i64 E, .int .i64 F, .int .i64 L, .int .u64 I, v]) 1).run Try.prog W = .ok v W := by kernel_rfl

set_option maxRecDepth 100000 in
set_option maxHeartbeats 8000000 in
theorem emitSums_walk (N B Q E F : Int) (S : Nat) (ov : Value) (l : List UInt8) (iv : Value) (ids : List Nat) (w : World) (hS : S < 18446744073709551616) (ho : Bs w ov l) (hi : Us w iv ids) :
    Calls Try.prog 9 #[.agg #[.int .i64 N, .int .i64 B, .int .i64 Q, .int .i64 E, .int .i64 F, .int .u64 (S : Int), ov, iv]] w fun e w' => e = .returned (.bool true) ∧ Below w.heap.size w w' := by
  have HO : Hid (Bs w ov l) := ho
  have HS : Hid (S < 18446744073709551616) := hS
  have HU : Hid (Us w iv ids) := hi
  obtain ⟨⟨-, io, icap, rfl, hi2, hi3, -, -⟩, -⟩ := hi
  obtain ⟨-, ao, cap, rfl, h2, h3, -, -⟩ := ho
  unfold maxLen at h3 hi3
  obtain ⟨n, hn⟩ : ∃ n, l.length = n := ⟨_, rfl⟩
  obtain ⟨m, hm⟩ : ∃ m, ids.length = m := ⟨_, rfl⟩
  rw [hn] at h2 HO ⊢
  rw [hm] at hi2 HU ⊢
  have HL : Hid (l.length = n) := hn
  have HM : Hid (ids.length = m) := hm
  clear hn hm hS
  go_enter Try.func9, Try.ntmps9
  go_wp2_with fail
  refine (speaks14_any _).mono ?_
  rintro e w1 ⟨rfl, hb⟩
  have B1 : Hid (Below w.heap.size w w1) := on_below (below_alloc _ _) hb
  have F1 : Hid (CaseC w1 w.heap.size N B Q E F S (.slice ao n cap) (.slice io m icap)) := (case_new w _ N B Q E F S _ _).below hb
  clear hb
  obtain ⟨c0, c1, c2, c3, c4, c5, c6, c7⟩ := F1.out
  have hsz : w.heap.size < w1.heap.size := cell_block_lt c0
  go_wp2_with fail
  go_region
  have B2 : Hid (Below w.heap.size w (w1.alloc (.cells #[.int .i64 N, .int .i64 B, .int .i64 Q, .int .i64 E, .int .i64 F] 23)).drew) := on_below (on_below B1.out (below_alloc _ _)) (below0 _)
  have P2 : Hid (Five (w1.alloc (.cells #[.int .i64 N, .int .i64 B, .int .i64 Q, .int .i64 E, .int .i64 F] 23)).drew w1.heap.size N B Q E F) := (five_new w1 _ N B Q E F).below (below0 _)
  obtain ⟨w2, hw2⟩ : ∃ W, (w1.alloc (.cells #[.int .i64 N, .int .i64 B, .int .i64 Q, .int .i64 E, .int .i64 F] 23)).drew = W := ⟨_, rfl⟩
  rw [hw2] at B2 P2 ⊢
  clear hw2 B1 F1 c0 c1 c2 c3 c4 c5 c6 c7 hsz
  generalize w1.heap.size = b0 at *
  obtain ⟨c0, c1, c2, c3, c4⟩ := P2.out
  go_wp2_with fail
  refine (small14_any N B Q E F _ l n w2 (HO.out.below B2.out) HL.out).mono ?_
  rintro e w3 ⟨⟨b, rfl, hb⟩, hx⟩
  have B3 : Hid (Below w.heap.size w w3) := on_below B2.out hx
  have P3 : Hid (Five w3 b0 N B Q E F) := P2.out.below hx
  clear hx B2 P2 c0 c1 c2 c3 c4
  cases b with
  | false =>
    clear hb
    go_wp2
    go_ret
    exact ⟨rfl, B3.out⟩
  | true =>
    obtain ⟨hm, h60, hb60, hf, hl⟩ := hb.1 rfl
    clear hb
    by_cases hm50 : 50 < m
    · clear hm
      go_wp2
      go_ret
      exact ⟨rfl, B3.out⟩
    obtain ⟨N, B, Q, E, F, A, rfl, rfl, rfl, rfl, rfl, hpr, hmd⟩ := pr_natE hm
    have hN60 : N ≤ 60 := by omega
    have hB60 : B ≤ 60 := by omega
    have hA6 : A ≤ 1000000 := may_small hpr (by omega)
    have hl' : n ≤ N * B := by exact_mod_cast hl
    have hM : Hid (May (N : Int) (B : Int) (Q : Int) (E : Int) (F : Int)) := hm
    have HD : Hid (MayD F E) := hmd
    have hea : Hid ((N : Int) + aux (N : Int) (Q : Int) (E : Int) = ((N + A : Nat) : Int)) := by have := hpr.ea; unfold Hid; omega
    have CN : Hid (Calls Try.prog 27 #[.agg #[.int .i64 (N : Int), .int .i64 (B : Int), .int .i64 (Q : Int), .int .i64 (E : Int), .int .i64 (F : Int)], .int .u64 (S : Int), .slice ao n cap] w3 fun e w' => ∃ p, e = .returned (.tuple #[.pointer (some ⟨p, 0, none⟩), .int .i64 0]) ∧ Enc w3.heap.size w' p S N B Q E F n (N + A) (compD N B (hasR S A Q N) l) ∧ Below w3.heap.size w3 w') := enew_yes N B Q A S E F n _ l w3 hpr HS.out (HO.out.below B3.out) HL.out hl'
    have OKc : Hid (∀ (id k : Nat) (of : List Int), Chk F E S (N + A) id k of → OkOf B (compD N B (hasR S A Q N) l) of) := fun id k of hc => hc.ok (hasR_rw S A Q N) rfl
    have DM : Hid (∀ x ∈ compD N B (hasR S A Q N) l, x.length = B) := compD_mem (hasR_rw S A Q N)
    obtain ⟨D, hD⟩ : ∃ D, compD N B (hasR S A Q N) l = D := ⟨_, rfl⟩
    rw [hD] at CN DM OKc
    clear hD hm h60 hb60 hf hl hpr hmd hl'
    obtain ⟨c0, c1, c2, c3, c4⟩ := P3.out
    go_wp2_with fail
    refine CN.out.mono ?_
    rintro e w4 ⟨p, rfl, he, hb4⟩
    have B4 : Hid (Below w.heap.size w w4) := on_below B3.out hb4
    have P4 : Hid (Five w4 b0 N B Q E F) := P3.out.below hb4
    have E4 : Hid (Enc w3.heap.size w4 p S N B Q E F n (N + A) D) := he
    obtain ⟨B0, hB0⟩ : ∃ B0, w3.heap.size = B0 := ⟨_, rfl⟩
    rw [hB0] at E4
    clear he hb4 CN B3 P3 c0 c1 c2 c3 c4 hB0
    go_wp2
    go_loopw [48] (fun jv wr => ∃ i : Nat, i ≤ m ∧ jv = .int .i64 i ∧ Hid (Below w4.heap.size w4 wr)) (fun jv _ => m - (intOf jv).toNat)
    case atStart => exact ⟨0, by omega, rfl, Below.refl _ _⟩
    case round =>
      obtain ⟨i, hi, rfl, BB⟩ := hrel
      by_cases hlt : i < m
      · obtain ⟨wa, hwa⟩ : ∃ x, x = wr := ⟨_, rfl⟩
        subst hwa
        have hil : i < ids.length := by rw [HM.out]; exact hlt
        obtain ⟨⟨-, ao', cap', hv0, -, -, -, h5⟩, hbd⟩ := HU.out
        injection hv0 with e1 e2 e3
        subst e1
        obtain ⟨bi, oi, rfl, hc0⟩ : ∃ b off, io = some ⟨b, off, none⟩ ∧ ∀ j u, (ids.map uv)[j]? = some u → w.cell? ⟨b, off + j, none⟩ = some u := by
          rcases h5 with h0 | h0
          · omega
          · exact h0
        have ck0 := hc0 i _ (map_uv_at ids i hil)
        have ck := ((on_below B4.out BB.out).cell (cell_block_lt ck0)).trans ck0
        have HI : Hid (ids[i] < 18446744073709551616) := hbd _ (List.getElem_mem hil)
        clear hc0 ck0 e2 e3 hbd
        generalize ids[i] = id at *
        obtain ⟨k, of, hch⟩ := chk_is E S (N + A) id HD.out.f2
        have hok := OKc.out id k of hch
        have hkn : of.length = k := hch.len
        have hkA : k ≤ 1000060 := by have := (hch.many (by have := HD.out.f2; have := hM.out.1; omega)).2.2; omega
        have HK : Hid (of.length = k) := hkn
        obtain ⟨x, hx⟩ : ∃ x, chkD B D of = x := ⟨_, rfl⟩
        have SC : Hid (fitB B (x :: pkD D of) = true ∧ xorAll (zeros B) (x :: pkD D of) = zeros B) := sum_chk hok hx
        have XL : Hid (x.length = B) := by unfold Hid; rw [← hx]; exact chkD_length hok
        have MO : Hid (∀ z ∈ of, ∃ (j : Nat) (y : List UInt8), z = (j : Int) ∧ D[j]? = some y ∧ y.length = B) := hok
        have CP : Hid (Calls Try.prog 29 #[.pointer (some ⟨p, 0, none⟩), .int .u64 id] wa fun e w' => ∃ q, e = .returned (.agg #[.int .u64 (S : Int), .int .i64 (N : Int), .int .i64 (B : Int), .int .i64 (Q : Int), .int .i64 (E : Int), .int .i64 (F : Int), .int .i64 (n : Int), .int .u64 (id : Int), .slice (some ⟨q, 0, none⟩) B B]) ∧ wa.heap.size ≤ q ∧ Blk w' q [] x [] ∧ Below wa.heap.size wa w') := by
          have := epacket_any B0 p S N B Q E F n (N + A) id k D of wa (E4.out.below BB.out) (by omega) hch HD.out (by omega) HS.out HI.out hok
          rw [hx] at this
          exact this
        have CI : Hid (∀ W, Calls Try.prog 30 #[.agg #[.int .i64 (N : Int), .int .i64 (B : Int), .int .i64 (Q : Int), .int .i64 (E : Int), .int .i64 (F : Int)], .int .u64 (S : Int), .int .u64 (id : Int)] W fun e w' => ∃ b c, e = .returned (.slice b k c) ∧ OwnZ W.heap.size w' (.slice b k c) k of ∧ Below W.heap.size W w') := fun W => rblocks_chk hch N B Q W hM.out HD.out hea.out HS.out HI.out
        clear hch hok hkn hx HI
        go_wp2_with fail
        refine CP.out.mono ?_
        rintro e w5 ⟨q5, rfl, hq5, hk5, hb5⟩
        have B5 : Hid (Below wa.heap.size wa w5) := hb5
        have K5 : Hid (Blk w5 q5 [] x []) := hk5
        have Q5 : Hid (wa.heap.size ≤ q5) := hq5
        have P5 : Hid (Five w5 b0 N B Q E F) := P4.out.below (on_below BB.out hb5)
        clear hb5 hk5 hq5 CP
        have hsz5 : b0 < w5.heap.size := cell_block_lt P5.out.1
        have hfd := run_payload (S : Int) (N : Int) (B : Int) (Q : Int) (E : Int) (F : Int) (n : Int) (id : Int) (.slice (some ⟨q5, 0, none⟩) B B)
        obtain ⟨c0, c1, c2, c3, c4⟩ := P5.out
        go_upto_region 13 with fail
        obtain ⟨w6, hw6⟩ : ∃ w6, w5.alloc (.cells #[.slice (some ⟨q5, 0, none⟩) B B] 25) = w6 := ⟨_, rfl⟩
        obtain ⟨r6, hr6⟩ : ∃ r6, w5.heap.size = r6 := ⟨_, rfl⟩
        have B6 : Hid (Below wa.heap.size wa w6) := by rw [← hw6]; exact on_below B5.out (below_alloc _ _)
        have P6 : Hid (Five w6 b0 N B Q E F) := by rw [← hw6]; exact P5.out.below (below_alloc _ _)
        have O6 : Hid (w6.ownsRow wa.heap.size 25 1 (.slice (some ⟨r6, 0, none⟩) 1 1) 1 [.slice (some ⟨q5, 0, none⟩) B B]) := by rw [← hw6, ← hr6]; exact World.ownsRow_lit w5 #[.slice (some ⟨q5, 0, none⟩) B B] 1 B5.out.size (by simp [maxLen]) rfl
        have R6 : Hid (RowsB wa.heap.size w6 [.slice (some ⟨q5, 0, none⟩) B B] [x]) := by
          refine (RowsB.start _ _).snoc (vs := []) (ls := []) ?_
          rw [XL.out]
          have h6 : Blk w6 q5 [] x [] := by rw [← hw6]; exact K5.out.below (below_alloc _ _)
          exact h6.owb XL.out (by omega) Q5.out
        rw [hw6, hr6]
        clear hw6 hr6 B5 K5 Q5 P5 hsz5 hfd c0 c1 c2 c3 c4
        obtain ⟨c0, c1, c2, c3, c4⟩ := P6.out
        go_wp2_with fail
        refine (CI.out w6).mono ?_
        rintro e w7 ⟨zb, zc, rfl, hz7, hb7⟩
        have B7 : Hid (Below wa.heap.size wa w7) := on_below B6.out hb7
        have P7 : Hid (Five w7 b0 N B Q E F) := P6.out.below hb7
        have O7 : Hid (w7.ownsRow wa.heap.size 25 1 (.slice (some ⟨r6, 0, none⟩) 1 1) 1 [.slice (some ⟨q5, 0, none⟩) B B]) := owns_below O6.out hb7
        have R7 : Hid (RowsB wa.heap.size w7 [.slice (some ⟨q5, 0, none⟩) B B] [x]) := R6.out.below hb7
        have Z7 : Hid (OwnZ wa.heap.size w7 (.slice zb k zc) k of) := hz7.mono B6.out.size
        clear hz7 hb7 CI O6 R6 P6 B6 c0 c1 c2 c3 c4
        go_wp2
        go_loopw [11, 62] (fun lv jv wr => ∃ (j c : Nat) (a : Option Addr) (vs : List Value), j ≤ k ∧ lv = .slice a (1 + j) c ∧ jv = .int .i64 j ∧ Hid (wr.ownsRow wa.heap.size 25 1 (.slice a (1 + j) c) (1 + j) vs) ∧ Hid (RowsB wa.heap.size wr vs (x :: pkD D (of.take j))) ∧ Hid (OwnZ wa.heap.size wr (.slice zb k zc) k of) ∧ Hid (Below wa.heap.size wa wr)) (fun _ jv _ => k - (intOf jv).toNat)
        case atStart => exact ⟨0, 1, _, _, by omega, rfl, rfl, O7.out, R7.out, Z7, B7⟩
        case round =>
          obtain ⟨j, c, a, vs, hj, rfl, rfl, O, R, Z, BJ⟩ := hrel
          clear O7 R7 Z7 B7
          by_cases hjk : j < k
          · have hjo : j < of.length := by rw [HK.out]; exact hjk
            obtain ⟨mm, y, hmm, hy, hyl⟩ := MO.out of[j] (List.getElem_mem hjo)
            have NX : Hid (pkD D (of.take (j + 1)) = pkD D (of.take j) ++ [y]) := pkD_next hjo hmm hy
            obtain ⟨zbb, zo, rfl, cz⟩ : ∃ b off, zb = some ⟨b, off, none⟩ ∧ wr.cell? ⟨b, off + j, none⟩ = some (.int .i64 (mm : Int)) := by
              obtain ⟨_, a', c', hv, _, _, _, h5⟩ := Z.out.zs
              injection hv with e1 e2 e3
              subst e1
              rcases h5 with h0 | ⟨b, off, e, hc⟩
              · omega
              · exact ⟨b, off, e, hc j _ (by rw [map_z_at of j hjo, hmm])⟩
            have YL : Hid (y.length = B) := hyl
            have CC : Hid (Calls Try.prog 28 #[.pointer (some ⟨p, 0, none⟩), .int .i64 mm] wr fun e w' => ∃ q, e = .returned (.slice (some ⟨q, 0, none⟩) B B) ∧ wr.heap.size ≤ q ∧ Blk w' q [] y [] ∧ Below wr.heap.size wr w') := ecomp_yes _ p S N B Q E F n (N + A) mm D y wr (E4.out.below (on_below BB.out BJ.out)) (by omega) hy hyl
            clear hmm hy hyl hjo
            go_wp2_with fail
            refine CC.out.mono ?_
            rintro e w8 ⟨q8, rfl, hq8, hk8, hb8⟩
            have O8 : Hid (w8.ownsRow wa.heap.size 25 1 (.slice a (1 + j) c) (1 + j) vs) := owns_below O.out hb8
            have R8 : Hid (RowsB wa.heap.size w8 (vs ++ [.slice (some ⟨q8, 0, none⟩) B B]) (x :: pkD D (of.take (j + 1)))) := by
              unfold Hid
              rw [NX.out, ← List.cons_append]
              exact (R.out.below hb8).snoc (by rw [YL.out]; exact hk8.owb YL.out (by omega) (Nat.le_trans BJ.out.size hq8))
            have Z8 : Hid (OwnZ wa.heap.size w8 (.slice (some ⟨zbb, zo, none⟩) k zc) k of) := Z.out.below hb8
            have B8 : Hid (Below wa.heap.size wa w8) := on_below BJ.out hb8
            clear hq8 hk8 hb8 O R Z BJ NX YL CC cz
            go_wp2_with (at_builtin; refine wpList_addS _ rfl (.tmp 66) (.tmp 70) rfl wa.heap.size (.slice a (1 + j) c) (1 + j) vs rfl (owns_below O8.out (below_alloc _ _)) _ (.slice (some ⟨q8, 0, none⟩) B B) rfl rfl (alloc_one _ _) (by omega) (by have := B8.out.size; simp; omega) ?_; intro a4 c4 w9 ho4 hg4 hnc4 hcm4)
            have OA : wa.heap.size ≤ (w8.alloc (.cells #[.slice (some ⟨q8, 0, none⟩) B B] 25)).heap.size := by have := B8.out.size; simp; omega
            have OW := owns_below O8.out (below_alloc w8 (.cells #[.slice (some ⟨q8, 0, none⟩) B B] 25))
            have R9 : Hid (RowsB wa.heap.size w9 (vs ++ [.slice (some ⟨q8, 0, none⟩) B B]) (x :: pkD D (of.take (j + 1)))) := (R8.out.below (below_alloc _ _)).grown OW hg4
            have Z9 : Hid (OwnZ wa.heap.size w9 (.slice (some ⟨zbb, zo, none⟩) k zc) k of) := by
              have hz := Z8.out.below (below_alloc w8 (.cells #[.slice (some ⟨q8, 0, none⟩) B B] 25))
              exact hz.kept (fun q hq => by
                obtain ⟨cur, hh⟩ := own_cells hz hq
                exact kind_stays OW hg4 hh (by decide))
            have B9 : Hid (Below wa.heap.size wa w9) := below_ownR (B8.out.alloc B8.out.size _) OW (Nat.le_refl _) OA hg4
            have O9 : Hid (w9.ownsRow wa.heap.size 25 1 (.slice a4 (1 + (j + 1)) c4) (1 + (j + 1)) (vs ++ [.slice (some ⟨q8, 0, none⟩) B B])) := ho4
            clear ho4 hg4 hnc4 hcm4 OA OW R8 Z8 B8 O8
            go_roundw
            case rel => exact ⟨j + 1, c4, a4, _, by omega, rfl, by go_num, O9, R9, Z9, B9⟩
            case measure => simp [intOf]; omega
          · obtain rfl : j = k := by omega
            have SV : Hid (Sl 1 wr (.slice a (1 + j) c) vs.length vs ∧ Parts wr vs (x :: pkD D of)) := by
              have h1 := R.out.parts
              rw [List.take_of_length_le (by rw [HK.out]; exact Nat.le_refl _)] at h1
              have e : vs.length = 1 + j := by have := O.out.1; omega
              exact ⟨by rw [e]; exact owned_sl O.out, h1⟩
            have PW : Hid (Five wr b0 N B Q E F) := P4.out.below (on_below BB.out BJ.out)
            have CF : Hid (Calls Try.prog 31 #[.int .i64 B, .slice a (1 + j) c] wr fun e w' => e = .returned (.bool true) ∧ w' = wr) := by
              have := rfits_any (B : Int) _ vs (x :: pkD D of) wr SV.out.1 SV.out.2
              rw [Int.toNat_natCast, SC.out.1, decide_eq_true (show (0 : Int) ≤ (B : Int) by omega)] at this
              exact this
            have CS : Hid (∀ W, Below wr.heap.size wr W → Calls Try.prog 23 #[.int .i64 B, .slice a (1 + j) c] W fun e w' => ∃ q, e = .returned (.slice (some ⟨q, 0, none⟩) B B) ∧ Blk w' q [] (zeros B) [] ∧ Below W.heap.size W w') := by
              intro W hW
              have := rsum_any B _ vs (x :: pkD D of) W (by omega) (SV.out.1.below hW) (SV.out.2.below hW) SC.out.1
              rw [SC.out.2] at this
              refine this.mono ?_
              rintro e w' ⟨rfl, h1, h2⟩
              exact ⟨_, rfl, h1, h2⟩
            have BW : Hid (Below w4.heap.size w4 wr) := on_below BB.out BJ.out
            clear O R Z BJ P7 SV BB
            obtain ⟨c0, c1, c2, c3, c4⟩ := PW.out
            go_wp2_with fail
            refine CF.out.mono ?_
            rintro e w8 ⟨rfl, rfl⟩
            go_wp2_with fail
            refine (CS.out w8 (by first | exact Below.refl _ _ | exact below0 _)).mono ?_
            rintro e w9 ⟨q9, rfl, hk9, hb9⟩
            have B9 : Hid (Below w4.heap.size w4 w9) := on_below BW.out hb9
            have CZ : Hid (Calls Try.prog 22 #[.slice (some ⟨q9, 0, none⟩) B B] w9 fun e w' => e = .returned (.bool true) ∧ w' = w9) := by
              have := rzero_any _ (zeros B) w9 (hk9.bs0 B B (by rw [zeros_length]) (Nat.le_refl _) (by unfold maxLen; omega))
              rw [zeroB_zeros] at this
              exact this
            clear hk9 hb9 CS CF BW PW c0 c1 c2 c3 c4
            go_wp2_with fail
            refine CZ.out.mono ?_
            rintro e w10 ⟨rfl, rfl⟩
            clear CZ
            go_wp2
            go_roundw
            case rel => exact ⟨i + 1, by omega, by go_num, B9⟩
            case measure => simp [intOf]; omega
      · obtain rfl : i = m := by omega
        have BE : Hid (Below w.heap.size w wr) := on_below B4.out BB.out
        clear BB
        go_wp2
        go_ret
        exact ⟨rfl, BE.out⟩

theorem emitSums_law (N B Q E F S : Int) (ov : Value) (l : List UInt8) (iv : Value) (il : List Int) (w : World) (h : (Lit.int .u64 S).wf = true ∧ Bs w ov l ∧ Sl 1 w iv il.length (il.map (Value.int .u64)) ∧ ∀ z ∈ il, (Lit.int .u64 z).wf = true) :
    Calls Try.prog 9 #[.agg #[.int .i64 N, .int .i64 B, .int .i64 Q, .int .i64 E, .int .i64 F, .int .u64 S, ov, iv]] w fun e w' => e = .returned (.bool true) ∧ Below w.heap.size w w' := by
  obtain ⟨hS, ho, hi, hk⟩ := h
  simp [Lit.wf, IntKind.min, IntKind.max, IntKind.bits, IntKind.signed] at hS
  obtain ⟨s, rfl⟩ : ∃ s : Nat, S = s := ⟨S.toNat, by omega⟩
  obtain ⟨ids, hs⟩ := us_of hi hk
  exact emitSums_walk N B Q E F s ov l iv ids w (by omega) ho hs

end Go.Proofs.Ytehpbnakdadedaa
