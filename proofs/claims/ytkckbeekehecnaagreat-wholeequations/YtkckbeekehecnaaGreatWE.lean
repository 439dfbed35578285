/-
  WholeEquations.
-/
import Derived.Test.YtkckbeekehecnaaGreatWEa
import Derived.Test.YtkckbeekehecnaaGreatLCase
import Derived.RegionTactic
import Derived.Deep.Light
namespace Go.Proofs.YtkckbeekehecnaaGreat
open Go.RowKit
set_option linter.unusedVariables false

theorem flat_most {k : Nat} : ∀ {ls : List (List Int)}, (∀ l ∈ ls, l.length ≤ k) → ls.flatten.length ≤ ls.length * k
  | [], _ => by simp
  | l :: ls, h => by
    have h1 := flat_most (ls := ls) (fun x hx => h x (List.mem_cons_of_mem _ hx))
    have h2 := h l List.mem_cons_self
    rw [List.flatten_cons, List.length_append, List.length_cons, Nat.add_mul]
    omega
theorem lsz_es {w : World} {es : List Qe} (h : ∀ e ∈ es, QeP w e) : LsZ w (es.map Qe.ov) (es.map Qe.of) := by
  refine ⟨by simp, fun i v l hv hl => ?_⟩
  rw [List.getElem?_map] at hv hl
  cases he : es[i]? with
  | none => rw [he] at hv; cases hv
  | some e =>
    rw [he] at hv hl
    obtain rfl := Option.some.inj hv
    obtain rfl := Option.some.inj hl
    exact (h e (List.mem_of_getElem? he)).1
theorem run_payloadW (S N B Q E F L I : Int) (v : Value) (W : World) : (Instr.field 53 (.agg #[.int .u64 S, .int .i64 N, .int .i64 B, .int .i64 Q, .int .i64 E, .int .i64 F, .int .i64 L, .int .u64 I, v]) 1).run Tryz.prog W = .ok v W := by kernel_rfl

theorem two_eqs (w : World) : let W := (((((w.alloc (.cells #[.int .i64 1] 3)).alloc (.cells #[.int .u8 1] 5)).alloc (.cells #[.int .i64 2] 3)).alloc (.cells #[.int .u8 1] 5)).alloc (.cells #[.slice (some ⟨w.heap.size, 0, none⟩) 1 1, .slice (some ⟨w.heap.size + 1, 0, none⟩) 1 1, .slice (some ⟨w.heap.size + 1 + 1, 0, none⟩) 1 1, .slice (some ⟨w.heap.size + 1 + 1 + 1, 0, none⟩) 1 1] 31)); Qs W (.slice (some ⟨w.heap.size + 1 + 1 + 1 + 1, 0, none⟩) 2 2) [⟨.slice (some ⟨w.heap.size, 0, none⟩) 1 1, .slice (some ⟨w.heap.size + 1, 0, none⟩) 1 1, [1], [1]⟩, ⟨.slice (some ⟨w.heap.size + 1 + 1, 0, none⟩) 1 1, .slice (some ⟨w.heap.size + 1 + 1 + 1, 0, none⟩) 1 1, [2], [1]⟩] ∧ Below w.heap.size w W := by
  have s1 : (w.alloc (.cells #[.int .i64 1] 3)).heap.size = w.heap.size + 1 := by simp
  have z1 := zs_lit1 w 1 3 _ rfl
  have x1 := below_alloc w (.cells #[.int .i64 1] 3)
  generalize w.alloc (.cells #[.int .i64 1] 3) = w1 at *
  have s2 : (w1.alloc (.cells #[.int .u8 1] 5)).heap.size = w.heap.size + 1 + 1 := by simp [s1]
  have z2 := bs_lit1 w1 1 5 _ _ (show Value.int .u8 1 = bv 1 from rfl) rfl
  rw [s1] at z2
  have x2 := below_alloc w1 (.cells #[.int .u8 1] 5)
  generalize w1.alloc (.cells #[.int .u8 1] 5) = w2 at *
  have s3 : (w2.alloc (.cells #[.int .i64 2] 3)).heap.size = w.heap.size + 1 + 1 + 1 := by simp [s2]
  have z3 := zs_lit1 w2 2 3 _ rfl
  rw [s2] at z3
  have x3 := below_alloc w2 (.cells #[.int .i64 2] 3)
  generalize w2.alloc (.cells #[.int .i64 2] 3) = w3 at *
  have s4 : (w3.alloc (.cells #[.int .u8 1] 5)).heap.size = w.heap.size + 1 + 1 + 1 + 1 := by simp [s3]
  have z4 := bs_lit1 w3 1 5 _ _ (show Value.int .u8 1 = bv 1 from rfl) rfl
  rw [s3] at z4
  have x4 := below_alloc w3 (.cells #[.int .u8 1] 5)
  generalize w3.alloc (.cells #[.int .u8 1] 5) = w4 at *
  refine ⟨?_, on_below x1 (on_below x2 (on_below x3 (on_below x4 (below_alloc _ _))))⟩
  exact Qs.lit2 w4 ⟨_, _, [1], [1]⟩ ⟨_, _, [2], [1]⟩ _ s4.symm ⟨z1.below (on_below x2 (on_below x3 x4)), z2.below (on_below x3 x4)⟩ ⟨z3.below x4, z4⟩
theorem two_ok (a b c d : Value) : addB 1 [⟨a, b, [1], [1]⟩, ⟨c, d, [2], [1]⟩] = true := rfl
theorem odd_12 : oddD [1, 2] = [1, 2] := by
  refine (oddD_of _).unique ⟨by decide, fun x => ?_⟩
  simp only [List.count_cons, List.count_nil]
  by_cases h1 : (1 : Int) = x
  · subst h1; simp
  · by_cases h2 : (2 : Int) = x
    · subst h2; simp
    · simp [h1, h2, Ne.symm h1, Ne.symm h2]
theorem two_l (a b c d : Value) : addL 1 [⟨a, b, [1], [1]⟩, ⟨c, d, [2], [1]⟩] = [1, 2] := by
  unfold addL
  rw [two_ok]
  exact odd_12

set_option maxRecDepth 100000 in
set_option maxHeartbeats 8000000 in
theorem wholeEquations_walk (N B Q E F : Int) (S : Nat) (ov : Value) (l : List UInt8) (iv : Value) (ids : List Nat) (w : World) (hS : S < 18446744073709551616) (ho : Bs w ov l) (hi : Us w iv ids) :
    Calls Tryz.prog 3 #[.agg #[.int .i64 N, .int .i64 B, .int .i64 Q, .int .i64 E, .int .i64 F, .int .u64 (S : Int), ov, iv]] w fun e w' => e = .returned (.bool true) ∧ Below w.heap.size w w' := by
  have HO : Hid (Bs w ov l) := ho
  have HS : Hid (S < 18446744073709551616) := hS
  have HU : Hid (Us w iv ids) := hi
  obtain ⟨⟨-, io, icap, rfl, hi2, hi3, -, -⟩, -⟩ := hi
  obtain ⟨-, ao, cap, rfl, h2, h3, -, -⟩ := ho
  unfold maxLen at h3 hi3
  obtain ⟨n, hn⟩ : ∃ n, l.length = n := ⟨_, rfl⟩
  obtain ⟨m, hm⟩ : ∃ m, ids.length = m := ⟨_, rfl⟩
  rw [hn] at h2 HO ⊢
  rw [hm] at hi2 HU ⊢
  have HL : Hid (l.length = n) := hn
  have HM : Hid (ids.length = m) := hm
  clear hn hm hS
  have F0 : Hid (CaseC (w.alloc (.cells #[.int .i64 N, .int .i64 B, .int .i64 Q, .int .i64 E, .int .i64 F, .int .u64 (S : Int), .slice ao n cap, .slice io m icap] 28)) w.heap.size N B Q E F S (.slice ao n cap) (.slice io m icap)) := case_new w _ N B Q E F S _ _
  have B0 : Hid (Below w.heap.size w (w.alloc (.cells #[.int .i64 N, .int .i64 B, .int .i64 Q, .int .i64 E, .int .i64 F, .int .u64 (S : Int), .slice ao n cap, .slice io m icap] 28))) := below_alloc _ _
  go_enter Tryz.func3, Tryz.ntmps3
  go_upto_region 1 with fail
  generalize w.alloc (.cells #[.int .i64 N, .int .i64 B, .int .i64 Q, .int .i64 E, .int .i64 F, .int .u64 (S : Int), .slice ao n cap, .slice io m icap] 28) = w0 at *
  go_wp2_with fail
  refine (qadd_uni 1 _ _ _ (by omega) (two_eqs w0).1 (by simp [ofsQ]) (by simp)).mono ?_
  rintro e w1 ⟨o1, v1, rfl, hq, hb⟩
  rw [two_l] at hq
  rw [two_ok]
  obtain ⟨oa1, oc1, rfl, -, -⟩ := zs_shape (show Zs w1 o1 [1, 2] from hq.1)
  obtain ⟨x1, hx1⟩ : ∃ x, addX 1 [(⟨.slice (some ⟨w0.heap.size, 0, none⟩) 1 1, .slice (some ⟨w0.heap.size + 1, 0, none⟩) 1 1, [1], [1]⟩ : Qe), ⟨.slice (some ⟨w0.heap.size + 1 + 1, 0, none⟩) 1 1, .slice (some ⟨w0.heap.size + 1 + 1 + 1, 0, none⟩) 1 1, [2], [1]⟩] = x := ⟨_, rfl⟩
  rw [hx1] at hq
  obtain ⟨ob1, od1, rfl, -, -⟩ := bs_shape (show Bs w1 v1 x1 from hq.2)
  have B1 : Hid (Below w.heap.size w w1) := on_below B0.out (on_below (two_eqs w0).2 hb)
  have F1 : Hid (CaseC w1 w.heap.size N B Q E F S (.slice ao n cap) (.slice io m icap)) := F0.out.below (on_below (two_eqs w0).2 hb)
  clear hq hb F0 B0 hx1
  obtain ⟨k1, hk1⟩ : ∃ k, x1.length = k := ⟨_, rfl⟩
  rw [hk1]
  clear hk1
  go_upto_region 2 with fail
  have F2 : Hid (CaseC (w1.alloc (.cells #[.slice oa1 2 oc1, .slice ob1 k1 od1] 31)) w.heap.size N B Q E F S (.slice ao n cap) (.slice io m icap)) := F1.out.below (below_alloc _ _)
  have B2 : Hid (Below w.heap.size w (w1.alloc (.cells #[.slice oa1 2 oc1, .slice ob1 k1 od1] 31))) := on_below B1.out (below_alloc _ _)
  have EB := EqB.new w1 (.slice oa1 2 oc1) (.slice ob1 k1 od1) 31
  obtain ⟨w2, hw2⟩ : ∃ x, w1.alloc (.cells #[.slice oa1 2 oc1, .slice ob1 k1 od1] 31) = x := ⟨_, rfl⟩
  rw [hw2] at F2 B2 EB ⊢
  obtain ⟨f0, f1⟩ := EB
  clear hw2 F1 B1
  obtain ⟨c0, c1, c2, c3, c4, c5, c6, c7⟩ := F2.out
  have CM : Hid (∀ W, Calls Tryz.prog 5 #[.agg #[.int .i64 N, .int .i64 B, .int .i64 Q, .int .i64 E, .int .i64 F]] W fun e w' => e = .returned (.bool (@decide (May N B Q E F) (decMay N B Q E F))) ∧ Below W.heap.size W w') := fun W => rmay_any N B Q E F W
  go_wp2_with fail
  refine (CM.out w2).mono ?_
  rintro e w3 ⟨rfl, hb⟩
  have B3 : Hid (Below w.heap.size w w3) := on_below B2.out hb
  have F3 : Hid (CaseC w3 w.heap.size N B Q E F S (.slice ao n cap) (.slice io m icap)) := F2.out.below hb
  clear hb CM B2 F2 c0 c1 c2 c3 c4 c5 c6 c7
  obtain ⟨c0, c1, c2, c3, c4, c5, c6, c7⟩ := F3.out
  by_cases hm : May N B Q E F
  case neg =>
    have hd : @decide (May N B Q E F) (decMay N B Q E F) = false := @decide_eq_false _ (decMay N B Q E F) hm
    rw [hd]
    clear hm hd
    go_wp2
    go_ret
    exact ⟨rfl, B3.out⟩
  have hd : @decide (May N B Q E F) (decMay N B Q E F) = true := @decide_eq_true _ (decMay N B Q E F) hm
  have HMy : Hid (May N B Q E F) := hm
  rw [hd]
  clear hd hm
  by_cases h40 : N > 30
  · go_wp2
    go_ret
    exact ⟨rfl, B3.out⟩
  by_cases hb40 : B > 40
  · go_wp2
    go_ret
    exact ⟨rfl, B3.out⟩
  by_cases hf200 : F > 200
  · go_wp2
    go_ret
    exact ⟨rfl, B3.out⟩
  obtain ⟨N, B, Q, E, F, A, rfl, rfl, rfl, rfl, rfl, hpr, hmd⟩ := pr_natE HMy.out
  have hN30 : N ≤ 30 := by omega
  have hB40 : B ≤ 40 := by omega
  have hF200 : F ≤ 200 := by omega
  have hA6 : A ≤ 200 := may_30 hpr (by omega)
  have hP : N * B ≤ 1200 := Nat.mul_le_mul hN30 hB40
  have wm : IntKind.i64.wrap ((N : Int) * (B : Int)) = ((N * B : Nat) : Int) := by rw [IntKind.wrap_i64]; simp; omega
  by_cases hl : n ≤ N * B
  case neg =>
    have hgt : (n : Int) > ((N * B : Nat) : Int) := by omega
    clear hl hP hpr hmd
    generalize N * B = P at *
    go_wp2
    go_ret
    exact ⟨rfl, B3.out⟩
  have hle : ¬ (n : Int) > ((N * B : Nat) : Int) := by omega
  by_cases hm20 : 30 < m
  · have hm20I : (30 : Int) < (m : Int) := by omega
    clear hl hP hpr hmd
    generalize N * B = P at *
    go_wp2
    go_ret
    exact ⟨rfl, B3.out⟩
  have hm20I : ¬ (30 : Int) < (m : Int) := by omega
  have HD : Hid (MayD F E) := hmd
  have hH : Hid (MayH N B Q E F n) := ⟨HMy.out, by omega, by exact_mod_cast hl⟩
  have PR : Hid (PrOk (N : Int) (B : Int) (Q : Int) (E : Int) (F : Int) N Q A) := hpr
  have CN : Hid (∀ W, Below w3.heap.size w3 W → Calls Tryz.prog 6 #[.agg #[.int .i64 (N : Int), .int .i64 (B : Int), .int .i64 (Q : Int), .int .i64 (E : Int), .int .i64 (F : Int)], .int .u64 (S : Int), .slice ao n cap] W fun e w' => ∃ p q, e = .returned (.tuple #[.pointer (some ⟨p, 0, none⟩), .int .i64 0]) ∧ Enc q w' p S N B Q E F n (N + A) (compD N B (hasR S A Q N) l) ∧ Below W.heap.size W w') := by
    intro W hW
    refine (enew_yes N B Q A S E F n _ l W hpr HS.out (HO.out.below (on_below B3.out hW)) HL.out hl).mono ?_
    rintro e w' ⟨p, rfl, he, hb⟩
    exact ⟨p, _, rfl, he, hb⟩
  have CB : Hid (∀ W, Below w3.heap.size w3 W → Calls Tryz.prog 7 #[.agg #[.int .i64 (N : Int), .int .i64 (B : Int), .int .i64 (Q : Int), .int .i64 (E : Int), .int .i64 (F : Int)], .int .u64 (S : Int), .slice ao n cap] W fun e w' => ∃ a c vs, e = .returned (.tuple #[.slice a (N + A) c, .int .i64 0]) ∧ w'.ownsRow W.heap.size 25 1 (.slice a (N + A) c) (N + A) vs ∧ RowsB W.heap.size w' vs (compD N B (hasR S A Q N) l) ∧ Below W.heap.size W w') := fun W hW => cblocks_yes N B Q A S E F _ l W hpr HS.out (HO.out.below (on_below B3.out hW)) (by rw [HL.out]; exact hl)
  have OKc : Hid (∀ (id k : Nat) (of : List Int), Chk F E S (N + A) id k of → OkOf B (compD N B (hasR S A Q N) l) of) := fun id k of hc => hc.ok (hasR_rw S A Q N) rfl
  have DM : Hid (∀ x ∈ compD N B (hasR S A Q N) l, x.length = B) := compD_mem (hasR_rw S A Q N)
  have DL : Hid ((compD N B (hasR S A Q N) l).length = N + A) := by unfold Hid; rw [compD_length, hasR_length]
  have OM : Hid (∀ (j : Nat) (r : List Int), (hasR S A Q N)[j]? = some r → OkOf B (compD N B (hasR S A Q N) l) (r ++ [(N : Int) + (j : Int)]) ∧ zeros B = chkD B (compD N B (hasR S A Q N) l) (r ++ [(N : Int) + (j : Int)])) := fun j r hj => outer_made (hasR_rw S A Q N) hj
  have RW : Hid (RwOk N A (hasR S A Q N)) := hasR_rw S A Q N
  have CG : Hid (∀ W, Calls Tryz.prog 8 #[.agg #[.int .i64 (N : Int), .int .i64 (B : Int), .int .i64 (Q : Int), .int .i64 (E : Int), .int .i64 (F : Int)], .int .u64 (S : Int)] W fun e w' => ∃ g ro vs, e = .returned (.tuple #[.pointer (some ⟨g, 0, none⟩), .int .i64 0]) ∧ IsGr w' g ro S N Q A vs (hasR S A Q N) ∧ Below W.heap.size W w') := fun W => onew_yes B E F N Q A S W hpr HS.out
  obtain ⟨rows, hrows⟩ : ∃ r, hasR S A Q N = r := ⟨_, rfl⟩
  rw [hrows] at CN CB OKc DM DL OM RW CG
  clear hrows
  clear hl hP hpr hmd HMy
  generalize N * B = P at *
  have hnP : n ≤ P := by omega
  obtain ⟨D, hD⟩ : ∃ D, compD N B rows l = D := ⟨_, rfl⟩
  rw [hD] at CN CB OKc DM DL OM
  clear hD
  go_wp2_with fail
  refine (CN.out w3 (by first | exact Below.refl _ _ | exact below0 _)).mono ?_
  rintro e w4 ⟨p, q0, rfl, he, hb⟩
  have B4 : Hid (Below w.heap.size w w4) := on_below B3.out hb
  have X4 : Hid (Below w3.heap.size w3 w4) := hb
  have F4 : Hid (CaseC w4 w.heap.size N B Q E F S (.slice ao n cap) (.slice io m icap)) := F3.out.below hb
  have E4 : Hid (Enc q0 w4 p S N B Q E F n (N + A) D) := he
  clear he hb CN F3 B3 c0 c1 c2 c3 c4 c5 c6 c7
  obtain ⟨c0, c1, c2, c3, c4, c5, c6, c7⟩ := F4.out
  go_wp2_with fail
  refine (CB.out w4 X4.out).mono ?_
  rintro e w5 ⟨a5, k5, vs, rfl, ho5, hr5, hb⟩
  have B5 : Hid (Below w.heap.size w w5) := on_below B4.out hb
  have F5 : Hid (CaseC w5 w.heap.size N B Q E F S (.slice ao n cap) (.slice io m icap)) := F4.out.below hb
  have E5 : Hid (Enc q0 w5 p S N B Q E F n (N + A) D) := E4.out.below hb
  have V5 : Hid (vs.length = N + A) := by have := ho5.1; unfold Hid; omega
  have S5 : Hid (Sl 1 w5 (.slice a5 (N + A) k5) (N + A) vs ∧ Parts w5 vs D) := ⟨owned_sl ho5, hr5.parts⟩
  clear ho5 hr5 hb CB X4 E4 F4 B4 c0 c1 c2 c3 c4 c5 c6 c7
  obtain ⟨c0, c1, c2, c3, c4, c5, c6, c7⟩ := F5.out
  go_wp2_with fail
  refine (CG.out w5).mono ?_
  rintro e w6 ⟨g, ro, gv, rfl, hgr, hb⟩
  have B6 : Hid (Below w.heap.size w w6) := on_below B5.out hb
  have F6 : Hid (CaseC w6 w.heap.size N B Q E F S (.slice ao n cap) (.slice io m icap)) := F5.out.below hb
  have E6 : Hid (Enc q0 w6 p S N B Q E F n (N + A) D) := E5.out.below hb
  have S6 : Hid (Sl 1 w6 (.slice a5 (N + A) k5) (N + A) vs ∧ Parts w6 vs D) := ⟨S5.out.1.below hb, S5.out.2.below hb⟩
  have G6 : Hid (IsGr w6 g ro S N Q A gv rows) := hgr
  clear hgr hb S5 E5 F5 B5 CG c0 c1 c2 c3 c4 c5 c6 c7
  obtain ⟨c0, c1, c2, c3, c4, c5, c6, c7⟩ := F6.out
  go_wp2_with fail
  refine (oaux_any g ro S N Q A gv rows w6 G6.out).mono ?_
  rintro e w7 ⟨rfl, hw7⟩
  obtain rfl : w6 = w7 := hw7.symm
  clear hw7
  obtain ⟨ib, hib, hbz0, hbz1, hbz2⟩ := info_parts Tryz.infoByte
  go_wp2
  clear c0 c1 c2 c3 c4 c5 c6 c7 f0 f1
  go_loopw [11, 127] (fun lv jv wr => ∃ (j : Nat) (la : Option Addr) (lc : Nat) (es : List Qe), j ≤ A ∧ jv = .int .i64 j ∧ lv = .slice la j lc ∧ Hid (OwnE w6.heap.size wr (.slice la j lc) j es) ∧ Hid (∀ e ∈ es, QeN wr e) ∧ Hid (∀ e ∈ es, MadeW B D e ∧ e.of.length ≤ 31) ∧ Hid (Below w6.heap.size w6 wr)) (fun _ jv _ => A - (intOf jv).toNat)
  case atStart => exact ⟨0, none, 0, [], by omega, rfl, rfl, OwnE.nil _ _, (by intro e he; cases he), (by intro e he; cases he), Below.refl _ _⟩
  case round =>
    obtain ⟨j, la, lc, es, hj, rfl, rfl, EE, QQ, MM, BB⟩ := hrel
    by_cases hlt : j < A
    · obtain ⟨r, hr⟩ : ∃ r, rows[j]? = some r := ⟨_, List.getElem?_eq_getElem (by rw [RW.out.1]; exact hlt)⟩
      obtain ⟨k, hk⟩ : ∃ k, r.length = k := ⟨_, rfl⟩
      have HR : Hid (rows[j]? = some r) := hr
      have HRL : Hid (r.length = k) := hk
      have hk30 : k ≤ 30 := by have h1 := (RW.out.2 j r hr).1; omega
      obtain ⟨L, hL⟩ : ∃ L, r ++ [(N : Int) + (j : Int)] = L := ⟨_, rfl⟩
      have LL : Hid (L.length = k + 1) := by unfold Hid; rw [← hL, List.length_append, hk]; rfl
      have MD : Hid (OkOf B D L ∧ zeros B = chkD B D L) := by unfold Hid; rw [← hL]; exact OM.out j r hr
      have SZ : Hid (w6.heap.size ≤ wr.heap.size) := BB.out.size
      have B9 : Hid (∀ W, KeepsBut (fun z => (Value.slice la j lc).ownBlock = some z) wr W → Below w6.heap.size w6 W) := fun W hW => BB.out.trans (hW.below SZ.out (fun k hk => (OwnE.lt EE.out k hk).1))
      have BX9 : Hid (∀ W, KeepsBut (fun z => (Value.slice la j lc).ownBlock = some z) wr W → CaseC W w.heap.size N B Q E F S (.slice ao n cap) (.slice io m icap)) := fun W hW => F6.out.below (B9.out W hW)
      have C1 : Hid (∀ W, KeepsBut (fun z => (Value.slice la j lc).ownBlock = some z) wr W → Calls Tryz.prog 10 #[.pointer (some ⟨g, 0, none⟩), .int .i64 j] W fun e w' => ∃ v, e = .returned v ∧ IsOzW (k + 1) L v w' ∧ Below W.heap.size W w') := by
        intro W hW
        refine (oeq_yes g ro S N Q A j k gv rows r W (G6.out.below (B9.out W hW)) (by omega) (by omega) HR.out HRL.out (by omega)).mono ?_
        rintro e w' ⟨a, c, rfl, ho, hb⟩
        rw [hL] at ho
        exact ⟨_, rfl, ⟨a, c, rfl, ho.mono (Nat.zero_le _)⟩, hb⟩
      have hj9 : j + 1 ≤ 1000000000 := by omega
      have hB9 : B ≤ 1000 := by omega
      clear hr hk hL
      go_upto_region 16 with fail
      refine wp_region_any (by kernel_rfl) ?_
      obtain ⟨gs, hgs⟩ : ∃ gs : List (Value → World → Prop), gs = [IsV (Value.slice la j lc), IsV (Value.pointer (some { block := g, off := 0 })), IsV (Value.int IntKind.i64 ↑j), IsAnyV, IsV (.pointer (some ⟨w.heap.size, 0, none⟩)), IsV (.pointer (some ⟨w.heap.size, 1, none⟩)), IsV (.int .i64 (B : Int)), IsAnyV, IsAnyV, IsAnyV, IsAnyV, IsAnyV] := ⟨_, rfl⟩
      have g0 : Hid (gs[0]? = some (IsV (Value.slice la j lc))) := by unfold Hid; rw [hgs]; rfl
      have g1 : Hid (gs[1]? = some (IsV (Value.pointer (some { block := g, off := 0 })))) := by unfold Hid; rw [hgs]; rfl
      have g2 : Hid (gs[2]? = some (IsV (Value.int IntKind.i64 ↑j))) := by unfold Hid; rw [hgs]; rfl
      have g3 : Hid (gs[3]? = some (IsAnyV)) := by unfold Hid; rw [hgs]; rfl
      have g4 : Hid (gs[4]? = some (IsV (.pointer (some ⟨w.heap.size, 0, none⟩)))) := by unfold Hid; rw [hgs]; rfl
      have g5 : Hid (gs[5]? = some (IsV (.pointer (some ⟨w.heap.size, 1, none⟩)))) := by unfold Hid; rw [hgs]; rfl
      have g6 : Hid (gs[6]? = some (IsV (.int .i64 (B : Int)))) := by unfold Hid; rw [hgs]; rfl
      have g7 : Hid (gs[7]? = some (IsAnyV)) := by unfold Hid; rw [hgs]; rfl
      have g8 : Hid (gs[8]? = some (IsAnyV)) := by unfold Hid; rw [hgs]; rfl
      have g9 : Hid (gs[9]? = some (IsAnyV)) := by unfold Hid; rw [hgs]; rfl
      have g10 : Hid (gs[10]? = some (IsAnyV)) := by unfold Hid; rw [hgs]; rfl
      have g11 : Hid (gs[11]? = some (IsAnyV)) := by unfold Hid; rw [hgs]; rfl
      have gk : Hid (∀ p ∈ gs, ∀ v (U U' : World), p v U → p v U') := by
        unfold Hid
        rw [hgs]
        simp only [List.forall_mem_cons]
        exact ⟨(fun _ _ _ h => h), (fun _ _ _ h => h), (fun _ _ _ h => h), (fun _ _ _ h => h), (fun _ _ _ h => h), (fun _ _ _ h => h), (fun _ _ _ h => h), (fun _ _ _ h => h), (fun _ _ _ h => h), (fun _ _ _ h => h), (fun _ _ _ h => h), (fun _ _ _ h => h), by simp⟩
      clear hgs
      have JS : Hid (∀ W9 W9', Below W9.heap.size W9 W9' → (fun W9 => KeepsBut (fun z => (Value.slice la j lc).ownBlock = some z) wr W9) W9 → (fun W9 => KeepsBut (fun z => (Value.slice la j lc).ownBlock = some z) wr W9) W9') := fun W9 W9' hb h => h.trans (KeepsBut.ofBelow hb)
      have st3 : Hid (Stays (IsOzW (k + 1) L)) := stays_ozw _ _
      have st7 : Hid (Stays (IsZbW B)) := stays_zbw _
      have st8 : Hid (Stays (IsEqN L (zeros B))) := stays_eqn _ _
      have st9 : Hid (Stays (IsSrE L (zeros B))) := stays_sre _ _
      have st10 : Hid (Stays (IsE3 w6.heap.size j es L (zeros B))) := stays_e3 _ _ _ _ _
      have st11 : Hid (Stays (IsE3 w6.heap.size j es L (zeros B))) := stays_e3 _ _ _ _ _
      have su10 : Hid (∀ W9 W9', Below W9.heap.size W9 W9' → (fun W9 => OwnE w6.heap.size W9 (.slice la j lc) j es ∧ ∀ e ∈ es, QeN W9 e) W9 → (fun W9 => OwnE w6.heap.size W9 (.slice la j lc) j es ∧ ∀ e ∈ es, QeN W9 e) W9') := fun W9 W9' hb h => ⟨OwnE.below h.1 hb, fun e he => (h.2 e he).below hb⟩
      refine wpAny_inv4 (fun listed ac W9 => ∃ xv9 : Nat → Value, ac = ⟨#[Value.agg #[Value.int IntKind.i64 ↑N, Value.int IntKind.i64 ↑B, Value.int IntKind.i64 ↑Q, Value.int IntKind.i64 ↑E, Value.int IntKind.i64 ↑F, Value.int IntKind.u64 ↑S, Value.slice ao n cap, Value.slice io m icap], Value.pointer (some { block := w.heap.size, off := 0 }), Value.bool false, Value.pointer (some { block := w1.heap.size, off := 0 }), Value.bool true, Value.pointer (some { block := p, off := 0 }), Value.int IntKind.i64 (0 : Int), Value.slice a5 (N + A) k5, Value.int IntKind.i64 (0 : Int), Value.pointer (some { block := g, off := 0 }), Value.int IntKind.i64 (0 : Int), xv9 11, Value.slice none 0 0, Value.int IntKind.i64 ↑j, undef, undef, undef, undef, undef, Value.tuple #[Value.agg #[Value.slice oa1 2 oc1, Value.slice ob1 k1 od1], Value.bool true], Value.slice (some { block := w0.heap.size, off := 0 }) 1 1, Value.slice (some { block := w0.heap.size + 1, off := 0 }) 1 1, Value.agg #[Value.slice (some { block := w0.heap.size, off := 0 }) 1 1, Value.slice (some { block := w0.heap.size + 1, off := 0 }) 1 1], Value.slice (some { block := w0.heap.size + 1 + 1, off := 0 }) 1 1, Value.slice (some { block := w0.heap.size + 1 + 1 + 1, off := 0 }) 1 1, Value.agg #[Value.slice (some { block := w0.heap.size + 1 + 1, off := 0 }) 1 1, Value.slice (some { block := w0.heap.size + 1 + 1 + 1, off := 0 }) 1 1], Value.slice (some { block := w0.heap.size + 1 + 1 + 1 + 1, off := 0 }) 2 2, Value.tuple #[Value.agg #[Value.slice oa1 2 oc1, Value.slice ob1 k1 od1], Value.bool true], Value.agg #[Value.slice oa1 2 oc1, Value.slice ob1 k1 od1], Value.bool true, Value.bool true, Value.bool false, Value.bool false, Value.pointer (some { block := w1.heap.size, off := 0 }), Value.slice oa1 2 oc1, Value.int IntKind.i64 (2 : Int), Value.bool false, Value.bool false, Value.pointer (some { block := w.heap.size, off := 0 }), Value.agg #[Value.int IntKind.i64 ↑N, Value.int IntKind.i64 ↑B, Value.int IntKind.i64 ↑Q, Value.int IntKind.i64 ↑E, Value.int IntKind.i64 ↑F], Value.bool true, Value.bool false, Value.bool false, Value.pointer (some { block := w.heap.size, off := 0 }), Value.pointer (some { block := w.heap.size, off := 0 }), Value.int IntKind.i64 ↑N, Value.bool (decide ((30 : Int) < ↑N)), Value.bool (decide ((30 : Int) < ↑N)), Value.bool (decide ((30 : Int) < ↑N)), Value.pointer (some { block := w.heap.size, off := 0 }), Value.pointer (some { block := w.heap.size, off := 1 }), Value.int IntKind.i64 ↑B, Value.bool (decide ((40 : Int) < ↑B)), Value.bool (decide ((30 : Int) < ↑N) || decide ((40 : Int) < ↑B)), Value.bool (decide ((30 : Int) < ↑N) || decide ((40 : Int) < ↑B)), Value.pointer (some { block := w.heap.size, off := 0 }), Value.pointer (some { block := w.heap.size, off := 4 }), Value.int IntKind.i64 ↑F, Value.bool (decide ((200 : Int) < ↑F)), Value.bool (decide ((30 : Int) < ↑N) || decide ((40 : Int) < ↑B) || decide ((200 : Int) < ↑F)), Value.bool (decide ((30 : Int) < ↑N) || decide ((40 : Int) < ↑B) || decide ((200 : Int) < ↑F)), Value.pointer (some { block := w.heap.size, off := 6 }), Value.slice ao n cap, Value.int IntKind.i64 ↑n, Value.pointer (some { block := w.heap.size, off := 0 }), Value.pointer (some { block := w.heap.size, off := 0 }), Value.int IntKind.i64 ↑N, Value.pointer (some { block := w.heap.size, off := 0 }), Value.pointer (some { block := w.heap.size, off := 1 }), Value.int IntKind.i64 ↑B, Value.int IntKind.i64 ↑P, Value.bool false, Value.bool (decide ((30 : Int) < ↑N) || decide ((40 : Int) < ↑B) || decide ((200 : Int) < ↑F)), Value.bool (decide ((30 : Int) < ↑N) || decide ((40 : Int) < ↑B) || decide ((200 : Int) < ↑F)), Value.pointer (some { block := w.heap.size, off := 7 }), Value.slice io m icap, Value.int IntKind.i64 ↑m, Value.bool (decide ((30 : Int) < ↑m)), Value.bool (decide ((30 : Int) < ↑N) || decide ((40 : Int) < ↑B) || decide ((200 : Int) < ↑F) || decide ((30 : Int) < ↑m)), Value.tuple #[Value.pointer (some { block := p, off := 0 }), Value.int IntKind.i64 (0 : Int)], Value.pointer (some { block := w.heap.size, off := 0 }), Value.agg #[Value.int IntKind.i64 ↑N, Value.int IntKind.i64 ↑B, Value.int IntKind.i64 ↑Q, Value.int IntKind.i64 ↑E, Value.int IntKind.i64 ↑F], Value.pointer (some { block := w.heap.size, off := 5 }), Value.int IntKind.u64 ↑S, Value.pointer (some { block := w.heap.size, off := 6 }), Value.slice ao n cap, Value.tuple #[Value.pointer (some { block := p, off := 0 }), Value.int IntKind.i64 (0 : Int)], Value.pointer (some { block := p, off := 0 }), Value.int IntKind.i64 (0 : Int), Value.tuple #[Value.slice a5 (N + A) k5, Value.int IntKind.i64 (0 : Int)], Value.pointer (some { block := w.heap.size, off := 0 }), Value.agg #[Value.int IntKind.i64 ↑N, Value.int IntKind.i64 ↑B, Value.int IntKind.i64 ↑Q, Value.int IntKind.i64 ↑E, Value.int IntKind.i64 ↑F], Value.pointer (some { block := w.heap.size, off := 5 }), Value.int IntKind.u64 ↑S, Value.pointer (some { block := w.heap.size, off := 6 }), Value.slice ao n cap, Value.tuple #[Value.slice a5 (N + A) k5, Value.int IntKind.i64 (0 : Int)], Value.slice a5 (N + A) k5, Value.int IntKind.i64 (0 : Int), Value.tuple #[Value.pointer (some { block := g, off := 0 }), Value.int IntKind.i64 (0 : Int)], Value.pointer (some { block := w.heap.size, off := 0 }), Value.agg #[Value.int IntKind.i64 ↑N, Value.int IntKind.i64 ↑B, Value.int IntKind.i64 ↑Q, Value.int IntKind.i64 ↑E, Value.int IntKind.i64 ↑F], Value.pointer (some { block := w.heap.size, off := 5 }), Value.int IntKind.u64 ↑S, Value.tuple #[Value.pointer (some { block := g, off := 0 }), Value.int IntKind.i64 (0 : Int)], Value.pointer (some { block := g, off := 0 }), Value.int IntKind.i64 (0 : Int), Value.int IntKind.i64 (0 : Int), Value.bool false, Value.bool false, Value.int IntKind.i64 (0 : Int), Value.bool false, Value.bool false, Value.bool false, Value.int IntKind.i64 (0 : Int), Value.bool false, Value.bool false, Value.bool false, Value.pointer (some { block := p, off := 0 }), Value.bool false, Value.bool false, Value.bool false, Value.pointer (some { block := g, off := 0 }), Value.bool false, Value.bool false, Value.pointer (some { block := g, off := 0 }), Value.int IntKind.i64 ↑A, Value.int IntKind.i64 ↑j, Value.bool true, Value.int IntKind.i64 ↑j, xv9 0, xv9 1, xv9 2, xv9 3, xv9 4, xv9 5, xv9 6, xv9 7, xv9 8, xv9 9, xv9 10, u141, undef, undef, undef, undef, undef, undef, undef, undef, undef, undef, undef, undef, undef, undef, undef, undef, undef, undef, undef, undef, undef, undef, undef, undef, undef, undef, undef, undef, undef, undef, undef, undef, undef, undef, undef, undef, undef, undef, undef, undef, undef, undef, undef, undef, undef, undef, undef, undef, undef, undef, undef, undef, undef, undef, undef, undef, undef, undef, undef, undef, undef, undef, undef, undef, undef, undef, undef, undef, undef, undef, undef], []⟩ ∧ (fun W9 => KeepsBut (fun z => (Value.slice la j lc).ownBlock = some z) wr W9) W9 ∧ Lst gs listed xv9 W9 ∧ Fd listed xv9 W9 3 8 (IsOzW (k + 1) L) ∧ Fd listed xv9 W9 7 8 (IsZbW B) ∧ Fd listed xv9 W9 8 9 (IsEqN L (zeros B)) ∧ Fd listed xv9 W9 9 10 (IsSrE L (zeros B)) ∧ Fe listed xv9 W9 10 (IsE3 w6.heap.size j es L (zeros B)) ∧ Fe listed xv9 W9 11 (IsE3 w6.heap.size j es L (zeros B)) ∧ Fz listed W9 10 (fun W9 => OwnE w6.heap.size W9 (.slice la j lc) j es ∧ ∀ e ∈ es, QeN W9 e) ∧ Ini4 listed xv9 11 (Value.slice la j lc)) (by kernel_rfl) ?_ ?_ _ _ _ _ (by kernel_rfl) (of_decide_eq_true (by kernel_rfl)) (Down.start _) ⟨fun jx => if jx = 0 then u130 else if jx = 1 then u131 else if jx = 2 then u132 else if jx = 3 then u133 else if jx = 4 then u134 else if jx = 5 then u135 else if jx = 6 then u136 else if jx = 7 then u137 else if jx = 8 then u138 else if jx = 9 then u139 else if jx = 10 then u140 else if jx = 11 then Value.slice la j lc else undef, rfl, KeepsBut.drew _ _, Lst.start _ _ _ _, Fd.start _ _ _ _ _ _, Fd.start _ _ _ _ _ _, Fd.start _ _ _ _ _ _, Fd.start _ _ _ _ _ _, Fe.start _ _ _ _ _, Fe.start _ _ _ _ _, Fz.start (⟨OwnE.below EE.out (below0 _), fun e he => (QQ.out e he).below (below0 _)⟩), (fun _ => rfl)⟩
      · go_light
        rintro listed ac W9 ⟨xv9, rfl, hb, hG, hF3, hF7, hF8, hF9, hF10, hF11, hU10, hI11⟩ hD i hi hnl hd
        have hin : i < 12 := hi
        clear hi
        have hcase : i = 0 ∨ i = 1 ∨ i = 2 ∨ i = 3 ∨ i = 4 ∨ i = 5 ∨ i = 6 ∨ i = 7 ∨ i = 8 ∨ i = 9 ∨ i = 10 ∨ i = 11 := by omega
        rcases hcase with rfl | rfl | rfl | rfl | rfl | rfl | rfl | rfl | rfl | rfl | rfl | rfl
        · refine wpOp_step rfl (fun K' hK => ?_)
          have f11 : listed.getD 11 false = false := by
            cases hx : listed.getD 11 false with
            | false => rfl
            | true =>
              have r0 : listed.getD 0 false = true := by have h := hD 11 (by decide) hx; simp [Region.binds] at h; simp [h]
              rw [getD_false hnl] at r0; cases r0
          have ei11 : xv9 11 = Value.slice la j lc := hI11 f11
          clear hd hin hD
          go_simp
          exact hK _ _ ⟨updV xv9 0 (Value.slice la j lc), by simp [updV, ei11], hb, hG.any gk.out g0.out _ rfl, hF3.step (fun _ h => h) (by decide) (by decide) _, hF7.step (fun _ h => h) (by decide) (by decide) _, hF8.step (fun _ h => h) (by decide) (by decide) _, hF9.step (fun _ h => h) (by decide) (by decide) _, hF10.step (fun _ h => h) (by decide) _, hF11.step (fun _ h => h) (by decide) _, hU10.step (fun h => h) (by decide), hI11.skip (by decide)⟩
        · refine wpOp_step rfl (fun K' hK => ?_)
          clear hd hin hD
          go_simp
          exact hK _ _ ⟨updV xv9 1 (Value.pointer (some { block := g, off := 0 })), by simp [updV], hb, hG.any gk.out g1.out _ rfl, hF3.step (fun _ h => h) (by decide) (by decide) _, hF7.step (fun _ h => h) (by decide) (by decide) _, hF8.step (fun _ h => h) (by decide) (by decide) _, hF9.step (fun _ h => h) (by decide) (by decide) _, hF10.step (fun _ h => h) (by decide) _, hF11.step (fun _ h => h) (by decide) _, hU10.step (fun h => h) (by decide), hI11.skip (by decide)⟩
        · refine wpOp_step rfl (fun K' hK => ?_)
          clear hd hin hD
          go_simp
          exact hK _ _ ⟨updV xv9 2 (Value.int IntKind.i64 ↑j), by simp [updV], hb, hG.any gk.out g2.out _ rfl, hF3.step (fun _ h => h) (by decide) (by decide) _, hF7.step (fun _ h => h) (by decide) (by decide) _, hF8.step (fun _ h => h) (by decide) (by decide) _, hF9.step (fun _ h => h) (by decide) (by decide) _, hF10.step (fun _ h => h) (by decide) _, hF11.step (fun _ h => h) (by decide) _, hU10.step (fun h => h) (by decide), hI11.skip (by decide)⟩
        · refine wpOp_step rfl (fun K' hK => ?_)
          simp [Region.binds] at hd
          have e1 : xv9 1 = Value.pointer (some { block := g, off := 0 }) := hG.get g1.out (by simp [hd])
          have e2 : xv9 2 = Value.int IntKind.i64 ↑j := hG.get g2.out (by simp [hd])
          clear hd hin hD
          go_simp
          refine (C1.out W9 hb).mono ?_
          rintro e w' ⟨v, rfl, hv, hb'⟩
          go_wp2_with fail
          exact ⟨updV xv9 3 v, by simp [updV, e1, e2], JS.out _ _ hb' hb, hG.any gk.out g3.out v trivial, Fd.new (hv), hF7.on st7.out hb' (by decide) (by decide) _, hF8.on st8.out hb' (by decide) (by decide) _, hF9.on st9.out hb' (by decide) (by decide) _, hF10.on st10.out hb' (by decide) _, hF11.on st11.out hb' (by decide) _, hU10.step (su10.out _ _ hb') (by decide), hI11.skip (by decide)⟩
        · refine wpOp_step rfl (fun K' hK => ?_)
          clear hd hin hD
          go_simp
          exact hK _ _ ⟨updV xv9 4 (.pointer (some ⟨w.heap.size, 0, none⟩)), by simp [updV], hb, hG.any gk.out g4.out _ rfl, hF3.step (fun _ h => h) (by decide) (by decide) _, hF7.step (fun _ h => h) (by decide) (by decide) _, hF8.step (fun _ h => h) (by decide) (by decide) _, hF9.step (fun _ h => h) (by decide) (by decide) _, hF10.step (fun _ h => h) (by decide) _, hF11.step (fun _ h => h) (by decide) _, hU10.step (fun h => h) (by decide), hI11.skip (by decide)⟩
        · refine wpOp_step rfl (fun K' hK => ?_)
          simp [Region.binds] at hd
          have e4 : xv9 4 = .pointer (some ⟨w.heap.size, 0, none⟩) := hG.get g4.out (by simp [hd])
          clear hd hin hD
          go_simp
          exact hK _ _ ⟨updV xv9 5 (.pointer (some ⟨w.heap.size, 1, none⟩)), by simp [updV, e4], hb, hG.any gk.out g5.out _ rfl, hF3.step (fun _ h => h) (by decide) (by decide) _, hF7.step (fun _ h => h) (by decide) (by decide) _, hF8.step (fun _ h => h) (by decide) (by decide) _, hF9.step (fun _ h => h) (by decide) (by decide) _, hF10.step (fun _ h => h) (by decide) _, hF11.step (fun _ h => h) (by decide) _, hU10.step (fun h => h) (by decide), hI11.skip (by decide)⟩
        · refine wpOp_step rfl (fun K' hK => ?_)
          simp [Region.binds] at hd
          have e5 : xv9 5 = .pointer (some ⟨w.heap.size, 1, none⟩) := hG.get g5.out (by simp [hd])
          obtain ⟨c0, c1, c2, c3, c4, c5, c6, c7⟩ := BX9.out W9 hb
          clear hd hin hD
          go_simp
          exact hK _ _ ⟨updV xv9 6 (.int .i64 (B : Int)), by simp [updV, e5], hb, hG.any gk.out g6.out _ rfl, hF3.step (fun _ h => h) (by decide) (by decide) _, hF7.step (fun _ h => h) (by decide) (by decide) _, hF8.step (fun _ h => h) (by decide) (by decide) _, hF9.step (fun _ h => h) (by decide) (by decide) _, hF10.step (fun _ h => h) (by decide) _, hF11.step (fun _ h => h) (by decide) _, hU10.step (fun h => h) (by decide), hI11.skip (by decide)⟩
        · refine wpOp_step rfl (fun K' hK => ?_)
          simp [Region.binds] at hd
          have e6 : xv9 6 = .int .i64 (B : Int) := hG.get g6.out (by simp [hd])
          clear hd hin hD
          refine step_make W9 rfl (.tmp 136) (.tmp 136) 25 rfl wr.heap.size 5 ib (.int .u8 0) 1 Tryz.underlying25 hib hbz0 hbz1 _ _ B e6 e6 (by rw [hbz2]; omega) (by unfold maxLen; omega) hb.size ?_
          intro w' ho hg
          exact hK _ _ ⟨updV xv9 7 (.slice (some ⟨W9.heap.size, 0, none⟩) B B), by simp [updV, Act.put], JS.out _ _ (below_fresh hg) hb, hG.any gk.out g7.out _ trivial, hF3.on st3.out (below_fresh hg) (by decide) (by decide) _, Fd.new (⟨_, rfl, made_blk ho⟩), hF8.on st8.out (below_fresh hg) (by decide) (by decide) _, hF9.on st9.out (below_fresh hg) (by decide) (by decide) _, hF10.on st10.out (below_fresh hg) (by decide) _, hF11.on st11.out (below_fresh hg) (by decide) _, hU10.step (su10.out _ _ (below_fresh hg)) (by decide), hI11.skip (by decide)⟩
        · refine wpOp_step rfl (fun K' hK => ?_)
          simp [Region.binds] at hd
          have l3 : listed.getD 3 false = true := by simp [hd]
          have m3 := hF3.get l3 hnl
          have l7 : listed.getD 7 false = true := by simp [hd]
          have m7 := hF7.get l7 hnl
          clear hd hin hD
          have hq8 := qen_made m3 m7 hB9
          obtain ⟨a3x, c3x, e3x, ho3x⟩ := m3
          obtain ⟨q7x, e7x, hb7x⟩ := m7
          rw [e3x, e7x] at hq8
          go_simp
          exact hK _ _ ⟨updV xv9 8 (.agg #[.slice a3x (k + 1) c3x, .slice (some ⟨q7x, 0, none⟩) B B]), by simp [updV, e3x, e7x], hb, hG.any gk.out g8.out _ trivial, Fd.off hnl, Fd.off hnl, Fd.new (⟨_, _, rfl, hq8⟩), hF9.step (fun _ h => h) (by decide) (by decide) _, hF10.step (fun _ h => h) (by decide) _, hF11.step (fun _ h => h) (by decide) _, hU10.step (fun h => h) (by decide), hI11.skip (by decide)⟩
        · refine wpOp_step rfl (fun K' hK => ?_)
          simp [Region.binds] at hd
          have l8 : listed.getD 8 false = true := by simp [hd]
          have m8 := hF8.get l8 hnl
          clear hd hin hD
          obtain ⟨ov8, vv8, e8, hq8⟩ := m8
          go_simp
          exact hK _ _ ⟨updV xv9 9 (.slice (some ⟨W9.heap.size, 0, none⟩) 1 1), by simp [updV, e8], JS.out _ _ (below_alloc _ _) hb, hG.any gk.out g9.out _ trivial, hF3.on st3.out (below_alloc _ _) (by decide) (by decide) _, hF7.on st7.out (below_alloc _ _) (by decide) (by decide) _, Fd.off hnl, Fd.new (⟨⟨ov8, vv8, L, zeros B⟩, rfl, rfl, one_src, hq8.below (below_alloc _ _)⟩), hF10.on st10.out (below_alloc _ _) (by decide) _, hF11.on st11.out (below_alloc _ _) (by decide) _, hU10.step (su10.out _ _ (below_alloc _ _)) (by decide), hI11.skip (by decide)⟩
        · refine wpOp_step rfl (fun K' hK => ?_)
          simp [Region.binds] at hd
          have e0 : xv9 0 = Value.slice la j lc := hG.get g0.out (by simp [hd])
          have l9 : listed.getD 9 false = true := by simp [hd]
          have m9 := hF9.get l9 hnl
          have q9 : listed.getD 9 false = true := by simp [hd]
          have q8 : listed.getD 8 false = true := by have h := hD 9 (by decide) q9; simp [Region.binds] at h; simp [h]
          have q9 : listed.getD 9 false = true := by simp [hd]
          have f11 : listed.getD 11 false = false := by
            cases hx : listed.getD 11 false with
            | false => rfl
            | true =>
              have r10 : listed.getD 10 false = true := by have h := hD 11 (by decide) hx; simp [Region.binds] at h; simp [h]
              rw [getD_false hnl] at r10; cases r10
          have u10 := hU10.get hnl
          clear hd hin hD
          obtain ⟨e9x, g1, g2, hsr, hq9⟩ := m9
          refine step_addW W9 rfl (.tmp 130) (.tmp 139) rfl w6.heap.size (.slice la j lc) j es e0 u10.1 _ 1 [e9x] rfl hsr (e_oneCell (w := W9) (by intro e he; rw [List.mem_singleton.1 he]; exact hq9.1)) hj9 (Nat.le_trans SZ.out hb.size) ?_
          intro ao' cap' w' ho hg
          exact hK _ _ ⟨updV xv9 10 (.slice ao' (j + 1) cap'), by simp [updV, Act.put], hb.trans (KeepsBut.ofGrownO hg (fun q hq => .inl hq)), hG.any gk.out g10.out _ trivial, Fd.gone q8 (by decide), Fd.gone q8 (by decide), Fd.gone q9 (by decide), Fd.off hnl, Fe.new (⟨ao', cap', e9x, rfl, g1, g2, ho, fun q hq => (by rcases List.mem_append.1 hq with h1 | h1; exact (u10.2 q h1).grownE u10.1 hg; rw [List.mem_singleton.1 h1]; exact hq9.grownE u10.1 hg)⟩), Fe.yet f11 (by decide) _, Fz.off hnl, hI11.skip (by decide)⟩
        · refine wpOp_step rfl (fun K' hK => ?_)
          simp [Region.binds] at hd
          have l10 : listed.getD 10 false = true := by simp [hd]
          have m10 := hF10 l10
          clear hd hin hD
          go_simp
          exact hK _ _ ⟨updV xv9 11 (xv9 10), by simp [updV], hb, hG.any gk.out g11.out _ trivial, hF3.step (fun _ h => h) (by decide) (by decide) _, hF7.step (fun _ h => h) (by decide) (by decide) _, hF8.step (fun _ h => h) (by decide) (by decide) _, hF9.step (fun _ h => h) (by decide) (by decide) _, hF10.step (fun _ h => h) (by decide) _, Fe.new (m10), hU10.step (fun h => h) (by decide), Ini4.done hnl⟩
      · rintro listed ac W9 ⟨xv9, rfl, hb, hG, hF3, hF7, hF8, hF9, hF10, hF11, hU10, hI11⟩ hall
        have m11 : Hid ((IsE3 w6.heap.size j es L (zeros B)) (xv9 11) W9) := hF11 (hall 11 (by decide))
        have XW : Hid ((fun W9 => KeepsBut (fun z => (Value.slice la j lc).ownBlock = some z) wr W9) W9) := hb
        clear hall hG hb gk JS g0 g1 g2 g3 g4 g5 g6 g7 g8 g9 g10 g11 hF3 st3 hF7 st7 hF8 st8 hF9 st9 hF10 st10 hF11 st11 hU10 su10 hI11
        obtain ⟨a9, c9, e9x, e9, g1, g2, ho9, hq9⟩ := m11.out
        rw [e9] at ho9 ⊢
        have E9 : Hid (OwnE w6.heap.size W9 (.slice a9 (j + 1) c9) (j + 1) (es ++ [e9x])) := ho9
        have Q9 : Hid (∀ e ∈ es ++ [e9x], QeN W9 e) := hq9
        have M9 : Hid (∀ e ∈ es ++ [e9x], MadeW B D e ∧ e.of.length ≤ 31) := fun e he => by
          rcases List.mem_append.1 he with h1 | h1
          · exact MM.out e h1
          · rw [List.mem_singleton.1 h1]
            exact ⟨⟨by rw [g1]; exact MD.out.1, by rw [g1, g2]; exact MD.out.2⟩, by rw [g1, LL.out]; omega⟩
        have X9 : Hid (Below w6.heap.size w6 W9) := BB.out.trans (XW.out.below SZ.out (fun k hk => (OwnE.lt EE.out k hk).1))
        clear ho9 hq9 g1 g2 m11 XW EE QQ MM MD LL SZ B9 BX9 C1 BB HR HRL
        go_wp2
        go_roundw
        case rel => exact ⟨j + 1, a9, c9, _, by omega, by go_num, rfl, E9, Q9, M9, X9⟩
        case measure => simp [intOf]; omega
    · obtain rfl : A = j := by omega
      obtain ⟨w7, hw7⟩ : ∃ x, x = wr := ⟨_, rfl⟩
      subst hw7
      have F7 : Hid (CaseC w7 w.heap.size N B Q E F S (.slice ao n cap) (.slice io m icap)) := F6.out.below BB.out
      have NA : Hid (1 ≤ N + A) := by have h1 := PR.out.may.1.1; unfold Hid; omega
      have EA0 : Hid ((N : Int) + aux (N : Int) (Q : Int) (E : Int) = ((N + A : Nat) : Int)) := by have h1 := PR.out.ea; unfold Hid; omega
      have MM0 : Hid (∀ e ∈ es, MadeW B D e ∧ e.of.length ≤ 231) := fun e he => ⟨(MM.out e he).1, Nat.le_trans (MM.out e he).2 (by omega)⟩
      obtain ⟨c0, c1, c2, c3, c4, c5, c6, c7⟩ := F7.out
      clear MM
      go_wp2
      clear c0 c1 c2 c3 c4 c5 c6 c7
      go_loopw [11, 145] (fun lv iv wr => ∃ (i : Nat) (la : Option Addr) (lc : Nat) (es : List Qe), i ≤ m ∧ iv = .int .i64 i ∧ lv = .slice la (A + i) lc ∧ Hid (OwnE w6.heap.size wr (.slice la (A + i) lc) (A + i) es) ∧ Hid (∀ e ∈ es, QeN wr e) ∧ Hid (∀ e ∈ es, MadeW B D e ∧ e.of.length ≤ 231) ∧ Hid (Below w6.heap.size w6 wr)) (fun _ iv _ => m - (intOf iv).toNat)
      case atStart => exact ⟨0, la, lc, es, by omega, rfl, rfl, EE, QQ, MM0, BB⟩
      case round =>
        clear EE QQ MM0 BB F7
        obtain ⟨i, la, lc, es, hi, rfl, rfl, EE, QQ, MM, BB⟩ := hrel
        by_cases hlt2 : i < m
        · have hltI : (i : Int) < (m : Int) := by omega
          have hil : i < ids.length := by rw [HM.out]; exact hlt2
          obtain ⟨⟨-, ao', cap', hv0, -, -, -, h5⟩, hbd⟩ := HU.out
          injection hv0 with y1 y2 y3
          subst y1
          obtain ⟨bi, oi, rfl, hc0⟩ : ∃ b off, io = some ⟨b, off, none⟩ ∧ ∀ j u, (ids.map uv)[j]? = some u → w.cell? ⟨b, off + j, none⟩ = some u := by
            rcases h5 with h0 | h0
            · omega
            · exact h0
          have ck0 := hc0 i _ (map_uv_at ids i hil)
          have ck := ((on_below B6.out BB.out).cell (cell_block_lt ck0)).trans ck0
          have HI : Hid (ids[i] < 18446744073709551616) := hbd _ (List.getElem_mem hil)
          clear hc0 ck0 y2 y3 hbd
          generalize ids[i] = id at *
          obtain ⟨k, of, hch⟩ := chk_is E S (N + A) id HD.out.f2
          have HC : Hid (Chk F E S (N + A) id k of) := hch
          have OK : Hid (OkOf B D of) := OKc.out id k of hch
          have LK : Hid (of.length = k) := hch.len
          have hk231 : k ≤ 231 := by have := (hch.many NA.out).2.2; omega
          have F8 : Hid (CaseC wr w.heap.size N B Q E F S (.slice ao n cap) (.slice (some ⟨bi, oi, none⟩) m icap)) := F6.out.below BB.out
          obtain ⟨c0, c1, c2, c3, c4, c5, c6, c7⟩ := F8.out
          clear hch
          go_wp2_with fail
          refine (rblocks_chk HC.out N B Q wr PR.out.may HD.out EA0.out HS.out HI.out).mono ?_
          rintro e w8 ⟨b8, k8, rfl, ho8, hb8⟩
          have B8 : Hid (Below w6.heap.size w6 w8) := on_below BB.out hb8
          have E8 : Hid (OwnE w6.heap.size w8 (.slice la (A + i) lc) (A + i) es) := OwnE.below EE.out hb8
          have Q8 : Hid (∀ e ∈ es, QeN w8 e) := fun e he => (QQ.out e he).below hb8
          have Z8 : Hid (OwnZ 0 w8 (.slice b8 k k8) k of) := ho8.mono (Nat.zero_le _)
          clear ho8 hb8 EE QQ BB F8 ck c0 c1 c2 c3 c4 c5 c6 c7
          go_wp2_with fail
          refine (epacket_any q0 p S N B Q E F n (N + A) id k D of w8 (E6.out.below B8.out) (by omega) HC.out HD.out (by omega) HS.out HI.out OK.out).mono ?_
          rintro e w9 ⟨q, rfl, hq9, hk9, hb9⟩
          obtain ⟨x, hx⟩ : ∃ x, chkD B D of = x := ⟨_, rfl⟩
          have XE : Hid (x = chkD B D of) := hx.symm
          have XL : Hid (x.length = B) := by unfold Hid; rw [← hx]; exact chkD_length OK.out
          rw [hx] at hk9
          have B9 : Hid (Below w6.heap.size w6 w9) := on_below B8.out hb9
          have E9 : Hid (OwnE w6.heap.size w9 (.slice la (A + i) lc) (A + i) es) := OwnE.below E8.out hb9
          have Q9 : Hid (∀ e ∈ es, QeN w9 e) := fun e he => (Q8.out e he).below hb9
          have N9 : Hid (QeN w9 ⟨.slice b8 k k8, .slice (some ⟨q, 0, none⟩) B B, of, x⟩) := by
            refine ⟨⟨(Z8.out.below hb9).zs, Blk.bs0 hk9 B B XL.out.symm (Nat.le_refl _) (by unfold maxLen; omega)⟩, ?_, ?_⟩
            · intro g hg
              obtain ⟨cur, h1⟩ := owns_type' (Z8.out.below hb9) g hg
              exact ⟨cur, _, _, h1, by decide⟩
            · intro g hg
              have e1 : q = g := Option.some.inj hg
              subst e1
              exact ⟨_, _, _, hk9, by decide⟩
          clear hx hk9 hq9 hb9 B8 E8 Q8 Z8
          have hpay := run_payloadW (S : Int) (N : Int) (B : Int) (Q : Int) (E : Int) (F : Int) (n : Int) (id : Int) (.slice (some ⟨q, 0, none⟩) B B) w9
          have EA : Hid (OwnE w6.heap.size (w9.alloc (.cells #[.slice b8 k k8, .slice (some ⟨q, 0, none⟩) B B] 31)) (.slice la (A + i) lc) (A + i) es) := OwnE.below E9.out (below_alloc _ _)
          have XA : Hid (Below w6.heap.size w6 (w9.alloc (.cells #[.slice b8 k k8, .slice (some ⟨q, 0, none⟩) B B] 31))) := B9.out.alloc B9.out.size _
          have SA : Hid (w6.heap.size ≤ (w9.alloc (.cells #[.slice b8 k k8, .slice (some ⟨q, 0, none⟩) B B] 31)).heap.size) := XA.out.size
          go_wp2_with (at_builtin; refine wpList_addE _ rfl (.tmp 149) (.tmp 161) rfl w6.heap.size (.slice la (A + i) lc) (A + i) es rfl EA.out _ 1 [⟨.slice b8 k k8, .slice (some ⟨q, 0, none⟩) B B, of, x⟩] rfl one_src (by intro u hu; simp [Qe.cells] at hu; rcases hu with rfl | rfl <;> rfl) (by omega) SA.out ?_; intro a9 c9 w10 ho9 hg9)
          have E10 : Hid (OwnE w6.heap.size w10 (.slice a9 (A + (i + 1)) c9) (A + (i + 1)) (es ++ [⟨.slice b8 k k8, .slice (some ⟨q, 0, none⟩) B B, of, x⟩])) := ho9
          have X10 : Hid (Below w6.heap.size w6 w10) := XA.out.grown hg9 XA.out.size (fun k hk => (OwnE.lt EA.out k hk).1)
          have Q10 : Hid (∀ e ∈ es ++ [(⟨.slice b8 k k8, .slice (some ⟨q, 0, none⟩) B B, of, x⟩ : Qe)], QeN w10 e) := fun e he => by
            rcases List.mem_append.1 he with h1 | h1
            · exact ((Q9.out e h1).below (below_alloc _ _)).grownE EA.out hg9
            · rw [List.mem_singleton.1 h1]
              exact (N9.out.below (below_alloc _ _)).grownE EA.out hg9
          have M10 : Hid (∀ e ∈ es ++ [(⟨.slice b8 k k8, .slice (some ⟨q, 0, none⟩) B B, of, x⟩ : Qe)], MadeW B D e ∧ e.of.length ≤ 231) := fun e he => by
            rcases List.mem_append.1 he with h1 | h1
            · exact MM.out e h1
            · rw [List.mem_singleton.1 h1]
              exact ⟨⟨OK.out, XE.out⟩, by rw [LK.out]; exact hk231⟩
          clear ho9 hg9 EA XA SA E9 Q9 N9 MM OK LK XE XL HC HI B9
          go_roundw
          case rel => exact ⟨i + 1, a9, c9, _, by omega, by go_num, rfl, E10, Q10, M10, X10⟩
          case measure => simp [intOf]; omega
        · obtain rfl : m = i := by omega
          obtain ⟨w8, hw8⟩ : ∃ x, x = wr := ⟨_, rfl⟩
          subst hw8
          obtain ⟨T, hT⟩ : ∃ T, A + m = T := ⟨_, rfl⟩
          have hT230 : T ≤ 230 := by omega
          have EL : Hid (es.length = T) := by unfold Hid; rw [← hT]; exact EE.out.len
          have QS : Hid (Qs w8 (.slice la T lc) es) := by unfold Hid; rw [← hT]; exact OwnE.qs EE.out (fun e he => (QQ.out e he).1)
          have B8 : Hid (Below w.heap.size w w8) := on_below B6.out BB.out
          have S8 : Hid (Sl 1 w8 (.slice a5 (N + A) k5) (N + A) vs ∧ Parts w8 vs D) := ⟨S6.out.1.below BB.out, S6.out.2.below BB.out⟩
          have F8 : Hid (CaseC w8 w.heap.size N B Q E F S (.slice ao n cap) (.slice io m icap)) := F6.out.below BB.out
          rw [hT]
          clear EE QQ BB hT G6 S6 E6 F6 B6
          go_wp2
          go_loopw [12, 166] (fun ov iv wr => ∃ (i : Nat) (a : Option Addr) (c : Nat), i ≤ T ∧ iv = .int .i64 i ∧ ov = .slice a i c ∧ Hid (OwnR w8.heap.size wr (.slice a i c) i ((es.take i).map Qe.ov)) ∧ Hid (Below w8.heap.size w8 wr)) (fun _ iv _ => T - (intOf iv).toNat)
          case atStart => exact ⟨0, none, 0, by omega, rfl, rfl, OwnR.nil _ _, Below.refl _ _⟩
          case round =>
            obtain ⟨i, ra, rc, hi, rfl, rfl, RR, BR⟩ := hrel
            by_cases hlt3 : i < T
            · obtain ⟨e, he⟩ : ∃ e, es[i]? = some e := ⟨_, List.getElem?_eq_getElem (by rw [EL.out]; exact hlt3)⟩
              have hmem := List.mem_of_getElem? he
              have HH : Hid (HoldsP e.of e.va D) := mw_holds (MM.out e hmem).1
              have HXL : Hid (e.va.length = B) := mw_len (MM.out e hmem).1
              have HOL : Hid (e.of.length ≤ 231) := (MM.out e hmem).2
              have QP : Hid (QeP wr e) := (QS.out.2 e hmem).below BR.out
              have Q8e : Hid (QeP w8 e) := QS.out.2 e hmem
              have NX : Hid ((es.take (i + 1)).map Qe.ov = (es.take i).map Qe.ov ++ [e.ov]) := by
                obtain ⟨b1, b2⟩ := List.getElem?_eq_some_iff.1 he
                unfold Hid
                rw [List.take_succ_eq_append_getElem b1, List.map_append, b2]
                rfl
              have QS0 : Qs w8 (.slice la T lc) es := QS.out
              obtain ⟨b6, o6, rfl, g0, g1⟩ := Qs.at QS0 BR.out he
              clear he hmem QS0
              obtain ⟨eo, ev, ef, ex⟩ := e
              obtain ⟨oa, oc, rfl, ho2, ho3⟩ := zs_shape (show Zs wr eo ef from QP.out.1)
              obtain ⟨xa, xc, rfl, hx2, hx3⟩ := bs_shape (show Bs wr ev ex from QP.out.2)
              obtain ⟨fl, hfl⟩ : ∃ x, ef.length = x := ⟨_, rfl⟩
              obtain ⟨xl, hxl⟩ : ∃ x, ex.length = x := ⟨_, rfl⟩
              have HFL : Hid (ef.length = fl) := hfl
              have HEX : Hid (ex.length = xl) := hxl
              simp only [hfl, hxl] at g0 g1 QP Q8e ho2 hx2 NX
              clear hfl hxl
              go_upto_region 26 with fail
              obtain ⟨w10, hw10⟩ : ∃ x, wr.alloc (.cells #[.slice oa fl oc, .slice xa xl xc] 31) = x := ⟨_, rfl⟩
              have F10 : Hid (EqB w10 wr.heap.size (.slice oa fl oc) (.slice xa xl xc)) := by rw [← hw10]; exact EqB.new _ _ _ _
              have X10 : Hid (Below wr.heap.size wr w10) := by rw [← hw10]; exact below_alloc _ _
              rw [hw10]
              clear hw10 g0 g1
              have R10 : Hid (OwnR w8.heap.size w10 (.slice ra i rc) i ((es.take i).map Qe.ov)) := RR.out.below X10.out
              have B10 : Hid (Below w8.heap.size w8 w10) := on_below BR.out X10.out
              have Q10 : Hid (QeP w10 ⟨.slice oa fl oc, .slice xa xl xc, ef, ex⟩) := QP.out.below X10.out
              have HNE : Hid ((Value.slice ra i rc).ownBlock ≠ some wr.heap.size) := fun h => by have := (RR.out.lt _ h).2; omega
              obtain ⟨p10, hp10⟩ : ∃ x, wr.heap.size = x := ⟨_, rfl⟩
              rw [hp10] at F10 HNE ⊢
              clear hp10 X10 RR BR QP
              obtain ⟨f0, f1⟩ := F10.out
              have FA : Hid (EqB (w10.alloc (.cells #[.slice oa fl oc] 29)) p10 (.slice oa fl oc) (.slice xa xl xc)) := F10.out.below (below_alloc _ _)
              have RA : Hid (OwnR w8.heap.size (w10.alloc (.cells #[.slice oa fl oc] 29)) (.slice ra i rc) i ((es.take i).map Qe.ov)) := R10.out.below (below_alloc _ _)
              have BA : Hid (Below w8.heap.size w8 (w10.alloc (.cells #[.slice oa fl oc] 29))) := B10.out.alloc B10.out.size _
              have hi9 : i + 1 ≤ 1000000000 := by omega
              go_wp2_with (at_builtin; refine wpList_addR _ rfl (.tmp 170) (.tmp 173) rfl w8.heap.size (.slice ra i rc) i _ rfl RA.out _ (.slice oa fl oc) rfl (one_srcV _ _ _) rfl hi9 BA.out.size ?_; intro a11 c11 w11 ho11 hg11; have f0' := (World.cell?_of_block (hg11.block p10 FA.out.lt (Ne.symm HNE.out))).trans FA.out.1; have f1' := (World.cell?_of_block (hg11.block p10 FA.out.lt (Ne.symm HNE.out))).trans FA.out.2)
              have R11 : Hid (OwnR w8.heap.size w11 (.slice a11 (i + 1) c11) (i + 1) ((es.take (i + 1)).map Qe.ov)) := by
                unfold Hid
                rw [NX.out]
                exact ho11
              have B11 : Hid (Below w8.heap.size w8 w11) := BA.out.grown hg11 BA.out.size (fun k hk => (RA.out.lt k hk).1)
              have hef : ef.length ≤ 1000000000 := by have h1 := HOL.out; omega
              have hex : ex.length ≤ 1000000000 := by have h1 := HXL.out; omega
              have SV : Hid (Sl 1 w11 (.slice a5 (N + A) k5) vs.length vs) := by
                unfold Hid
                rw [V5.out]
                exact S8.out.1.below B11.out
              have Q11 : Hid (QeP w11 ⟨.slice oa fl oc, .slice xa xl xc, ef, ex⟩) := Q8e.out.below B11.out
              refine (qholds_any (.slice oa fl oc) (.slice xa xl xc) (.slice a5 (N + A) k5) ef ex vs D w11 Q11.out.1 Q11.out.2 SV.out (S8.out.2.below B11.out) hef hex).mono ?_
              rintro e w12 ⟨⟨b, rfl, hbt⟩, hb⟩
              obtain rfl : b = true := hbt.2 HH.out
              have R12 : Hid (OwnR w8.heap.size w12 (.slice a11 (i + 1) c11) (i + 1) ((es.take (i + 1)).map Qe.ov)) := R11.out.below hb
              have B12 : Hid (Below w8.heap.size w8 w12) := on_below B11.out hb
              clear hbt hb R11 B11 SV Q11 ho11 hg11 RA BA FA HNE F10 R10 B10 Q10 HH HXL HOL HFL HEX NX Q8e hef hex f0 f1 f0' f1'
              go_wp2
              go_roundw
              case rel => exact ⟨i + 1, a11, c11, by omega, by go_num, rfl, R12, B12⟩
              case measure => simp [intOf]; omega
            · obtain rfl : T = i := by omega
              obtain ⟨w9, hw9⟩ : ∃ x, x = wr := ⟨_, rfl⟩
              subst hw9
              have RE : Hid (OwnR w8.heap.size w9 (.slice ra T rc) T (es.map Qe.ov)) := by
                have h1 := RR.out
                rw [List.take_of_length_le (by rw [EL.out]; exact Nat.le_refl _)] at h1
                exact h1
              have F9 : Hid (CaseC w9 w.heap.size N B Q E F S (.slice ao n cap) (.slice io m icap)) := F8.out.below BR.out
              have MW : Hid (∀ e ∈ es, MadeW B D e) := fun e he => (MM.out e he).1
              have FL : Hid ((es.map Qe.of).flatten.length ≤ 100000) := by
                have h1 := flat_most (k := 231) (ls := es.map Qe.of) (by
                  intro l hl
                  obtain ⟨e, he, rfl⟩ := List.mem_map.1 hl
                  exact (MM.out e he).2)
                rw [List.length_map, EL.out] at h1
                unfold Hid
                omega
              have ET : Hid (es.length ≤ 230) := by unfold Hid; rw [EL.out]; exact hT230
              have B9 : Hid (Below w.heap.size w w9) := on_below B8.out BR.out
              obtain ⟨c0, c1, c2, c3, c4, c5, c6, c7⟩ := F9.out
              clear RR
              go_wp2_with fail
              refine (qadd_uni B (.slice la T lc) es w9 (by omega) (QS.out.below BR.out) (by have h1 := FL.out; unfold ofsQ; omega) (by have h1 := ET.out; omega)).mono ?_
              rintro e w10 ⟨o, v, rfl, hq, hb⟩
              rw [mw_fit MW.out]
              obtain ⟨L, hL⟩ : ∃ x, addL B es = x := ⟨_, rfl⟩
              obtain ⟨X, hX⟩ : ∃ x, addX B es = x := ⟨_, rfl⟩
              have HS : Hid (HoldsP L X D) := by unfold Hid; rw [← hL, ← hX]; exact mw_all MW.out
              have HXB : Hid (X.length = B) := by unfold Hid; rw [← hX]; exact addX_length (mw_fit MW.out)
              have HLN : Hid (L.length ≤ 100000) := by
                unfold Hid
                rw [← hL]
                unfold addL
                rw [mw_fit MW.out]
                exact Nat.le_trans (oddD_length _) FL.out
              rw [hL, hX] at hq
              have hq' := hq
              obtain ⟨o1, oc, rfl, -, -⟩ := zs_shape (show Zs w10 o L from hq.1)
              obtain ⟨v1, vc, rfl, -, -⟩ := bs_shape (show Bs w10 v X from hq.2)
              obtain ⟨ln, hln⟩ : ∃ x, L.length = x := ⟨_, rfl⟩
              obtain ⟨xn, hxn⟩ : ∃ x, X.length = x := ⟨_, rfl⟩
              rw [hln, hxn] at hq hq' ⊢
              have HL1 : Hid (L.length ≤ 1000000000 ∧ X.length ≤ 1000000000) := ⟨by have h1 := HLN.out; omega, by have h1 := HXB.out; omega⟩
              have Q10 : Hid (QeP w10 ⟨.slice o1 ln oc, .slice v1 xn vc, L, X⟩) := hq
              have B10 : Hid (Below w9.heap.size w9 w10) := hb
              clear hq hq' hb hL hX hln hxn HLN HXB
              go_upto_region 31 with fail
              obtain ⟨w11, hw11⟩ : ∃ x, w10.alloc (.cells #[.slice o1 ln oc, .slice v1 xn vc] 31) = x := ⟨_, rfl⟩
              have F11 : Hid (EqB w11 w10.heap.size (.slice o1 ln oc) (.slice v1 xn vc)) := by rw [← hw11]; exact EqB.new _ _ _ _
              have X11 : Hid (Below w10.heap.size w10 w11) := by rw [← hw11]; exact below_alloc _ _
              rw [hw11]
              clear hw11
              have B11 : Hid (Below w9.heap.size w9 w11) := on_below B10.out X11.out
              have Q11 : Hid (QeP w11 ⟨.slice o1 ln oc, .slice v1 xn vc, L, X⟩) := Q10.out.below X11.out
              have G11 : Hid (CaseC w11 w.heap.size N B Q E F S (.slice ao n cap) (.slice io m icap)) := F9.out.below B11.out
              have S11 : Hid (Sl 1 w11 (.slice a5 (N + A) k5) vs.length vs ∧ Parts w11 vs D) := ⟨by rw [V5.out]; exact (S8.out.1.below BR.out).below B11.out, (S8.out.2.below BR.out).below B11.out⟩
              obtain ⟨p10, hp10⟩ : ∃ x, w10.heap.size = x := ⟨_, rfl⟩
              rw [hp10] at F11 ⊢
              obtain ⟨f0, f1⟩ := F11.out
              clear hp10 X11 Q10 B10 c0 c1 c2 c3 c4 c5 c6 c7
              go_wp2_with fail
              refine (qholds_any (.slice o1 ln oc) (.slice v1 xn vc) (.slice a5 (N + A) k5) L X vs D w11 Q11.out.1 Q11.out.2 S11.out.1 S11.out.2 HL1.out.1 HL1.out.2).mono ?_
              rintro e w12 ⟨⟨b, rfl, hbt⟩, hb⟩
              obtain rfl : b = true := hbt.2 HS.out
              have B12 : Hid (Below w9.heap.size w9 w12) := on_below B11.out hb
              have F12 : Hid (CaseC w12 w.heap.size N B Q E F S (.slice ao n cap) (.slice io m icap)) := F9.out.below B12.out
              obtain ⟨c0, c1, c2, c3, c4, c5, c6, c7⟩ := F12.out
              clear hbt hb HS HL1 S11 Q11 F11 f0 f1 B11 G11
              go_wp2_with fail
              refine (agrees_any ((N + A : Nat) : Int) B (.slice la T lc) es w12 ((QS.out.below BR.out).below B12.out) (by have h1 := ET.out; omega) (by have h1 := FL.out; omega) (by omega) (fun e he => mw_len (MW.out e he)) (by omega)).mono ?_
              rintro e w13 ⟨⟨b, rfl, hbt⟩, hb⟩
              obtain rfl : b = true := hbt.2 (mw_agree MW.out)
              have B13 : Hid (Below w9.heap.size w9 w13) := on_below B12.out hb
              clear hbt hb c0 c1 c2 c3 c4 c5 c6 c7
              go_wp2_with fail
              refine (kreach_any ((N + A : Nat) : Int) (.slice ra T rc) (es.map Qe.ov) (es.map Qe.of) w13 (by rw [List.length_map, EL.out]; exact RE.out.sl.below B13.out) (lsz_es (fun e he => ((QS.out.2 e he).below BR.out).below B13.out)) (by rw [List.length_map]; have h1 := ET.out; omega) (by have h1 := FL.out; omega) (by omega)).mono ?_
              rintro e w14 ⟨a14, n14, c14, r, rfl, hor, hpr, hfr, hb⟩
              have hle : n14 ≤ N + A := by have h1 := hor.len; have h2 := reach_few hpr hfr; omega
              have hleI : (n14 : Int) ≤ ((N + A : Nat) : Int) := by omega
              have B14 : Hid (Below w.heap.size w w14) := on_below (on_below B9.out B13.out) hb
              clear hor hpr hfr hb
              go_wp2
              go_ret
              exact ⟨by simp; omega, B14.out⟩

theorem wholeEquations_law (N B Q E F S : Int) (ov : Value) (l : List UInt8) (iv : Value) (il : List Int) (w : World) (h : (Lit.int .u64 S).wf = true ∧ Bs w ov l ∧ Sl 1 w iv il.length (il.map (Value.int .u64)) ∧ ∀ z ∈ il, (Lit.int .u64 z).wf = true) :
    Calls Tryz.prog 3 #[.agg #[.int .i64 N, .int .i64 B, .int .i64 Q, .int .i64 E, .int .i64 F, .int .u64 S, ov, iv]] w fun e w' => e = .returned (.bool true) ∧ Below w.heap.size w w' := by
  obtain ⟨hS, ho, hi, hk⟩ := h
  simp [Lit.wf, IntKind.min, IntKind.max, IntKind.bits, IntKind.signed] at hS
  obtain ⟨s, rfl⟩ : ∃ s : Nat, S = s := ⟨S.toNat, by omega⟩
  obtain ⟨ids, hs⟩ := us_of hi hk
  exact wholeEquations_walk N B Q E F s ov l iv ids w (by omega) ho hs

end Go.Proofs.YtkckbeekehecnaaGreat
