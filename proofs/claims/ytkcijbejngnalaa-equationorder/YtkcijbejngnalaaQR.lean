/-
  EquationOrder.
-/
import Derived.Test.YtkcijbejngnalaaQRm
import Derived.RegionTactic
import Derived.Deep.Light
namespace Go.Proofs.Ytkcijbejngnalaa
open Go.RowKit
set_option linter.unusedVariables false

theorem rev_take {l : List Qe} {i : Nat} {e : Qe} (h : l[l.length - 1 - i]? = some e) (hi : i < l.length) : l.reverse.take (i + 1) = l.reverse.take i ++ [e] := by
  have h1 : l.reverse[i]? = some e := by rw [List.getElem?_reverse hi]; exact h
  obtain ⟨h2, h3⟩ := List.getElem?_eq_some_iff.1 h1
  rw [List.take_succ_eq_append_getElem h2, h3]

set_option maxRecDepth 100000 in
set_option maxHeartbeats 4000000 in
theorem equationOrder_walk (s : Int) (hs : (Lit.int .u8 s).wf = true) (pv ov vv : Value) (of : List Int) (v : List UInt8) (es : List Qe) (w : World) (hp : Qs w pv es) (hq : ∀ e ∈ es, QeW e) (he : QeP w ⟨ov, vv, of, v⟩) (hw : QeW ⟨ov, vv, of, v⟩) :
    Calls Try.prog 7 #[.int .u8 s, pv, .agg #[ov, vv]] w fun e w' => e = .returned (.bool true) ∧ Below w.heap.size w w' := by
  obtain ⟨hsl, hsu⟩ := bounds_u8 hs
  obtain ⟨S, rfl⟩ := Int.eq_ofNat_of_zero_le hsl
  have hS : S < 256 := by omega
  clear hsl hsu
  obtain ⟨n, hn⟩ : ∃ n, S % 20 = n := ⟨_, rfl⟩
  have Hn : Hid (S % 20 = n) := hn
  have hn20 : n < 20 := by omega
  have eS : (S : Int) % 20 = (n : Int) := by omega
  have HP : Hid (Qs w pv es) := hp
  have HQ : Hid (∀ e ∈ es, QeW e) := hq
  have HZ : Hid (Zs w ov of) := he.1
  have HV : Hid (Bs w vv v) := he.2
  have HW : Hid (QeW ⟨ov, vv, of, v⟩) := hw
  obtain ⟨bo, oc, rfl, ho2, ho3⟩ := zs_shape (show Zs w ov of from he.1)
  obtain ⟨va, vc, rfl, hv2, hv3⟩ := bs_shape (show Bs w vv v from he.2)
  obtain ⟨ao, pc, rfl, hp2, hp3⟩ := hp.shape
  obtain ⟨N, hN⟩ : ∃ N, es.length = N := ⟨_, rfl⟩
  obtain ⟨m, hm'⟩ : ∃ m, of.length = m := ⟨_, rfl⟩
  obtain ⟨k, hk'⟩ : ∃ k, v.length = k := ⟨_, rfl⟩
  have HN : Hid (es.length = N) := hN
  have Hm : Hid (of.length = m) := hm'
  have Hk : Hid (v.length = k) := hk'
  rw [hN] at hp2 HP ⊢
  rw [hm'] at ho2 HZ HW ⊢
  rw [hk'] at hv2 HV HW ⊢
  clear hN hm' hk' hp hq he hw hn hs
  go_enter Try.func7, Try.ntmps7
  go_upto_region 1 with fail
  obtain ⟨w1, hw1⟩ : ∃ x, w.alloc (.cells #[.slice bo m oc, .slice va k vc] 41) = x := ⟨_, rfl⟩
  rw [hw1]
  have E1 : Hid (EqB w1 w.heap.size (.slice bo m oc) (.slice va k vc)) := by rw [← hw1]; exact EqB.new _ _ _ _
  have X1 : Hid (Below w.heap.size w w1) := by rw [← hw1]; exact below_alloc _ _
  clear hw1
  go_wp2_with fail
  refine (speaks15_any _).mono ?_
  rintro e w3 ⟨rfl, hb⟩
  have X13 : Hid (Below w1.heap.size w1 w3) := hb
  have X3 : Hid (Below w.heap.size w w3) := on_below X1.out hb
  have BX : Hid (∀ W, Below w3.heap.size w3 W → EqB W w.heap.size (.slice bo m oc) (.slice va k vc)) := fun W hW => E1.out.below (on_below X13.out hW)
  clear hb X13 X1 E1
  go_wp2_with fail
  refine (big15_any _ es w3 (HP.out.below X3.out) HQ.out).mono ?_
  rintro e w4 ⟨⟨r, rfl, hbig⟩, hb⟩
  have X34 : Hid (Below w3.heap.size w3 w4) := hb
  have X4 : Hid (Below w.heap.size w w4) := on_below X3.out hb
  have HB : Hid (r = false → (ofsQ es).length + es.length ≤ 300 ∧ ∀ e ∈ es, e.va.length ≤ 60) := hbig
  clear hb hbig
  cases r with
  | true =>
    clear HB
    go_wp2
    go_ret
    exact ⟨rfl, X4.out⟩
  | false =>
    have HL : Hid ((ofsQ es).length + es.length ≤ 300 ∧ ∀ e ∈ es, e.va.length ≤ 60) := HB.out rfl
    clear HB
    have HWL : Hid (∀ e ∈ [(⟨.slice bo m oc, .slice va k vc, of, v⟩ : Qe)], QeW e) := by
      intro e he
      have e1 : e = _ := List.mem_singleton.1 he
      rw [e1]
      exact HW.out
    have QW : Hid (QeP w4 ⟨.slice bo m oc, .slice va k vc, of, v⟩) := ⟨HZ.out.below X4.out, HV.out.below X4.out⟩
    obtain ⟨c0, c1⟩ := BX.out w4 X34.out
    go_wp2_with fail
    refine (big15_any _ [⟨.slice bo m oc, .slice va k vc, of, v⟩] _ (Qs.lit1 w4 ⟨.slice bo m oc, .slice va k vc, of, v⟩ _ rfl QW.out) HWL.out).mono ?_
    rintro e w5 ⟨⟨r, rfl, hbig⟩, hb⟩
    have X35 : Hid (Below w3.heap.size w3 w5) := on_below X34.out (on_below (below_alloc _ _) hb)
    have X5 : Hid (Below w.heap.size w w5) := on_below X3.out X35.out
    have HB : Hid (r = false → m + 1 ≤ 300 ∧ k ≤ 60) := fun h => by
      have h1 := big_one (hbig h)
      have := Hm.out
      have := Hk.out
      simp only [] at h1
      omega
    clear hb hbig c0 c1 QW X34 X4
    cases r with
    | true =>
      clear HB
      go_wp2
      go_ret
      exact ⟨rfl, X5.out⟩
    | false =>
      have HL2 : Hid (m + 1 ≤ 300 ∧ k ≤ 60) := HB.out rfl
      have hN300 : N ≤ 300 := by have := HL.out.1; have := HN.out; omega
      clear HB HWL
      go_wp2
      go_loopw [8, 30] (fun lv iv wr => ∃ (i : Nat) (a : Option Addr) (c : Nat), i ≤ N ∧ iv = .int .i64 i ∧ lv = .slice a i c ∧ Hid (OwnE w3.heap.size wr (.slice a i c) i (es.reverse.take i)) ∧ Hid (Below w3.heap.size w3 wr)) (fun _ iv _ => N - (intOf iv).toNat)
      case atStart => exact ⟨0, none, 0, by omega, rfl, rfl, OwnE.nil _ _, X35⟩
      case round =>
        clear X35 X5
        obtain ⟨i, a, c, hi, rfl, rfl, OO, BB⟩ := hrel
        by_cases hlt : i < N
        · obtain ⟨j, hj⟩ : ∃ j, N - 1 - i = j := ⟨_, rfl⟩
          have hjN : j < N := by omega
          obtain ⟨e, he⟩ : ∃ e, es[j]? = some e := ⟨_, List.getElem?_eq_getElem (by rw [HN.out]; exact hjN)⟩
          have HPn : Qs w (.slice ao N pc) es := HP.out
          obtain ⟨b, off, rfl, c0, c1⟩ := Qs.at HPn (on_below X3.out BB.out) he
          have EP : Hid (QeP wr e) := Qs.get HPn (on_below X3.out BB.out) he
          have NX : Hid (es.reverse.take (i + 1) = es.reverse.take i ++ [e]) := rev_take (by rw [HN.out, hj]; exact he) (by rw [HN.out]; exact hlt)
          have e1 : (N : Int) - 1 - (i : Int) = (j : Int) := by omega
          have OA : Hid (OwnE w3.heap.size (wr.alloc (.cells #[e.ov, e.vv] 41)) (.slice a i c) i (es.reverse.take i)) := OO.out.below (below_alloc _ _)
          have BA : Hid (Below w3.heap.size w3 (wr.alloc (.cells #[e.ov, e.vv] 41))) := BB.out.alloc BB.out.size _
          have ON : Hid (∀ u ∈ [e].flatMap Qe.cells, u.oneCell' = true) := e_oneCell (w := wr) (fun x hx => by rw [List.mem_singleton.1 hx]; exact EP.out)
          clear he HPn hj OO BB EP
          go_wp2_with (at_builtin; refine wpList_addE _ rfl (.tmp 33) (.tmp 42) rfl w3.heap.size (.slice a i c) i _ rfl OA.out _ 1 [e] rfl one_src ON.out (by omega) BA.out.size ?_; intro a4 k4 w4 ho4 hg4)
          have O4 : Hid (OwnE w3.heap.size w4 (.slice a4 (i + 1) k4) (i + 1) (es.reverse.take (i + 1))) := by rw [NX.out]; exact ho4
          have B4 : Hid (Below w3.heap.size w3 w4) := BA.out.grown hg4 BA.out.size (fun k hk => (OA.out.lt k hk).1)
          clear ho4 hg4 OA BA NX ON
          go_roundw
          case rel => exact ⟨i + 1, a4, k4, by omega, by go_num, rfl, O4, B4⟩
          case measure => simp [intOf]; omega
        · obtain rfl : N = i := by omega
          have eN : es.reverse.take N = es.reverse := List.take_of_length_le (by rw [List.length_reverse, HN.out]; exact Nat.le_refl _)
          have RQ : Hid (OwnE w3.heap.size wr (.slice a N c) N es.reverse) := by have := OO.out; rw [eN] at this; exact this
          clear OO eN
          obtain ⟨w6, hw6⟩ : ∃ x, x = wr := ⟨_, rfl⟩
          subst hw6
          obtain ⟨L, hL⟩ : ∃ L, addL n es = L := ⟨_, rfl⟩
          obtain ⟨X, hX⟩ : ∃ X, addX n es = X := ⟨_, rfl⟩
          obtain ⟨r, hr⟩ : ∃ r, addB n es = r := ⟨_, rfl⟩
          have HLL : Hid (addL n es = L) := hL
          have HXX : Hid (addX n es = X) := hX
          have HR : Hid (addB n es = r) := hr
          clear hL hX hr
          go_wp2_with fail
          refine (qadd_uni n _ es w6 (by omega) (HP.out.below (on_below X3.out BB.out)) (by have := HL.out.1; omega) (by rw [HN.out]; omega)).mono ?_
          rintro e w7 ⟨o7, v7, rfl, hq, hb⟩
          rw [HR.out]
          rw [HLL.out, HXX.out] at hq
          have X7 : Hid (Below w3.heap.size w3 w7) := on_below BB.out hb
          have A7 : Hid (QeP w7 ⟨o7, v7, L, X⟩) := hq
          have RQ7 : Hid (OwnE w3.heap.size w7 (.slice a N c) N es.reverse) := RQ.out.below hb
          obtain ⟨a7, c7, rfl, -, -⟩ := zs_shape (show Zs w7 o7 L from hq.1)
          obtain ⟨b7, d7, rfl, -, -⟩ := bs_shape (show Bs w7 v7 X from hq.2)
          obtain ⟨l7, hl7⟩ : ∃ x, L.length = x := ⟨_, rfl⟩
          obtain ⟨x7, hx7⟩ : ∃ x, X.length = x := ⟨_, rfl⟩
          rw [hl7, hx7] at A7
          rw [hl7, hx7]
          clear hq hb hl7 hx7 RQ BB
          go_upto_region 13 with fail
          obtain ⟨w8, hw8⟩ : ∃ x, w7.alloc (.cells #[.slice a7 l7 c7, .slice b7 x7 d7] 41) = x := ⟨_, rfl⟩
          have F8 : Hid (EqB w8 w7.heap.size (.slice a7 l7 c7) (.slice b7 x7 d7)) := by rw [← hw8]; exact EqB.new _ _ _ _
          have X78 : Hid (Below w7.heap.size w7 w8) := by rw [← hw8]; exact below_alloc _ _
          rw [hw8]
          clear hw8
          obtain ⟨p7, hp7⟩ : ∃ x, w7.heap.size = x := ⟨_, rfl⟩
          have X8 : Hid (Below w3.heap.size w3 w8) := on_below X7.out X78.out
          have A8 : Hid (QeP w8 ⟨.slice a7 l7 c7, .slice b7 x7 d7, L, X⟩) := A7.out.below X78.out
          have RQ8 : Hid (OwnE w3.heap.size w8 (.slice a N c) N es.reverse) := RQ7.out.below X78.out
          rw [hp7] at F8 ⊢
          clear hp7 A7 RQ7 X7 X78
          have PR : Hid (es.reverse.Perm es) := List.reverse_perm es
          have QR8 : Hid (Qs w8 (.slice a N c) es.reverse) := RQ8.out.qs (fun e he => (HP.out.2 e (PR.out.mem_iff.1 he)).below (on_below X3.out X8.out))
          go_wp2_with fail
          refine (qadd_uni n _ es.reverse w8 (by omega) QR8.out (by
            have h1 : (ofsQ es.reverse).length = (ofsQ es).length := (show (ofsQ es.reverse).Perm (ofsQ es) from (PR.out.map _).flatten).length_eq
            have := HL.out.1
            omega) (by rw [List.length_reverse, HN.out]; omega)).mono ?_
          rintro e w9 ⟨o9, v9, rfl, hq, hb⟩
          rw [addB_perm PR.out, HR.out]
          rw [addL_perm PR.out, addX_perm PR.out, HLL.out, HXX.out] at hq
          have X89 : Hid (Below w8.heap.size w8 w9) := hb
          have X9 : Hid (Below w3.heap.size w3 w9) := on_below X8.out hb
          have A9 : Hid (QeP w9 ⟨o9, v9, L, X⟩) := hq
          obtain ⟨a9, c9, rfl, -, -⟩ := zs_shape (show Zs w9 o9 L from hq.1)
          obtain ⟨b9, d9, rfl, -, -⟩ := bs_shape (show Bs w9 v9 X from hq.2)
          obtain ⟨l9, hl9⟩ : ∃ x, L.length = x := ⟨_, rfl⟩
          obtain ⟨x9, hx9⟩ : ∃ x, X.length = x := ⟨_, rfl⟩
          rw [hl9, hx9] at A9
          rw [hl9, hx9]
          clear hq hb hl9 hx9 QR8 RQ8
          go_upto_region 14 with fail
          obtain ⟨w10, hw10⟩ : ∃ x, w9.alloc (.cells #[.slice a9 l9 c9, .slice b9 x9 d9] 41) = x := ⟨_, rfl⟩
          have F10 : Hid (EqB w10 w9.heap.size (.slice a9 l9 c9) (.slice b9 x9 d9)) := by rw [← hw10]; exact EqB.new _ _ _ _
          have X90 : Hid (Below w9.heap.size w9 w10) := by rw [← hw10]; exact below_alloc _ _
          rw [hw10]
          clear hw10
          obtain ⟨p9, hp9⟩ : ∃ x, w9.heap.size = x := ⟨_, rfl⟩
          have X10 : Hid (Below w3.heap.size w3 w10) := on_below X9.out X90.out
          have X81 : Hid (Below w8.heap.size w8 w10) := on_below X89.out X90.out
          have BA : Hid (∀ W, Below w10.heap.size w10 W → EqB W p7 (.slice a7 l7 c7) (.slice b7 x7 d7) ∧ QeP W ⟨.slice a7 l7 c7, .slice b7 x7 d7, L, X⟩) := fun W hW => ⟨F8.out.below (on_below X81.out hW), A8.out.below (on_below X81.out hW)⟩
          have BB9 : Hid (∀ W, Below w10.heap.size w10 W → EqB W p9 (.slice a9 l9 c9) (.slice b9 x9 d9) ∧ QeP W ⟨.slice a9 l9 c9, .slice b9 x9 d9, L, X⟩) := by
            intro W hW
            refine ⟨?_, A9.out.below (on_below X90.out hW)⟩
            have := F10.out.below hW
            rwa [hp9] at this
          rw [hp9]
          clear hp9 F8 F10 A8 A9 X89 X90 X81 X9 X8
          obtain ⟨L2, hL2⟩ : ∃ L2, addL n ([(⟨.slice bo m oc, .slice va k vc, of, v⟩ : Qe)] ++ es ++ [(⟨.slice bo m oc, .slice va k vc, of, v⟩ : Qe)]) = L2 := ⟨_, rfl⟩
          obtain ⟨X2, hX2⟩ : ∃ X2, addX n ([(⟨.slice bo m oc, .slice va k vc, of, v⟩ : Qe)] ++ es ++ [(⟨.slice bo m oc, .slice va k vc, of, v⟩ : Qe)]) = X2 := ⟨_, rfl⟩
          obtain ⟨r2, hr2⟩ : ∃ r2, addB n ([(⟨.slice bo m oc, .slice va k vc, of, v⟩ : Qe)] ++ es ++ [(⟨.slice bo m oc, .slice va k vc, of, v⟩ : Qe)]) = r2 := ⟨_, rfl⟩
          have R2 : Hid (r2 = (r && decide (k = n))) := by
            unfold Hid
            rw [← hr2, addB_twice, HR.out]
            have := Hk.out
            simp only [this]
          have T2 : Hid (r2 = true → L2 = L ∧ X2 = X) := by
            intro h
            rw [← hr2] at h
            exact ⟨by rw [← hL2, addL_twice h, HLL.out], by rw [← hX2, addX_twice h, HXX.out]⟩
          have BX10 : Hid (∀ W, Below w10.heap.size w10 W → EqB W w.heap.size (.slice bo m oc) (.slice va k vc)) := fun W hW => BX.out W (on_below X10.out hW)
          have QP : Hid (∀ W, Below w10.heap.size w10 W → Qs W (.slice ao N pc) es) := fun W hW => HP.out.below (on_below X3.out (on_below X10.out hW))
          have QX : Hid (∀ W, Below w10.heap.size w10 W → ∀ e ∈ [(⟨.slice bo m oc, .slice va k vc, of, v⟩ : Qe)], QeP W e) := by
            intro W hW e he
            rw [List.mem_singleton.1 he]
            exact ⟨HZ.out.below (on_below X3.out (on_below X10.out hW)), HV.out.below (on_below X3.out (on_below X10.out hW))⟩
          have C8 : Hid (∀ W v', Below w10.heap.size w10 W → IsOwE w10.heap.size (1 + es.length + 1) ([(⟨.slice bo m oc, .slice va k vc, of, v⟩ : Qe)] ++ es ++ [(⟨.slice bo m oc, .slice va k vc, of, v⟩ : Qe)]) v' W → Calls Try.prog 20 #[.int .i64 (n : Int), v'] W fun e w' => ∃ u, e = .returned u ∧ IsAdd r2 L2 X2 u w' ∧ Below W.heap.size W w') := by
            intro W v' hW hv
            have hQ : ∀ e ∈ [(⟨.slice bo m oc, .slice va k vc, of, v⟩ : Qe)] ++ es ++ [(⟨.slice bo m oc, .slice va k vc, of, v⟩ : Qe)], QeP W e := by
              intro e he
              rcases List.mem_append.1 he with he | he
              · rcases List.mem_append.1 he with he | he
                · exact QX.out W hW e he
                · exact (QP.out W hW).2 e he
              · exact QX.out W hW e he
            have hof : (ofsQ ([(⟨.slice bo m oc, .slice va k vc, of, v⟩ : Qe)] ++ es ++ [(⟨.slice bo m oc, .slice va k vc, of, v⟩ : Qe)])).length ≤ 100000000 := by
              have h1 : ofsQ ([(⟨.slice bo m oc, .slice va k vc, of, v⟩ : Qe)] ++ es ++ [(⟨.slice bo m oc, .slice va k vc, of, v⟩ : Qe)]) = of ++ (ofsQ es ++ of) := by simp [ofsQ]
              rw [h1, List.length_append, List.length_append, Hm.out]
              have := HL.out.1
              have := HL2.out.1
              omega
            refine (qadd_typ n v' _ W (by omega) (OwnE.qs hv hQ) hof (by simp only [List.length_append, List.length_singleton]; rw [HN.out]; omega)).mono ?_
            rintro e w' ⟨ov, vv, rfl, hq, hb⟩
            rw [hr2]
            rw [hL2, hX2] at hq
            exact ⟨_, rfl, ⟨_, _, rfl, hq⟩, hb⟩
          clear hL2 hX2 hr2
          refine wp_region_any (by kernel_rfl) ?_
          obtain ⟨gs, hgs⟩ : ∃ gs : List (Value → World → Prop), gs = [IsV (Value.int IntKind.i64 ↑n), IsV (.agg #[.slice bo m oc, .slice va k vc]), IsAnyV, IsV (Value.slice ao N pc), IsAnyV, IsV (.agg #[.slice bo m oc, .slice va k vc]), IsAnyV, IsAnyV, IsAnyV, IsAnyV, IsAnyV, IsV (.bool r2), IsAnyV, IsAnyV, IsV (.bool r2)] := ⟨_, rfl⟩
          have g0 : Hid (gs[0]? = some (IsV (Value.int IntKind.i64 ↑n))) := by unfold Hid; rw [hgs]; rfl
          have g1 : Hid (gs[1]? = some (IsV (.agg #[.slice bo m oc, .slice va k vc]))) := by unfold Hid; rw [hgs]; rfl
          have g2 : Hid (gs[2]? = some (IsAnyV)) := by unfold Hid; rw [hgs]; rfl
          have g3 : Hid (gs[3]? = some (IsV (Value.slice ao N pc))) := by unfold Hid; rw [hgs]; rfl
          have g4 : Hid (gs[4]? = some (IsAnyV)) := by unfold Hid; rw [hgs]; rfl
          have g5 : Hid (gs[5]? = some (IsV (.agg #[.slice bo m oc, .slice va k vc]))) := by unfold Hid; rw [hgs]; rfl
          have g6 : Hid (gs[6]? = some (IsAnyV)) := by unfold Hid; rw [hgs]; rfl
          have g7 : Hid (gs[7]? = some (IsAnyV)) := by unfold Hid; rw [hgs]; rfl
          have g8 : Hid (gs[8]? = some (IsAnyV)) := by unfold Hid; rw [hgs]; rfl
          have g9 : Hid (gs[9]? = some (IsAnyV)) := by unfold Hid; rw [hgs]; rfl
          have g10 : Hid (gs[10]? = some (IsAnyV)) := by unfold Hid; rw [hgs]; rfl
          have g11 : Hid (gs[11]? = some (IsV (.bool r2))) := by unfold Hid; rw [hgs]; rfl
          have g12 : Hid (gs[12]? = some (IsAnyV)) := by unfold Hid; rw [hgs]; rfl
          have g13 : Hid (gs[13]? = some (IsAnyV)) := by unfold Hid; rw [hgs]; rfl
          have g14 : Hid (gs[14]? = some (IsV (.bool r2))) := by unfold Hid; rw [hgs]; rfl
          have gk : Hid (∀ p ∈ gs, ∀ v (U U' : World), p v U → p v U') := by
            unfold Hid
            rw [hgs]
            simp only [List.forall_mem_cons]
            exact ⟨(fun _ _ _ h => h), (fun _ _ _ h => h), (fun _ _ _ h => h), (fun _ _ _ h => h), (fun _ _ _ h => h), (fun _ _ _ h => h), (fun _ _ _ h => h), (fun _ _ _ h => h), (fun _ _ _ h => h), (fun _ _ _ h => h), (fun _ _ _ h => h), (fun _ _ _ h => h), (fun _ _ _ h => h), (fun _ _ _ h => h), (fun _ _ _ h => h), by simp⟩
          clear hgs
          have JS : Hid (∀ W W', Below W.heap.size W W' → (fun W => Below w10.heap.size w10 W) W → (fun W => Below w10.heap.size w10 W) W') := fun W W' hb h => h.trans (hb.mono h.size)
          have st2 : Hid (Stays (IsX1 w10.heap.size (⟨.slice bo m oc, .slice va k vc, of, v⟩ : Qe))) := stays_x1 _ _
          have st4 : Hid (Stays (IsOwE w10.heap.size (1 + es.length) ([(⟨.slice bo m oc, .slice va k vc, of, v⟩ : Qe)] ++ es))) := stays_owe _ _ _
          have st6 : Hid (Stays (IsX1 w10.heap.size (⟨.slice bo m oc, .slice va k vc, of, v⟩ : Qe))) := stays_x1 _ _
          have st7 : Hid (Stays (IsOwE w10.heap.size (1 + es.length + 1) ([(⟨.slice bo m oc, .slice va k vc, of, v⟩ : Qe)] ++ es ++ [(⟨.slice bo m oc, .slice va k vc, of, v⟩ : Qe)]))) := stays_owe _ _ _
          have st8 : Hid (Stays (IsAdd r2 L2 X2)) := stays_add _ _ _
          have st9 : Hid (Stays (IsAdd r2 L2 X2)) := stays_add _ _ _
          have st10 : Hid (Stays (IsEqN L2 X2)) := stays_eqn _ _
          have st12 : Hid (Stays (IsBx0 w10.heap.size)) := stays_bx0 _
          have st13 : Hid (Stays (IsBxE L2 X2)) := stays_bxe _ _
          refine wpAny_inv4 (fun listed ac W => ∃ xv : Nat → Value, ac = ⟨#[Value.int IntKind.u8 ↑S, Value.slice ao N pc, Value.agg #[Value.slice bo m oc, Value.slice va k vc], undef, undef, Value.pointer (some { block := w.heap.size, off := 0 }), Value.bool false, Value.int IntKind.i64 ↑n, Value.slice a N c, u9, Value.pointer (some { block := p7, off := 0 }), Value.bool r, Value.pointer (some { block := p9, off := 0 }), Value.bool r, xv 12, xv 14, Value.bool true, Value.bool false, Value.int IntKind.u8 ↑S, Value.int IntKind.i64 ↑S, Value.int IntKind.i64 ↑n, Value.slice ao N pc, Value.bool false, Value.bool false, Value.agg #[Value.slice bo m oc, Value.slice va k vc], Value.slice (some { block := w4.heap.size, off := 0 }) 1 1, Value.bool false, Value.bool false, Value.slice ao N pc, Value.int IntKind.i64 ↑N, Value.int IntKind.i64 ↑N, Value.bool false, u32, u33, u34, u35, u36, u37, u38, u39, u40, u41, u42, u43, u44, Value.tuple #[Value.agg #[Value.slice a7 l7 c7, Value.slice b7 x7 d7], Value.bool r], Value.int IntKind.i64 ↑n, Value.slice ao N pc, Value.tuple #[Value.agg #[Value.slice a7 l7 c7, Value.slice b7 x7 d7], Value.bool r], Value.agg #[Value.slice a7 l7 c7, Value.slice b7 x7 d7], Value.bool r, Value.tuple #[Value.agg #[Value.slice a9 l9 c9, Value.slice b9 x9 d9], Value.bool r], Value.int IntKind.i64 ↑n, Value.slice a N c, Value.tuple #[Value.agg #[Value.slice a9 l9 c9, Value.slice b9 x9 d9], Value.bool r], Value.agg #[Value.slice a9 l9 c9, Value.slice b9 x9 d9], Value.bool r, xv 9, xv 0, xv 1, xv 2, xv 3, xv 4, xv 5, xv 6, xv 7, xv 8, xv 10, xv 11, undef, undef, undef, undef, undef, undef, undef, undef, undef, undef, undef, undef, undef, undef, undef, undef, undef, undef, undef, undef, undef, undef, undef, undef, undef, undef, undef, undef, undef, undef, undef], []⟩ ∧ (fun W => Below w10.heap.size w10 W) W ∧ Lst gs listed xv W ∧ Fd listed xv W 2 4 (IsX1 w10.heap.size (⟨.slice bo m oc, .slice va k vc, of, v⟩ : Qe)) ∧ Fd listed xv W 4 7 (IsOwE w10.heap.size (1 + es.length) ([(⟨.slice bo m oc, .slice va k vc, of, v⟩ : Qe)] ++ es)) ∧ Fd listed xv W 6 7 (IsX1 w10.heap.size (⟨.slice bo m oc, .slice va k vc, of, v⟩ : Qe)) ∧ Fd listed xv W 7 8 (IsOwE w10.heap.size (1 + es.length + 1) ([(⟨.slice bo m oc, .slice va k vc, of, v⟩ : Qe)] ++ es ++ [(⟨.slice bo m oc, .slice va k vc, of, v⟩ : Qe)])) ∧ Fe listed xv W 8 (IsAdd r2 L2 X2) ∧ Fe listed xv W 9 (IsAdd r2 L2 X2) ∧ Fe listed xv W 10 (IsEqN L2 X2) ∧ Fd listed xv W 12 13 (IsBx0 w10.heap.size) ∧ Fe listed xv W 13 (IsBxE L2 X2) ∧ Rel4 listed xv 13 12) (by kernel_rfl) ?_ ?_ _ _ _ _ (by kernel_rfl) (of_decide_eq_true (by kernel_rfl)) (Down.start _) ⟨fun jx => undef, rfl, below0 _, Lst.start _ _ _ _, Fd.start _ _ _ _ _ _, Fd.start _ _ _ _ _ _, Fd.start _ _ _ _ _ _, Fd.start _ _ _ _ _ _, Fe.start _ _ _ _ _, Fe.start _ _ _ _ _, Fe.start _ _ _ _ _, Fd.start _ _ _ _ _ _, Fe.start _ _ _ _ _, Rel4.start _ _ _ _⟩
          · go_light
            rintro listed ac W ⟨xv, rfl, hb, hG, hF2, hF4, hF6, hF7, hF8, hF9, hF10, hF12, hF13, hR13⟩ hD i hi hnl hd
            have hin : i < 15 := hi
            clear hi
            have hcase : i = 0 ∨ i = 1 ∨ i = 2 ∨ i = 3 ∨ i = 4 ∨ i = 5 ∨ i = 6 ∨ i = 7 ∨ i = 8 ∨ i = 9 ∨ i = 10 ∨ i = 11 ∨ i = 12 ∨ i = 13 ∨ i = 14 := by omega
            rcases hcase with rfl | rfl | rfl | rfl | rfl | rfl | rfl | rfl | rfl | rfl | rfl | rfl | rfl | rfl | rfl
            · refine wpOp_step rfl (fun K' hK => ?_)
              clear hd hin hD
              go_simp
              exact hK _ _ ⟨updV xv 0 (Value.int IntKind.i64 ↑n), by simp [updV], hb, hG.any gk.out g0.out _ rfl, hF2.step (fun _ h => h) (by decide) (by decide) _, hF4.step (fun _ h => h) (by decide) (by decide) _, hF6.step (fun _ h => h) (by decide) (by decide) _, hF7.step (fun _ h => h) (by decide) (by decide) _, hF8.step (fun _ h => h) (by decide) _, hF9.step (fun _ h => h) (by decide) _, hF10.step (fun _ h => h) (by decide) _, hF12.step (fun _ h => h) (by decide) (by decide) _, hF13.step (fun _ h => h) (by decide) _, hR13.step (by decide) (by decide)⟩
            · refine wpOp_step rfl (fun K' hK => ?_)
              obtain ⟨c0, c1⟩ := BX10.out W hb
              clear hd hin hD
              go_simp
              exact hK _ _ ⟨updV xv 1 (.agg #[.slice bo m oc, .slice va k vc]), by simp [updV], hb, hG.any gk.out g1.out _ rfl, hF2.step (fun _ h => h) (by decide) (by decide) _, hF4.step (fun _ h => h) (by decide) (by decide) _, hF6.step (fun _ h => h) (by decide) (by decide) _, hF7.step (fun _ h => h) (by decide) (by decide) _, hF8.step (fun _ h => h) (by decide) _, hF9.step (fun _ h => h) (by decide) _, hF10.step (fun _ h => h) (by decide) _, hF12.step (fun _ h => h) (by decide) (by decide) _, hF13.step (fun _ h => h) (by decide) _, hR13.step (by decide) (by decide)⟩
            · refine wpOp_step rfl (fun K' hK => ?_)
              simp [Region.binds] at hd
              have e1 : xv 1 = .agg #[.slice bo m oc, .slice va k vc] := hG.get g1.out (by simp [hd])
              clear hd hin hD
              go_simp
              exact hK _ _ ⟨updV xv 2 (.slice (some ⟨W.heap.size, 0, none⟩) 1 1), by simp [updV, e1], JS.out _ _ (below_alloc _ _) hb, hG.any gk.out g2.out _ trivial, Fd.new (⟨OwnE.new W hb.size (⟨.slice bo m oc, .slice va k vc, of, v⟩ : Qe), _, rfl⟩), hF4.on st4.out (below_alloc _ _) (by decide) (by decide) _, hF6.on st6.out (below_alloc _ _) (by decide) (by decide) _, hF7.on st7.out (below_alloc _ _) (by decide) (by decide) _, hF8.on st8.out (below_alloc _ _) (by decide) _, hF9.on st9.out (below_alloc _ _) (by decide) _, hF10.on st10.out (below_alloc _ _) (by decide) _, hF12.on st12.out (below_alloc _ _) (by decide) (by decide) _, hF13.on st13.out (below_alloc _ _) (by decide) _, hR13.step (by decide) (by decide)⟩
            · refine wpOp_step rfl (fun K' hK => ?_)
              clear hd hin hD
              go_simp
              exact hK _ _ ⟨updV xv 3 (Value.slice ao N pc), by simp [updV], hb, hG.any gk.out g3.out _ rfl, hF2.step (fun _ h => h) (by decide) (by decide) _, hF4.step (fun _ h => h) (by decide) (by decide) _, hF6.step (fun _ h => h) (by decide) (by decide) _, hF7.step (fun _ h => h) (by decide) (by decide) _, hF8.step (fun _ h => h) (by decide) _, hF9.step (fun _ h => h) (by decide) _, hF10.step (fun _ h => h) (by decide) _, hF12.step (fun _ h => h) (by decide) (by decide) _, hF13.step (fun _ h => h) (by decide) _, hR13.step (by decide) (by decide)⟩
            · refine wpOp_step rfl (fun K' hK => ?_)
              simp [Region.binds] at hd
              have l2 : listed.getD 2 false = true := by simp [hd]
              have m2 := hF2.get l2 hnl
              have e3 : xv 3 = Value.slice ao N pc := hG.get g3.out (by simp [hd])
              clear hd hin hD
              refine step_fullE W rfl (.tmp 60) (.tmp 61) rfl w10.heap.size _ 1 [(⟨.slice bo m oc, .slice va k vc, of, v⟩ : Qe)] rfl m2.1 m2.2 (.slice ao N pc) es e3 (QP.out W hb) (by rw [HN.out]; omega) hb.size ?_
              intro oo cap w' hown hb'
              exact hK _ _ ⟨updV xv 4 (.slice oo (1 + es.length) cap), by simp [updV, Act.put], JS.out _ _ hb' hb, hG.any gk.out g4.out _ trivial, Fd.off hnl, Fd.new (hown), hF6.on st6.out hb' (by decide) (by decide) _, hF7.on st7.out hb' (by decide) (by decide) _, hF8.on st8.out hb' (by decide) _, hF9.on st9.out hb' (by decide) _, hF10.on st10.out hb' (by decide) _, hF12.on st12.out hb' (by decide) (by decide) _, hF13.on st13.out hb' (by decide) _, hR13.step (by decide) (by decide)⟩
            · refine wpOp_step rfl (fun K' hK => ?_)
              obtain ⟨c0, c1⟩ := BX10.out W hb
              clear hd hin hD
              go_simp
              exact hK _ _ ⟨updV xv 5 (.agg #[.slice bo m oc, .slice va k vc]), by simp [updV], hb, hG.any gk.out g5.out _ rfl, hF2.step (fun _ h => h) (by decide) (by decide) _, hF4.step (fun _ h => h) (by decide) (by decide) _, hF6.step (fun _ h => h) (by decide) (by decide) _, hF7.step (fun _ h => h) (by decide) (by decide) _, hF8.step (fun _ h => h) (by decide) _, hF9.step (fun _ h => h) (by decide) _, hF10.step (fun _ h => h) (by decide) _, hF12.step (fun _ h => h) (by decide) (by decide) _, hF13.step (fun _ h => h) (by decide) _, hR13.step (by decide) (by decide)⟩
            · refine wpOp_step rfl (fun K' hK => ?_)
              simp [Region.binds] at hd
              have e5 : xv 5 = .agg #[.slice bo m oc, .slice va k vc] := hG.get g5.out (by simp [hd])
              clear hd hin hD
              go_simp
              exact hK _ _ ⟨updV xv 6 (.slice (some ⟨W.heap.size, 0, none⟩) 1 1), by simp [updV, e5], JS.out _ _ (below_alloc _ _) hb, hG.any gk.out g6.out _ trivial, hF2.on st2.out (below_alloc _ _) (by decide) (by decide) _, hF4.on st4.out (below_alloc _ _) (by decide) (by decide) _, Fd.new (⟨OwnE.new W hb.size (⟨.slice bo m oc, .slice va k vc, of, v⟩ : Qe), _, rfl⟩), hF7.on st7.out (below_alloc _ _) (by decide) (by decide) _, hF8.on st8.out (below_alloc _ _) (by decide) _, hF9.on st9.out (below_alloc _ _) (by decide) _, hF10.on st10.out (below_alloc _ _) (by decide) _, hF12.on st12.out (below_alloc _ _) (by decide) (by decide) _, hF13.on st13.out (below_alloc _ _) (by decide) _, hR13.step (by decide) (by decide)⟩
            · refine wpOp_step rfl (fun K' hK => ?_)
              simp [Region.binds] at hd
              have l4 : listed.getD 4 false = true := by simp [hd]
              have m4 := hF4.get l4 hnl
              have l6 : listed.getD 6 false = true := by simp [hd]
              have m6 := hF6.get l6 hnl
              have q4 : listed.getD 4 false = true := by simp [hd]
              have f8 : listed.getD 8 false = false := by
                cases hx : listed.getD 8 false with
                | false => rfl
                | true =>
                  have r7 : listed.getD 7 false = true := by have h := hD 8 (by decide) hx; simp [Region.binds] at h; simp [h]
                  rw [getD_false hnl] at r7; cases r7
              have f9 : listed.getD 9 false = false := by
                cases hx : listed.getD 9 false with
                | false => rfl
                | true =>
                  have r8 : listed.getD 8 false = true := by have h := hD 9 (by decide) hx; simp [Region.binds] at h; simp [h]
                  have r7 : listed.getD 7 false = true := by have h := hD 8 (by decide) r8; simp [Region.binds] at h; simp [h]
                  rw [getD_false hnl] at r7; cases r7
              have f10 : listed.getD 10 false = false := by
                cases hx : listed.getD 10 false with
                | false => rfl
                | true =>
                  have r9 : listed.getD 9 false = true := by have h := hD 10 (by decide) hx; simp [Region.binds] at h; simp [h]
                  have r8 : listed.getD 8 false = true := by have h := hD 9 (by decide) r9; simp [Region.binds] at h; simp [h]
                  have r7 : listed.getD 7 false = true := by have h := hD 8 (by decide) r8; simp [Region.binds] at h; simp [h]
                  rw [getD_false hnl] at r7; cases r7
              have f13 : listed.getD 13 false = false := by
                cases hx : listed.getD 13 false with
                | false => rfl
                | true =>
                  have r7 : listed.getD 7 false = true := by have h := hD 13 (by decide) hx; simp [Region.binds] at h; simp [h]
                  rw [getD_false hnl] at r7; cases r7
              clear hd hin hD
              refine step_keepE W rfl (.tmp 62) (.tmp 64) rfl w10.heap.size _ (1 + es.length) (by omega) ([(⟨.slice bo m oc, .slice va k vc, of, v⟩ : Qe)] ++ es) rfl m4 _ [(⟨.slice bo m oc, .slice va k vc, of, v⟩ : Qe)] rfl (m6.1.qs (QX.out W hb)) (by rw [HN.out]; simp only [List.length_singleton]; omega) hb.size ?_
              intro oo cap w' hown hg hkx
              exact hK _ _ ⟨updV xv 7 (.slice oo (1 + es.length + 1) cap), by simp [updV, Act.put], hb.grown hg hb.size (fun k hk => (m4.lt k hk).1), hG.any gk.out g7.out _ trivial, Fd.gone q4 (by decide), Fd.off hnl, Fd.off hnl, Fd.new (hown), Fe.yet f8 (by decide) _, Fe.yet f9 (by decide) _, Fe.yet f10 (by decide) _, hF12.step (fun _ h => bx0_keep h hkx) (by decide) (by decide) _, Fe.yet f13 (by decide) _, hR13.step (by decide) (by decide)⟩
            · refine wpOp_step rfl (fun K' hK => ?_)
              simp [Region.binds] at hd
              have e0 : xv 0 = Value.int IntKind.i64 ↑n := hG.get g0.out (by simp [hd])
              have l7 : listed.getD 7 false = true := by simp [hd]
              have m7 := hF7.get l7 hnl
              clear hd hin hD
              go_simp
              refine (C8.out W _ hb m7).mono ?_
              rintro e w' ⟨v, rfl, hv, hb'⟩
              go_wp2_with fail
              exact ⟨updV xv 8 v, by simp [updV, e0], JS.out _ _ hb' hb, hG.any gk.out g8.out v trivial, hF2.on st2.out hb' (by decide) (by decide) _, hF4.on st4.out hb' (by decide) (by decide) _, hF6.on st6.out hb' (by decide) (by decide) _, Fd.off hnl, Fe.new (hv), hF9.on st9.out hb' (by decide) _, hF10.on st10.out hb' (by decide) _, hF12.on st12.out hb' (by decide) (by decide) _, hF13.on st13.out hb' (by decide) _, hR13.step (by decide) (by decide)⟩
            · refine wpOp_step rfl (fun K' hK => ?_)
              simp [Region.binds] at hd
              have l8 : listed.getD 8 false = true := by simp [hd]
              have m8 := hF8 l8
              clear hd hin hD
              go_simp
              exact hK _ _ ⟨updV xv 9 (xv 8), by simp [updV], hb, hG.any gk.out g9.out _ trivial, hF2.step (fun _ h => h) (by decide) (by decide) _, hF4.step (fun _ h => h) (by decide) (by decide) _, hF6.step (fun _ h => h) (by decide) (by decide) _, hF7.step (fun _ h => h) (by decide) (by decide) _, hF8.step (fun _ h => h) (by decide) _, Fe.new (m8), hF10.step (fun _ h => h) (by decide) _, hF12.step (fun _ h => h) (by decide) (by decide) _, hF13.step (fun _ h => h) (by decide) _, hR13.step (by decide) (by decide)⟩
            · refine wpOp_step rfl (fun K' hK => ?_)
              simp [Region.binds] at hd
              have l9 : listed.getD 9 false = true := by simp [hd]
              have m9 := hF9 l9
              clear hd hin hD
              obtain ⟨ov9, vv9, e9, hq9⟩ := m9
              go_simp
              exact hK _ _ ⟨updV xv 10 (.agg #[ov9, vv9]), by simp [updV, e9], hb, hG.any gk.out g10.out _ trivial, hF2.step (fun _ h => h) (by decide) (by decide) _, hF4.step (fun _ h => h) (by decide) (by decide) _, hF6.step (fun _ h => h) (by decide) (by decide) _, hF7.step (fun _ h => h) (by decide) (by decide) _, hF8.step (fun _ h => h) (by decide) _, hF9.step (fun _ h => h) (by decide) _, Fe.new (⟨_, _, rfl, hq9⟩), hF12.step (fun _ h => h) (by decide) (by decide) _, hF13.step (fun _ h => h) (by decide) _, hR13.step (by decide) (by decide)⟩
            · refine wpOp_step rfl (fun K' hK => ?_)
              simp [Region.binds] at hd
              have l9 : listed.getD 9 false = true := by simp [hd]
              have m9 := hF9 l9
              obtain ⟨ov9, vv9, e9, hq9⟩ := m9
              clear hd hin hD
              go_simp
              exact hK _ _ ⟨updV xv 11 (.bool r2), by simp [updV, e9], hb, hG.any gk.out g11.out _ rfl, hF2.step (fun _ h => h) (by decide) (by decide) _, hF4.step (fun _ h => h) (by decide) (by decide) _, hF6.step (fun _ h => h) (by decide) (by decide) _, hF7.step (fun _ h => h) (by decide) (by decide) _, hF8.step (fun _ h => h) (by decide) _, hF9.step (fun _ h => h) (by decide) _, hF10.step (fun _ h => h) (by decide) _, hF12.step (fun _ h => h) (by decide) (by decide) _, hF13.step (fun _ h => h) (by decide) _, hR13.step (by decide) (by decide)⟩
            · refine wpOp_step rfl (fun K' hK => ?_)
              have f13 : listed.getD 13 false = false := by
                cases hx : listed.getD 13 false with
                | false => rfl
                | true =>
                  have r12 : listed.getD 12 false = true := by have h := hD 13 (by decide) hx; simp [Region.binds] at h; simp [h]
                  rw [getD_false hnl] at r12; cases r12
              clear hd hin hD
              go_simp
              exact hK _ _ ⟨updV xv 12 (.pointer (some ⟨W.heap.size, 0, none⟩)), by simp [updV], JS.out _ _ (below_alloc _ _) hb, hG.any gk.out g12.out _ trivial, hF2.on st2.out (below_alloc _ _) (by decide) (by decide) _, hF4.on st4.out (below_alloc _ _) (by decide) (by decide) _, hF6.on st6.out (below_alloc _ _) (by decide) (by decide) _, hF7.on st7.out (below_alloc _ _) (by decide) (by decide) _, hF8.on st8.out (below_alloc _ _) (by decide) _, hF9.on st9.out (below_alloc _ _) (by decide) _, hF10.on st10.out (below_alloc _ _) (by decide) _, Fd.new (⟨_, rfl, hb.size, EqX.new _ _ _⟩), hF13.on st13.out (below_alloc _ _) (by decide) _, Rel4.yet f13 (by decide)⟩
            · refine wpOp_step rfl (fun K' hK => ?_)
              simp [Region.binds] at hd
              have l12 : listed.getD 12 false = true := by simp [hd]
              have m12 := hF12.get l12 hnl
              have l10 : listed.getD 10 false = true := by simp [hd]
              have m10 := hF10 l10
              have q4 : listed.getD 4 false = true := by simp [hd]
              have q7 : listed.getD 7 false = true := by simp [hd]
              have q8 : listed.getD 8 false = true := by simp [hd]
              clear hd hin hD
              obtain ⟨q, e12, hq, hX⟩ := m12
              obtain ⟨ov9, vv9, e10, hn⟩ := m10
              obtain ⟨za, zc, ez, -, -⟩ := zs_shape hn.1.1
              obtain ⟨ba, bc, eb, -, -⟩ := bs_shape hn.1.2
              simp only [] at ez eb
              rw [ez, eb] at e10 hn
              clear ez eb
              have hx0 := hX.eqb.1
              have hx1 := hX.eqb.2
              have fr0 := hX.frozen 0
              have fr1 := hX.frozen 1
              go_simp
              exact hK _ _ ⟨updV xv 13 (xv 12), by simp [updV, e12, e10], (hb.setCell hq _).setCell hq _, hG.any gk.out g13.out _ trivial, Fd.gone q4 (by decide), Fd.gone q7 (by decide), Fd.gone q7 (by decide), Fd.gone q8 (by decide), hF8.step (fun _ h => add_set h hX _ _) (by decide) _, hF9.step (fun _ h => add_set h hX _ _) (by decide) _, hF10.step (fun _ h => eqn_set h hX _ _) (by decide) _, Fd.off hnl, Fe.new (⟨q, _, _, e12, (hX.set0 _).set1 _, ((hn.set hX 0 _).set (hX.set0 _) 1 _).1⟩), Rel4.new (by decide)⟩
            · refine wpOp_step rfl (fun K' hK => ?_)
              simp [Region.binds] at hd
              have e11 : xv 11 = .bool r2 := hG.get g11.out (by simp [hd])
              clear hd hin hD
              go_simp
              exact hK _ _ ⟨updV xv 14 (.bool r2), by simp [updV, e11], hb, hG.any gk.out g14.out _ rfl, hF2.step (fun _ h => h) (by decide) (by decide) _, hF4.step (fun _ h => h) (by decide) (by decide) _, hF6.step (fun _ h => h) (by decide) (by decide) _, hF7.step (fun _ h => h) (by decide) (by decide) _, hF8.step (fun _ h => h) (by decide) _, hF9.step (fun _ h => h) (by decide) _, hF10.step (fun _ h => h) (by decide) _, hF12.step (fun _ h => h) (by decide) (by decide) _, hF13.step (fun _ h => h) (by decide) _, hR13.step (by decide) (by decide)⟩
          · rintro listed ac W ⟨xv, rfl, hb, hG, hF2, hF4, hF6, hF7, hF8, hF9, hF10, hF12, hF13, hR13⟩ hall
            have m13 : Hid ((IsBxE L2 X2) (xv 13) W) := hF13 (hall 13 (by decide))
            have e14 : xv 14 = .bool r2 := hG.get g14.out (hall 14 (by decide))
            have er13 : xv 13 = xv 12 := hR13 (hall 13 (by decide))
            have XW : Hid ((fun W => Below w10.heap.size w10 W) W) := hb
            clear hall hG hb gk JS g0 g1 g2 g3 g4 g5 g6 g7 g8 g9 g10 g11 g12 g13 g14 hF2 st2 hF4 st4 hF6 st6 hF7 st7 hF8 st8 hF9 st9 hF10 st10 hF12 st12 hF13 st13 hR13
            rw [e14]
            clear e14
            obtain ⟨q14, o14, v14, e13, hE14, hQ14⟩ := m13.out
            rw [← er13, e13]
            have HE : Hid (EqX W q14 o14 v14) := hE14
            have HQ14 : Hid (QeP W ⟨o14, v14, L2, X2⟩) := hQ14
            have HA := BA.out W XW.out
            have HB := BB9.out W XW.out
            have XF : Hid (Below w.heap.size w W) := on_below X3.out (on_below X10.out XW.out)
            obtain ⟨a0, a1⟩ := HA.1
            obtain ⟨b0, b1⟩ := HB.1
            obtain ⟨x0, x1⟩ := BX10.out W XW.out
            have QA : Hid (QeP W ⟨.slice a7 l7 c7, .slice b7 x7 d7, L, X⟩) := HA.2
            have QB : Hid (QeP W ⟨.slice a9 l9 c9, .slice b9 x9 d9, L, X⟩) := HB.2
            clear hE14 hQ14 m13 e13 HA HB BA BB9 BX10 QP QX C8 XW er13
            cases r with
            | false =>
              have r2f : r2 = false := by rw [R2.out]; rfl
              subst r2f
              go_wp2
              go_ret
              exact ⟨rfl, XF.out⟩
            | true =>
              by_cases hkn : k = n
              · have r2t : r2 = true := by rw [R2.out]; simp [hkn]
                subst r2t
                obtain ⟨rfl, rfl⟩ := T2.out rfl
                subst hkn
                obtain ⟨f0, f1⟩ := HE.out.eqb
                go_wp2_with fail
                refine (qsame_any ⟨.slice a7 l7 c7, .slice b7 x7 d7, L2, X2⟩ ⟨.slice a9 l9 c9, .slice b9 x9 d9, L2, X2⟩ W QA.out QB.out).mono ?_
                rintro e w' ⟨⟨t, rfl, ht⟩, hb⟩
                obtain rfl : t = true := ht.2 ⟨rfl, rfl⟩
                have XS : Hid (Below W.heap.size W w') := hb
                have g0 := (hb.cell (cell_block_lt a0)).trans a0
                have g1 := (hb.cell (cell_block_lt a1)).trans a1
                have g2 := (hb.cell (cell_block_lt f0)).trans f0
                have g3 := (hb.cell (cell_block_lt f1)).trans f1
                clear ht hb a0 a1 b0 b1 x0 x1 f0 f1
                go_wp2_with fail
                refine (qsame_any ⟨.slice a7 l7 c7, .slice b7 x7 d7, L2, X2⟩ ⟨o14, v14, L2, X2⟩ w' (QA.out.below XS.out) (HQ14.out.below XS.out)).mono ?_
                rintro e w'' ⟨⟨t, rfl, ht⟩, hb⟩
                obtain rfl : t = true := ht.2 ⟨rfl, rfl⟩
                have XE : Hid (Below w.heap.size w w'') := on_below (on_below XF.out XS.out) hb
                clear ht hb g0 g1 g2 g3
                go_wp2
                go_ret
                exact ⟨rfl, XE.out⟩
              · have r2f : r2 = false := by rw [R2.out]; simp [hkn]
                subst r2f
                have dk : decide ((k : Int) = (n : Int)) = false := decide_eq_false (by omega)
                have bk : ((k : Int) == (n : Int)) = false := by simpa using (fun h => hkn (by omega))
                go_wp2_with fail
                refine (qsame_any ⟨.slice a7 l7 c7, .slice b7 x7 d7, L, X⟩ ⟨.slice a9 l9 c9, .slice b9 x9 d9, L, X⟩ W QA.out QB.out).mono ?_
                rintro e w' ⟨⟨t, rfl, ht⟩, hb⟩
                obtain rfl : t = true := ht.2 ⟨rfl, rfl⟩
                have XE : Hid (Below w.heap.size w w') := on_below XF.out hb
                clear ht hb a0 a1 b0 b1 x0 x1
                go_wp2
                go_ret
                exact ⟨rfl, XE.out⟩

theorem equationOrder_law (s : Int) (pv : Value) (es : List Qe) (e : Qe) (w : World) (hs : (Lit.int .u8 s).wf = true) (hp : Qs w pv es) (hq : ∀ e ∈ es, QeW e) (_ : es.length ≤ 140737488355328) (he : QeP w e) (hw : QeW e) :
    Calls Try.prog 7 #[.int .u8 s, pv, .agg #[e.ov, e.vv]] w fun e w' => e = .returned (.bool true) ∧ Below w.heap.size w w' := equationOrder_walk s hs pv e.ov e.vv e.of e.va es w hp hq he hw

end Go.Proofs.Ytkcijbejngnalaa
