/-
  EquationSums.
-/
import Derived.Test.YtkcijbejngnalaaQSm
import Derived.RegionTactic
import Derived.Deep.Light
namespace Go.Proofs.Ytkcijbejngnalaa
open Go.RowKit
set_option linter.unusedVariables false

theorem map_take_next {α β : Type} (f : α → β) {l : List α} {i : Nat} {x : α} (h : l[i]? = some x) : (l.map f).take (i + 1) = (l.map f).take i ++ [f x] := by
  obtain ⟨hi, e⟩ := List.getElem?_eq_some_iff.1 h
  rw [List.take_succ_eq_append_getElem (by rw [List.length_map]; exact hi), List.getElem_map, e]

theorem qen_nil (w : World) (n : Nat) (xs : List (List UInt8)) : Hid (∀ e ∈ ([] : List Qe), QeN w e ∧ MadeOf n xs e) := by
  intro e he
  cases he
theorem snoc_at {α : Type} {l : List α} {x : α} {i : Nat} (h : l.length = i) : (l ++ [x])[i]? = some x := by subst h; simp

set_option maxRecDepth 100000 in
set_option maxHeartbeats 4000000 in
theorem equationSums_walk (s : Int) (hs : (Lit.int .u8 s).wf = true) (pv fv : Value) (vs fvs : List Value) (ls : List (List UInt8)) (fl : List (List Int)) (w : World) (hp : Sl 1 w pv vs.length vs) (hps : Parts w vs ls) (hf : Sl 1 w fv fvs.length fvs) (hfl : LsZ w fvs fl) (hfw : LzW fl) :
    Calls Try.prog 6 #[.int .u8 s, pv, fv] w fun e w' => e = .returned (.bool true) ∧ Below w.heap.size w w' := by
  obtain ⟨i0, hi0, hz0, hz1, hz2⟩ := info_parts Try.infoByte
  obtain ⟨hsl, hsu⟩ := bounds_u8 hs
  obtain ⟨S, rfl⟩ := Int.eq_ofNat_of_zero_le hsl
  have hS : S < 256 := by omega
  clear hsl hsu
  obtain ⟨n, hn⟩ : ∃ n, S % 20 = n := ⟨_, rfl⟩
  have hn20 : n < 20 := by omega
  have eS : (S : Int) % 20 = (n : Int) := by omega
  have HP : Hid (Sl 1 w pv vs.length vs) := hp
  have HPS : Hid (Parts w vs ls) := hps
  have HF : Hid (Sl 1 w fv fvs.length fvs) := hf
  have HFL : Hid (LsZ w fvs fl) := hfl
  have HFW : Hid (LzW fl) := hfw
  obtain ⟨-, ao, pc, rfl, hp2, hp3, -, -⟩ := hp
  obtain ⟨-, fo, fc, rfl, hf2, hf3, -, -⟩ := hf
  unfold maxLen at hp3 hf3
  obtain ⟨M, hM⟩ : ∃ M, vs.length = M := ⟨_, rfl⟩
  obtain ⟨F, hF⟩ : ∃ F, fvs.length = F := ⟨_, rfl⟩
  have HM : Hid (vs.length = M) := hM
  have HFF : Hid (fvs.length = F) := hF
  have HL : Hid (ls.length = M) := by have := hps.1; unfold Hid; omega
  have HFLL : Hid (fl.length = F) := by have := hfl.1; unfold Hid; omega
  rw [hM] at hp2 ⊢
  rw [hF] at hf2 ⊢
  have HP' : Hid (Sl 1 w (.slice ao M pc) vs.length vs) := by have := HP.out; rw [hM] at this ⊢; exact this
  have HF' : Hid (Sl 1 w (.slice fo F fc) fvs.length fvs) := by have := HF.out; rw [hF] at this ⊢; exact this
  obtain ⟨xs, hxs⟩ : ∃ xs, ls.map (padTo n) = xs := ⟨_, rfl⟩
  have HX : Hid (ls.map (padTo n) = xs) := hxs
  clear hM hF hps hfl hfw hn hs HP HF hxs
  go_enter Try.func6, Try.ntmps6
  go_wp2_with fail
  refine (speaks15_any _).mono ?_
  rintro e w1 ⟨rfl, hb⟩
  have B1 : Hid (Below w.heap.size w w1) := hb
  clear hb
  by_cases hM30 : 30 < M
  · have dM : decide (30 < (M : Int)) = true := decide_eq_true (by omega)
    go_wp2
    go_ret
    exact ⟨rfl, B1.out⟩
  have dM : decide (30 < (M : Int)) = false := decide_eq_false (by omega)
  by_cases hF20 : 20 < F
  · have dF : decide (20 < (F : Int)) = true := decide_eq_true (by omega)
    go_wp2
    go_ret
    exact ⟨rfl, B1.out⟩
  have dF : decide (20 < (F : Int)) = false := decide_eq_false (by omega)
  go_wp2
  rw [eS]
  go_loopw [8, 40] (fun lv iv wr => ∃ (i : Nat) (a : Option Addr) (c : Nat) (us : List Value), i ≤ M ∧ iv = .int .i64 i ∧ lv = .slice a i c ∧ Hid (wr.ownsRow w.heap.size 25 1 (.slice a i c) i us) ∧ Hid (PartsB w.heap.size wr us (xs.take i)) ∧ Hid (Below w.heap.size w wr)) (fun _ iv _ => M - (intOf iv).toNat)
  case atStart => exact ⟨0, none, 0, [], by omega, rfl, rfl, ⟨rfl, .inl ⟨rfl, rfl⟩⟩, by rw [List.take_zero]; exact PartsB.nil _ _, B1⟩
  case round =>
    clear B1
    obtain ⟨i, a, c, us, hi, rfl, rfl, RR, PP, BB⟩ := hrel
    by_cases hlt : i < M
    · have hiv : i < vs.length := by rw [HM.out]; exact hlt
      have hil : i < ls.length := by rw [HL.out]; exact hlt
      obtain ⟨x, hx⟩ : ∃ x, ls[i]? = some x := ⟨_, List.getElem?_eq_getElem hil⟩
      obtain ⟨u, hu⟩ : ∃ u, vs[i]? = some u := ⟨_, List.getElem?_eq_getElem hiv⟩
      have hp0 : Sl 1 w (.slice ao M pc) vs.length vs := HP'.out
      obtain ⟨b, off, rfl, ci⟩ := sl_at hp0 BB.out hu
      have KX : Hid (Bs wr u x) := (HPS.out.2 i u x hu hx).below BB.out
      obtain ⟨xa, xc, eu, hx2, hx3⟩ := bs_shape KX.out
      rw [eu] at ci KX
      have NX : Hid (xs.take (i + 1) = xs.take i ++ [padTo n x]) := by rw [← HX.out]; exact map_take_next _ hx
      have SB : Hid (w.heap.size ≤ wr.heap.size) := BB.out.size
      clear hx hu hp0 eu
      obtain ⟨k, hk⟩ : ∃ k, x.length = k := ⟨_, rfl⟩
      have HK : Hid (x.length = k) := hk
      rw [hk] at ci KX hx2
      clear hk
      go_upto_region 11 with (at_make; refine wpList_make_full _ rfl _ _ 25 rfl wr.heap.size 5 i0 (.int .u8 0) 1 Try.underlying25 hi0 hz0 hz1 _ _ _ _ n rfl rfl rfl rfl (by rw [hz2]; omega) (by unfold maxLen; omega) (Nat.le_refl _) ?_; intro w4 ho4 hg4)
      have X4 : Hid (Below wr.heap.size wr w4) := below_new hg4
      obtain ⟨q, hq⟩ : ∃ q, wr.heap.size = q := ⟨_, rfl⟩
      have Hq : Hid (wr.heap.size = q) := hq
      have K4 : Hid (Blk w4 q [] (zeros n) []) := by unfold Hid; rw [← hq]; exact made_blk ho4
      rw [hq]
      clear ho4 hg4 hq ci
      go_upto_region 12 with (refine wpList_copyM _ rfl (.tmp 46) (.tmp 47) rfl (some ⟨q, 0, none⟩) n n q 0 (zeros n) x _ rfl rfl K4.out (by have := KX.out.below X4.out; exact this) (fun _ => rfl) (by rw [zeros_length]; omega) (min k n) (by rw [HK.out]) ?_; intro w5 hk5 hb5 hs5)
      have K5 : Hid (Blk w5 q [] (padTo n x) []) := by
        have e : (zeros n).take 0 ++ x.take n ++ (zeros n).drop (0 + min k n) = padTo n x := by
          unfold padTo
          rw [List.take_zero, List.nil_append, Nat.zero_add]
          congr 1
          unfold zeros
          rw [List.drop_replicate]
          congr 1
          have := HK.out
          omega
        rw [e] at hk5
        exact hk5
      have X5 : Hid (Below wr.heap.size wr w5) := by
        have h1 := X4.out
        have h2 := hb5
        rw [← Hq.out] at h2
        exact h1.trans h2
      have R5 : Hid (w5.ownsRow w.heap.size 25 1 (.slice a i c) i us) := owns_below RR.out X5.out
      have P5 : Hid (PartsB w.heap.size w5 us (xs.take i)) := PP.out.below X5.out
      have B5 : Hid (Below w.heap.size w w5) := on_below BB.out X5.out
      have hqB : Hid (w.heap.size ≤ q) := by unfold Hid; rw [← Hq.out]; exact SB.out
      clear hk5 hb5 hs5 X4 K4 X5 RR PP BB Hq KX SB
      have R6 : Hid ((w5.alloc (.cells #[.slice (some ⟨q, 0, none⟩) n n] 25)).ownsRow w.heap.size 25 1 (.slice a i c) i us) := owns_below R5.out (below_alloc _ _)
      have S6 : Hid (w.heap.size ≤ (w5.alloc (.cells #[.slice (some ⟨q, 0, none⟩) n n] 25)).heap.size) := Nat.le_trans B5.out.size (below_alloc w5 _).size
      go_wp2_with (at_builtin; refine wpList_addS _ rfl (.tmp 49) (.tmp 51) rfl w.heap.size (.slice a i c) i us rfl R6.out _ (.slice (some ⟨q, 0, none⟩) n n) rfl rfl (alloc_one _ _) (by omega) S6.out ?_; intro a7 c7 w7 ho7 hg7 hnc7 hcm7)
      have X7 : Hid (Below w.heap.size w w7) := below_ownR (B5.out.alloc B5.out.size _) R6.out (Nat.le_refl _) S6.out hg7
      have R7 : Hid (w7.ownsRow w.heap.size 25 1 (.slice a7 (i + 1) c7) (i + 1) (us ++ [.slice (some ⟨q, 0, none⟩) n n])) := ho7
      have P7 : Hid (PartsB w.heap.size w7 (us ++ [.slice (some ⟨q, 0, none⟩) n n]) (xs.take (i + 1))) := by
        have h1 : PartsB w.heap.size w7 us (xs.take i) := (P5.out.below (below_alloc _ _)).grownR R6.out hg7
        have h2 : Blk w7 q [] (padTo n x) [] := (K5.out.below (below_alloc _ _)).kept (grown_kindR R6.out hg7 (K5.out.below (below_alloc _ _)) (by decide))
        have h3 := h1.snoc h2 (by rw [padTo_length]; omega) hqB.out
        rw [padTo_length] at h3
        rw [NX.out]
        exact h3
      clear ho7 hg7 R5 P5 B5 K5 R6 S6 NX
      go_roundw
      case rel => exact ⟨i + 1, a7, c7, _, by omega, by go_num, rfl, R7, P7, X7⟩
      case measure => simp [intOf]; omega
    · obtain rfl : M = i := by omega
      have XE : Hid (xs.take M = xs) := List.take_of_length_le (by rw [← HX.out, List.length_map, HL.out]; exact Nat.le_refl _)
      obtain ⟨w1, hw1⟩ : ∃ x, x = wr := ⟨_, rfl⟩
      subst hw1
      have SL : Hid (Sl 1 w1 (.slice a M c) us.length us) := by
        have h1 := owned_sl RR.out
        have h2 := RR.out.1
        rw [Nat.mul_one] at h2
        rw [h2]
        exact h1
      have PB : Hid (PartsB w.heap.size w1 us xs) := by have := PP.out; rw [XE.out] at this; exact this
      have UL : Hid (us.length = M) := by have h2 := RR.out.1; rw [Nat.mul_one] at h2; exact h2
      have XN : Hid (∀ x ∈ xs, x.length = n) := by
        intro x hx
        rw [← HX.out] at hx
        obtain ⟨y, -, rfl⟩ := List.mem_map.1 hx
        exact padTo_length n y
      have XL : Hid (xs.length = M) := by have := PB.out.1; have := UL.out; unfold Hid; omega
      clear RR PP XE HP' HPS HX HM HL dM dF
      go_wp2
      go_loopw [12, 56] (fun lv iv wr => ∃ (i : Nat) (a2 : Option Addr) (c2 : Nat) (es : List Qe), i ≤ F ∧ iv = .int .i64 i ∧ lv = .slice a2 i c2 ∧ Hid (OwnE w1.heap.size wr (.slice a2 i c2) i es) ∧ Hid (∀ e ∈ es, QeN wr e ∧ MadeOf n xs e) ∧ Hid (Below w1.heap.size w1 wr)) (fun _ iv _ => F - (intOf iv).toNat)
      case atStart => exact ⟨0, none, 0, [], by omega, rfl, rfl, OwnE.nil _ _, qen_nil _ _ _, Below.refl _ _⟩
      case round =>
        obtain ⟨i, a2, c2, es, hi2, rfl, rfl, EE, QQ, BW⟩ := hrel
        obtain ⟨w2, hw2⟩ : ∃ x, x = wr := ⟨_, rfl⟩
        subst hw2
        by_cases hlt2 : i < F
        · obtain ⟨of, hof⟩ : ∃ of, fl[i]? = some of := ⟨_, List.getElem?_eq_getElem (by rw [HFLL.out]; exact hlt2)⟩
          obtain ⟨fvi, hfv⟩ : ∃ fvi, fvs[i]? = some fvi := ⟨_, List.getElem?_eq_getElem (by rw [HFF.out]; exact hlt2)⟩
          have hf0 : Sl 1 w (.slice fo F fc) fvs.length fvs := HF'.out
          obtain ⟨b, off, rfl, ci⟩ := sl_at hf0 (on_below BB.out BW.out) hfv
          have OZ0 : Hid (Zs w fvi of) := HFL.out.2 i fvi of hfv hof
          obtain ⟨oa, oc, eo, ho2, ho3⟩ := zs_shape OZ0.out
          rw [eo] at ci OZ0
          obtain ⟨m, hm⟩ : ∃ m, of.length = m := ⟨_, rfl⟩
          have Hm : Hid (of.length = m) := hm
          rw [hm] at ci OZ0 ho2
          clear hof hfv hf0 eo hm
          by_cases hm20 : 20 < m
          · have dm : decide (20 < (m : Int)) = true := decide_eq_true (by omega)
            have XR : Hid (Below w.heap.size w w2) := on_below BB.out BW.out
            go_wp2
            go_ret
            exact ⟨rfl, XR.out⟩
          have dm : decide (20 < (m : Int)) = false := decide_eq_false (by omega)
          go_wp2
          clear ci
          go_loopw [15, 65] (fun lv iv wr => ∃ (j t : Nat) (a3 : Option Addr) (c3 : Nat), j ≤ m ∧ iv = .int .i64 j ∧ lv = .slice a3 t c3 ∧ Hid (OwnZ w2.heap.size wr (.slice a3 t c3) t (inZ M (of.take j))) ∧ Hid (Below w2.heap.size w2 wr)) (fun _ iv _ => m - (intOf iv).toNat)
          case atStart => exact ⟨0, 0, none, 0, by omega, rfl, rfl, OwnZ.nil _ _, Below.refl _ _⟩
          case round =>
            obtain ⟨j, t, a3, c3, hj, rfl, rfl, OO, BJ⟩ := hrel
            by_cases hltj : j < m
            · obtain ⟨z, hz⟩ : ∃ z, of[j]? = some z := ⟨_, List.getElem?_eq_getElem (by rw [Hm.out]; exact hltj)⟩
              have HZ' : Zs w (.slice oa m oc) of := OZ0.out
              obtain ⟨bo, off', rfl, ci⟩ := zs_at HZ' (on_below (on_below BB.out BW.out) BJ.out) hz
              have NX : Hid (inZ M (of.take (j + 1)) = inZ M (of.take j) ++ (if 0 ≤ z ∧ z < (M : Int) then [z] else [])) := inZ_take hz
              have ML : Hid (t ≤ j) := by have h1 := OO.out.len; have h2 := inZ_le M of j; unfold Hid; omega
              clear hz HZ'
              by_cases hz : 0 ≤ z ∧ z < (M : Int)
              · obtain ⟨hz0, hz1'⟩ := hz
                have NY : Hid (inZ M (of.take (j + 1)) = inZ M (of.take j) ++ [z]) := by
                  have h1 := NX.out
                  rw [if_pos ⟨hz0, hz1'⟩] at h1
                  exact h1
                have d0 : decide (0 ≤ z) = true := decide_eq_true hz0
                have d1 : decide (z < (M : Int)) = true := decide_eq_true hz1'
                have OA : Hid (OwnZ w2.heap.size (wr.alloc (.cells #[.int .i64 z] 3)) (.slice a3 t c3) t (inZ M (of.take j))) := OO.out.alloc _
                have BA : Hid (Below w2.heap.size w2 (wr.alloc (.cells #[.int .i64 z] 3))) := BJ.out.alloc BJ.out.size _
                have hti : t + 1 ≤ 1000000000 := by have := ML.out; omega
                clear NX OO BJ
                go_wp2_with (at_builtin; refine wpList_addZ _ rfl (.tmp 77) (.tmp 79) rfl w2.heap.size (.slice a3 t c3) t _ rfl OA.out _ 1 [z] rfl (zs_one _ _ _) hti BA.out.size ?_; intro a4 k4 w4 ho4 hg4 hat4 hnc4 hcm4)
                have O4 : Hid (OwnZ w2.heap.size w4 (.slice a4 (t + 1) k4) (t + 1) (inZ M (of.take (j + 1)))) := by rw [NY.out]; exact ho4
                have B4 : Hid (Below w2.heap.size w2 w4) := below_added BA.out OA.out (Nat.le_refl _) BA.out.size hg4
                clear ho4 hg4 hat4 OA BA NY
                go_roundw
                case rel => exact ⟨j + 1, t + 1, a4, k4, by omega, by go_num, rfl, O4, B4⟩
                case measure => simp [intOf]; omega
              · have O4 : Hid (OwnZ w2.heap.size wr (.slice a3 t c3) t (inZ M (of.take (j + 1)))) := by
                  have h1 := NX.out
                  rw [if_neg hz, List.append_nil] at h1
                  rw [h1]
                  exact OO.out
                clear NX OO
                by_cases hz0 : 0 ≤ z
                · have hz1' : ¬ z < (M : Int) := fun h => hz ⟨hz0, h⟩
                  have d0 : decide (0 ≤ z) = true := decide_eq_true hz0
                  have d1 : decide (z < (M : Int)) = false := decide_eq_false hz1'
                  go_wp2
                  go_roundw
                  case rel => exact ⟨j + 1, t, a3, c3, by omega, by go_num, rfl, O4, BJ⟩
                  case measure => simp [intOf]; omega
                · have d0 : decide (0 ≤ z) = false := decide_eq_false hz0
                  go_wp2
                  go_roundw
                  case rel => exact ⟨j + 1, t, a3, c3, by omega, by go_num, rfl, O4, BJ⟩
                  case measure => simp [intOf]; omega
            · obtain rfl : m = j := by omega
              obtain ⟨own, hown⟩ : ∃ own, inZ M of = own := ⟨_, rfl⟩
              have RO : Hid (OwnZ w2.heap.size wr (.slice a3 t c3) t own) := by
                have h1 := OO.out
                rw [List.take_of_length_le (by rw [Hm.out]; exact Nat.le_refl _), hown] at h1
                exact h1
              have OKO : Hid (OkOf n xs own) := by unfold Hid; rw [← hown]; exact inZ_ok XL.out XN.out of
              have OKI : Hid (∀ z ∈ own, 0 ≤ z ∧ z < (M : Int)) := by
                intro z hz
                rw [← hown] at hz
                exact inZ_mem hz
              have TL : Hid (own.length = t) := RO.out.len
              have t20 : t ≤ 20 := by
                have h1 := TL.out
                have h2 := inZ_le M of m
                rw [List.take_of_length_le (by rw [Hm.out]; exact Nat.le_refl _), hown] at h2
                omega
              obtain ⟨w3, hw3⟩ : ∃ x, x = wr := ⟨_, rfl⟩
              subst hw3
              clear OO hown OZ0 Hm dm
              go_wp2
              go_loopw [18, 84] (fun lv iv wr => ∃ (j : Nat) (a4 : Option Addr) (c4 : Nat), j ≤ t ∧ iv = .int .i64 j ∧ lv = .slice a4 j c4 ∧ Hid (wr.ownsRow w3.heap.size 25 1 (.slice a4 j c4) j (pkV us (own.take j))) ∧ Hid (Below w3.heap.size w3 wr)) (fun _ iv _ => t - (intOf iv).toNat)
              case atStart => exact ⟨0, none, 0, by omega, rfl, rfl, ⟨rfl, .inl ⟨rfl, rfl⟩⟩, Below.refl _ _⟩
              case round =>
                obtain ⟨j, a4, c4, hj4, rfl, rfl, SS, BS⟩ := hrel
                by_cases hltj4 : j < t
                · obtain ⟨z, hz⟩ : ∃ z, own[j]? = some z := ⟨_, List.getElem?_eq_getElem (by rw [TL.out]; exact hltj4)⟩
                  obtain ⟨hz0, hz1'⟩ := OKI.out z (List.mem_of_getElem? hz)
                  obtain ⟨k, rfl⟩ := Int.eq_ofNat_of_zero_le hz0
                  have hkM : k < M := by omega
                  obtain ⟨u, hu⟩ : ∃ u, us[k]? = some u := ⟨_, List.getElem?_eq_getElem (by rw [UL.out]; exact hkM)⟩
                  obtain ⟨x, hx⟩ : ∃ x, xs[k]? = some x := ⟨_, List.getElem?_eq_getElem (by rw [XL.out]; exact hkM)⟩
                  obtain ⟨q, rfl, -, -, -⟩ := PB.out.2 k u x hu hx
                  have hxn : x.length = n := XN.out x (List.mem_of_getElem? hx)
                  rw [hxn] at hu
                  have HZ' : Zs w3 (.slice a3 t c3) own := RO.out.zs
                  obtain ⟨bo, off', rfl, ci⟩ := zs_at HZ' BS.out hz
                  have BW3 : Below w1.heap.size w1 wr := on_below BW.out (on_below BJ.out BS.out)
                  have SL0 : Sl 1 w1 (.slice a M c) us.length us := SL.out
                  obtain ⟨ba, offa, rfl, ca⟩ := sl_at SL0 BW3 hu
                  have NX : Hid (pkV us (own.take (j + 1)) = pkV us (own.take j) ++ [.slice (some ⟨q, 0, none⟩) n n]) := by
                    obtain ⟨hio, e⟩ := List.getElem?_eq_some_iff.1 hz
                    unfold Hid
                    unfold pkV
                    rw [List.take_succ_eq_append_getElem hio, List.map_append, e]
                    simp [List.getD, hu]
                  have h0 : ¬ (k : Int) < 0 := by omega
                  have h1 : ¬ (k : Int) ≥ (M : Int) := by omega
                  clear hz hu hx hxn HZ' BW3 SL0 hz0 hz1'
                  have RA : Hid ((wr.alloc (.cells #[.slice (some ⟨q, 0, none⟩) n n] 25)).ownsRow w3.heap.size 25 1 (.slice a4 j c4) j (pkV us (own.take j))) := owns_below SS.out (below_alloc _ _)
                  have BA : Hid (Below w3.heap.size w3 (wr.alloc (.cells #[.slice (some ⟨q, 0, none⟩) n n] 25))) := BS.out.alloc BS.out.size _
                  clear SS BS
                  go_wp2_with (at_builtin; refine wpList_addS _ rfl (.tmp 88) (.tmp 93) rfl w3.heap.size (.slice a4 j c4) j _ rfl RA.out _ (.slice (some ⟨q, 0, none⟩) n n) rfl rfl (alloc_one _ _) (by omega) BA.out.size ?_; intro a5 c5 w5 ho5 hg5 hnc5 hcm5)
                  have B5 : Hid (Below w3.heap.size w3 w5) := below_ownR BA.out RA.out (Nat.le_refl _) BA.out.size hg5
                  have R5 : Hid (w5.ownsRow w3.heap.size 25 1 (.slice a5 (j + 1) c5) (j + 1) (pkV us (own.take (j + 1)))) := by rw [NX.out]; exact ho5
                  clear ho5 hg5 RA BA NX ci ca
                  go_roundw
                  case rel => exact ⟨j + 1, a5, c5, by omega, by go_num, rfl, R5, B5⟩
                  case measure => simp [intOf]; omega
                · obtain rfl : t = j := by omega
                  have eO : own.take t = own := List.take_of_length_le (by rw [TL.out]; exact Nat.le_refl _)
                  obtain ⟨w4, hw4⟩ : ∃ x, x = wr := ⟨_, rfl⟩
                  subst hw4
                  have S4 : Hid (Sl 1 w4 (.slice a4 t c4) (pkV us own).length (pkV us own)) := by
                    have h1 := owned_sl SS.out
                    rw [eO] at h1
                    rw [pkV_length, TL.out]
                    exact h1
                  have B24 : Hid (Below w2.heap.size w2 w4) := on_below BJ.out BS.out
                  have B14 : Hid (Below w1.heap.size w1 w4) := on_below BW.out B24.out
                  have P4 : Hid (Parts w4 (pkV us own) (pkD xs own)) := pkV_parts (PB.out.parts.below B14.out) (fun z hz => by rw [XL.out]; exact OKI.out z hz)
                  clear SS eO
                  go_wp2_with fail
                  refine (rsum_any n _ _ _ w4 (by omega) S4.out P4.out (pkD_fitB OKO.out)).mono ?_
                  rintro e w5 ⟨rfl, hk, hb⟩
                  obtain ⟨q5, hq5⟩ : ∃ x, w4.heap.size = x := ⟨_, rfl⟩
                  obtain ⟨v5, hv5⟩ : ∃ x, chkD n xs own = x := ⟨_, rfl⟩
                  have V5 : Hid (chkD n xs own = v5) := hv5
                  have K5 : Hid (Blk w5 q5 [] v5 []) := by
                    have h1 : Blk w5 w4.heap.size [] (chkD n xs own) [] := hk
                    rw [hq5, hv5] at h1
                    exact h1
                  have L5 : Hid (v5.length = n) := by unfold Hid; rw [← hv5]; exact chkD_length OKO.out
                  have B45 : Hid (Below w4.heap.size w4 w5) := hb
                  have O5 : Hid (OwnZ w2.heap.size w5 (.slice a3 t c3) t own) := RO.out.below (on_below BS.out hb)
                  have X25 : Hid (Below w2.heap.size w2 w5) := on_below B24.out hb
                  have X5 : Hid (Below w1.heap.size w1 w5) := on_below B14.out hb
                  have E5 : Hid (OwnE w1.heap.size w5 (.slice a2 i c2) i es) := EE.out.below X25.out
                  have Q5 : Hid (∀ e ∈ es, QeN w5 e ∧ MadeOf n xs e) := fun e he => ⟨(QQ.out e he).1.below X25.out, (QQ.out e he).2⟩
                  rw [hq5]
                  clear hk hb hq5 hv5 S4 P4 RO EE QQ B24 B14 B45 BS
                  obtain ⟨e5, he5⟩ : ∃ e : Qe, e = ⟨.slice a3 t c3, .slice (some ⟨q5, 0, none⟩) n n, own, v5⟩ := ⟨_, rfl⟩
                  have N5 : Hid (QeN w5 ⟨.slice a3 t c3, .slice (some ⟨q5, 0, none⟩) n n, own, v5⟩) := by
                    refine ⟨⟨O5.out.zs, K5.out.bs0 n n L5.out.symm (Nat.le_refl _) (by unfold maxLen; omega)⟩, ?_, ?_⟩
                    · intro g hg
                      obtain ⟨cur, h1⟩ := owns_type' O5.out g hg
                      exact ⟨cur, _, _, h1, by decide⟩
                    · intro g hg
                      have e1 : q5 = g := Option.some.inj hg
                      subst e1
                      exact ⟨_, _, _, K5.out, by decide⟩
                  have M5 : Hid (MadeOf n xs ⟨.slice a3 t c3, .slice (some ⟨q5, 0, none⟩) n n, own, v5⟩) := ⟨OKO.out, V5.out.symm, by rw [TL.out]; exact t20⟩
                  have EA : Hid (OwnE w1.heap.size (w5.alloc (.cells #[.slice a3 t c3, .slice (some ⟨q5, 0, none⟩) n n] 41)) (.slice a2 i c2) i es) := E5.out.below (below_alloc _ _)
                  have XA : Hid (Below w1.heap.size w1 (w5.alloc (.cells #[.slice a3 t c3, .slice (some ⟨q5, 0, none⟩) n n] 41))) := X5.out.alloc X5.out.size _
                  have hv5l : v5.length ≤ 1000000000 := by rw [L5.out]; omega
                  have SA : Hid (w1.heap.size ≤ (w5.alloc (.cells #[.slice a3 t c3, .slice (some ⟨q5, 0, none⟩) n n] 41)).heap.size) := XA.out.size
                  go_upto_region 34 with (at_builtin; refine wpList_addE _ rfl (.tmp 96) (.tmp 102) rfl w1.heap.size (.slice a2 i c2) i es rfl EA.out _ 1 [⟨.slice a3 t c3, .slice (some ⟨q5, 0, none⟩) n n, own, v5⟩] rfl one_src (by intro u hu; simp [Qe.cells] at hu; rcases hu with rfl | rfl <;> rfl) (by omega) SA.out ?_; intro a6 c6 w6 ho6 hg6)
                  have X6 : Hid (Below w1.heap.size w1 w6) := XA.out.grown hg6 XA.out.size (fun k hk => (EA.out.lt k hk).1)
                  have Q6 : Hid (∀ e ∈ es ++ [(⟨.slice a3 t c3, .slice (some ⟨q5, 0, none⟩) n n, own, v5⟩ : Qe)], QeN w6 e ∧ MadeOf n xs e) := by
                    intro e he
                    rcases List.mem_append.1 he with he | he
                    · exact ⟨((Q5.out e he).1.below (below_alloc _ _)).grownE EA.out hg6, (Q5.out e he).2⟩
                    · rw [List.mem_singleton.1 he]
                      exact ⟨(N5.out.below (below_alloc _ _)).grownE EA.out hg6, M5.out⟩
                  have E6 : Hid (OwnE w1.heap.size w6 (.slice a6 (i + 1) c6) (i + 1) (es ++ [⟨.slice a3 t c3, .slice (some ⟨q5, 0, none⟩) n n, own, v5⟩])) := ho6
                  have EL : Hid (es.length = i) := E5.out.len
                  have QS6 : Hid (Qs w6 (.slice a6 (i + 1) c6) (es ++ [⟨.slice a3 t c3, .slice (some ⟨q5, 0, none⟩) n n, own, v5⟩])) := E6.out.qs (fun e he => (Q6.out e he).1.1)
                  clear ho6 hg6 EA XA SA N5 E5 Q5 O5 K5 X5 X25 L5 V5
                  have QS7 : Qs w6 (.slice a6 (i + 1) c6) (es ++ [⟨.slice a3 t c3, .slice (some ⟨q5, 0, none⟩) n n, own, v5⟩]) := QS6.out
                  obtain ⟨b6, o6, rfl, g0, g1⟩ := Qs.at QS7 (Below.refl _ _) (snoc_at EL.out)
                  have e1 : (i : Int) + 1 - 1 = (i : Int) := by omega
                  have QP6 : Hid (QeP w6 ⟨.slice a3 t c3, .slice (some ⟨q5, 0, none⟩) n n, own, v5⟩) := (Q6.out _ (List.mem_append_right _ (List.mem_singleton.2 rfl))).1.1
                  have hi2' : i + 1 ≤ F := by omega
                  clear QS7 QS6 EL
                  go_wp2_with fail
                  refine (qholds_any _ _ _ own v5 us xs w6 QP6.out.1 QP6.out.2 (SL.out.below X6.out) (PB.out.parts.below X6.out) (by rw [TL.out]; omega) hv5l).mono ?_
                  rintro e w7 ⟨⟨r, rfl, hr⟩, hb⟩
                  obtain rfl : r = true := hr.2 (made_holds M5.out)
                  have X7 : Hid (Below w1.heap.size w1 w7) := on_below X6.out hb
                  have E7 : Hid (OwnE w1.heap.size w7 (.slice (some ⟨b6, o6, none⟩) (i + 1) c6) (i + 1) (es ++ [⟨.slice a3 t c3, .slice (some ⟨q5, 0, none⟩) n n, own, v5⟩])) := E6.out.below hb
                  have Q7 : Hid (∀ e ∈ es ++ [(⟨.slice a3 t c3, .slice (some ⟨q5, 0, none⟩) n n, own, v5⟩ : Qe)], QeN w7 e ∧ MadeOf n xs e) := fun e he => ⟨(Q6.out e he).1.below hb, (Q6.out e he).2⟩
                  clear hr hb E6 Q6 X6 QP6 M5 g0 g1
                  go_wp2
                  go_roundw
                  case rel => exact ⟨i + 1, _, c6, _, hi2', by go_num, rfl, E7, Q7, X7⟩
                  case measure => simp [intOf]; omega
        · obtain rfl : F = i := by omega
          have AB : Hid (addB n es = true) := made_fit (fun e he => (QQ.out e he).2)
          have HO : Hid (HoldsP (addL n es) (addX n es) xs) := made_all (fun e he => (QQ.out e he).2)
          have XLN : Hid ((addX n es).length = n) := addX_length AB.out
          have EL : Hid (es.length = F) := EE.out.len
          have ML : Hid ((ofsQ es).length ≤ 400) := by have h1 := made_len (fun e he => (QQ.out e he).2); have h2 := EL.out; unfold Hid; omega
          have LL : Hid ((addL n es).length ≤ 400) := by
            unfold Hid
            unfold addL
            rw [AB.out]
            have h1 := oddD_length (ofsQ es)
            have h2 := ML.out
            show (oddD (ofsQ es)).length ≤ 400
            omega
          have QS2 : Hid (Qs w2 (.slice a2 F c2) es) := EE.out.qs (fun e he => (QQ.out e he).1.1)
          clear EE QQ
          go_wp2_with fail
          refine (qadd_uni n _ es w2 (by omega) QS2.out (by have := ML.out; omega) (by rw [EL.out]; omega)).mono ?_
          rintro e w7 ⟨o7, v7, rfl, hq, hb⟩
          rw [AB.out]
          obtain ⟨L, hL⟩ : ∃ L, addL n es = L := ⟨_, rfl⟩
          obtain ⟨X, hX⟩ : ∃ X, addX n es = X := ⟨_, rfl⟩
          rw [hL, hX] at hq HO
          rw [hL] at LL
          rw [hX] at XLN
          have X7 : Hid (Below w1.heap.size w1 w7) := on_below BW.out hb
          have A7 : Hid (QeP w7 ⟨o7, v7, L, X⟩) := hq
          obtain ⟨a7, c7, rfl, -, -⟩ := zs_shape (show Zs w7 o7 L from hq.1)
          obtain ⟨b7, d7, rfl, -, -⟩ := bs_shape (show Bs w7 v7 X from hq.2)
          obtain ⟨l7, hl7⟩ : ∃ x, L.length = x := ⟨_, rfl⟩
          obtain ⟨x7, hx7⟩ : ∃ x, X.length = x := ⟨_, rfl⟩
          rw [hl7, hx7] at A7
          rw [hl7, hx7]
          clear hq hb hl7 hx7 hL hX QS2 BW ML EL AB
          go_upto_region 38 with fail
          obtain ⟨w8, hw8⟩ : ∃ x, w7.alloc (.cells #[.slice a7 l7 c7, .slice b7 x7 d7] 41) = x := ⟨_, rfl⟩
          have F8 : Hid (EqB w8 w7.heap.size (.slice a7 l7 c7) (.slice b7 x7 d7)) := by rw [← hw8]; exact EqB.new _ _ _ _
          have X78 : Hid (Below w7.heap.size w7 w8) := by rw [← hw8]; exact below_alloc _ _
          rw [hw8]
          clear hw8
          obtain ⟨p7, hp7⟩ : ∃ x, w7.heap.size = x := ⟨_, rfl⟩
          have X8 : Hid (Below w1.heap.size w1 w8) := on_below X7.out X78.out
          have A8 : Hid (QeP w8 ⟨.slice a7 l7 c7, .slice b7 x7 d7, L, X⟩) := A7.out.below X78.out
          rw [hp7] at F8 ⊢
          clear hp7 A7 X7 X78
          obtain ⟨f0, f1⟩ := F8.out
          obtain ⟨TB, TL2, TX⟩ := twiceL (n := n) (e := ⟨.slice a7 l7 c7, .slice b7 x7 d7, L, X⟩) XLN.out
          have Q2 : Hid (Qs (w8.alloc (.cells #[.slice a7 l7 c7, .slice b7 x7 d7, .slice a7 l7 c7, .slice b7 x7 d7] 41)) (.slice (some ⟨w8.heap.size, 0, none⟩) 2 2) [⟨.slice a7 l7 c7, .slice b7 x7 d7, L, X⟩, ⟨.slice a7 l7 c7, .slice b7 x7 d7, L, X⟩]) := Qs.lit2 w8 ⟨.slice a7 l7 c7, .slice b7 x7 d7, L, X⟩ ⟨.slice a7 l7 c7, .slice b7 x7 d7, L, X⟩ _ rfl A8.out A8.out
          obtain ⟨w9, hw9⟩ : ∃ x, w8.alloc (.cells #[.slice a7 l7 c7, .slice b7 x7 d7, .slice a7 l7 c7, .slice b7 x7 d7] 41) = x := ⟨_, rfl⟩
          have X89 : Hid (Below w8.heap.size w8 w9) := by rw [← hw9]; exact below_alloc _ _
          rw [hw9] at Q2
          go_wp2_with fail
          refine (qadd_uni n _ _ w9 (by omega) Q2.out (by
            have h1 : ofsQ [(⟨.slice a7 l7 c7, .slice b7 x7 d7, L, X⟩ : Qe), ⟨.slice a7 l7 c7, .slice b7 x7 d7, L, X⟩] = L ++ L := by simp [ofsQ]
            rw [h1, List.length_append]
            have := LL.out
            omega) (by simp)).mono ?_
          rintro e w10 ⟨o10, v10, rfl, hq, hb⟩
          rw [TB]
          rw [TL2, TX] at hq
          have X90 : Hid (Below w9.heap.size w9 w10) := hb
          have X8a : Hid (Below w8.heap.size w8 w10) := on_below X89.out hb
          obtain ⟨a10, c10, rfl, -, -⟩ := zs_shape (show Zs w10 o10 [] from hq.1)
          obtain ⟨b10, d10, rfl, -, -⟩ := bs_shape (show Bs w10 v10 (zeros n) from hq.2)
          have Z10 : Hid (Bs w10 (.slice b10 n d10) (zeros n)) := by
            have h1 := hq.2
            rw [zeros_length] at h1
            exact h1
          rw [zeros_length]
          have g0 := (X8a.out.cell (cell_block_lt f0)).trans f0
          have g1 := (X8a.out.cell (cell_block_lt f1)).trans f1
          clear hq hb TB TL2 TX f0 f1 hw9 Q2
          go_upto_region 39 with fail
          obtain ⟨w11, hw11⟩ : ∃ x, w10.alloc (.cells #[.slice a10 0 c10, .slice b10 n d10] 41) = x := ⟨_, rfl⟩
          have F11 : Hid (EqB w11 w10.heap.size (.slice a10 0 c10) (.slice b10 n d10)) := by rw [← hw11]; exact EqB.new _ _ _ _
          have X01 : Hid (Below w10.heap.size w10 w11) := by rw [← hw11]; exact below_alloc _ _
          rw [hw11]
          clear hw11
          obtain ⟨p11, hp11⟩ : ∃ x, w10.heap.size = x := ⟨_, rfl⟩
          have Z11 : Hid (Bs w11 (.slice b10 n d10) (zeros n)) := Z10.out.below X01.out
          have X811 : Hid (Below w8.heap.size w8 w11) := on_below X8a.out X01.out
          have X11 : Hid (Below w1.heap.size w1 w11) := on_below X8.out X811.out
          have h0 := (X01.out.cell (cell_block_lt g0)).trans g0
          have h1 := (X01.out.cell (cell_block_lt g1)).trans g1
          rw [hp11] at F11 ⊢
          clear hp11 Z10 X01 X90 X8a g0 g1 X89
          go_wp2_with fail
          refine (qholds_any _ _ _ L X us xs w11 (A8.out.1.below X811.out) (A8.out.2.below X811.out) (SL.out.below X11.out) (PB.out.parts.below X11.out) (by have := LL.out; omega) (by rw [XLN.out]; omega)).mono ?_
          rintro e w12 ⟨⟨r, rfl, hr⟩, hb⟩
          obtain rfl : r = true := hr.2 HO.out
          have F12 : Hid (EqB w12 p11 (.slice a10 0 c10) (.slice b10 n d10)) := F11.out.below hb
          have Z12 : Hid (Bs w12 (.slice b10 n d10) (zeros n)) := Z11.out.below hb
          have X12 : Hid (Below w.heap.size w w12) := on_below BB.out (on_below X11.out hb)
          obtain ⟨k0, k1⟩ := F12.out
          clear hr hb F11 Z11 X11 X811 h0 h1
          go_wp2_with fail
          refine (rzero_any _ _ w12 Z12.out).mono ?_
          rintro e w13 ⟨rfl, rfl⟩
          rw [zeroB_zeros]
          clear k0 k1
          go_wp2
          go_ret
          exact ⟨rfl, X12.out⟩

theorem equationSums_law (s : Int) (pv : Value) (vs : List Value) (ls : List (List UInt8)) (fv : Value) (fvs : List Value) (fl : List (List Int)) (w : World) (hs : (Lit.int .u8 s).wf = true) (hp : Sl 1 w pv vs.length vs) (hps : Parts w vs ls) (hf : Sl 1 w fv fvs.length fvs) (hfl : LsZ w fvs fl) (hfw : LzW fl) :
    Calls Try.prog 6 #[.int .u8 s, pv, fv] w fun e w' => e = .returned (.bool true) ∧ Below w.heap.size w w' := equationSums_walk s hs pv fv vs fvs ls fl w hp hps hf hfl hfw

end Go.Proofs.Ytkcijbejngnalaa
