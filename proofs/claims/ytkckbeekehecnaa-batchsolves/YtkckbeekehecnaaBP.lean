/-
  The law's holds.
-/
import Derived.Test.YtkckbeekehecnaaBN
import Derived.Test.YtkckbeekehecnaaKXf
import Derived.Test.YtkckbeekehecnaaZBlk
import Derived.RegionTactic
import Derived.Deep.Light
import Derived.BigQuiet
namespace Go.Proofs.Ytkckbeekehecnaa
open Go.RowKit
set_option linter.unusedVariables false
set_option maxRecDepth 100000

theorem holdsH {n size : Nat} {es : List Qe} {K : List Int} {V : Int → List UInt8} (h : Found n size es K V) (hc : ¬ ∃ e ∈ useQ n size es, FailP n K V e) : ∀ e ∈ es, FitI (n : Int) e.of → e.va.length = size → leftZ K e.of = [] → zeroB (xorAll e.va (e.of.map V)) = true := fun e he hf hl hk => by
  have hu : e ∈ useQ n size es := useQ_mem.2 ⟨he, hf, hl⟩
  have hK : ∀ z ∈ e.of, z ∈ K := fun z hz => Classical.byContradiction fun hn => by
    have h1 := leftZ_mem.2 ⟨hz, hn⟩
    rw [hk] at h1
    cases h1
  exact (holds_xsV hf.2 hK h.len hl).1 (Classical.byContradiction fun hn => hc ⟨e, hu, hk, hn⟩)

theorem parts_snocS {w : World} {vs : List Value} {ls : List (List UInt8)} {u : Value} {x : List UInt8} (h : Parts w vs ls) (hu : Bs w u x) : Parts w (vs ++ [u]) (ls ++ [x]) := by
  refine ⟨by rw [List.length_append, List.length_append, h.1]; rfl, fun j v y hv hy => ?_⟩
  by_cases hj : j < vs.length
  · rw [List.getElem?_append_left hj] at hv
    rw [List.getElem?_append_left (by rw [← h.1]; exact hj)] at hy
    exact h.2 j v y hv hy
  · rw [List.getElem?_append_right (by omega)] at hv
    rw [List.getElem?_append_right (by rw [← h.1]; omega), ← h.1] at hy
    have h0 : j - vs.length = 0 := by have h1 := (List.getElem?_eq_some_iff.1 hv).1; simp at h1; omega
    rw [h0] at hv hy
    simp at hv hy
    subst hv
    subst hy
    exact hu
theorem one_srcS {w : World} {u : Value} : Sl 1 (w.alloc (.cells #[u] 38)) (.slice (some ⟨w.heap.size, 0, none⟩) 1 1) 1 [u] := by
  refine ⟨rfl, _, _, rfl, Nat.le_refl _, by simp [maxLen], fun h => by simp at h, .inr ⟨_, 0, rfl, fun j v hj => ?_⟩⟩
  match j with
  | 0 => simp at hj; subst hj; simp
  | j + 1 => simp at hj

set_option maxHeartbeats 4000000 in
theorem holds17_any (a n A S ka2 m : Nat) (pv qv : Value) (ua : Option Addr) (uc : Nat) (vs : List Value) (es : List Qe) (ka : Option Addr) (km kc bx vb : Nat) (us : List Value) (K : List Int) (V : Int → List UInt8) (cf : Bool) (w : World) (hm : es.length = m) (hp : Sl 1 w pv m (es.map Qe.ov)) (hq : ∀ e ∈ es, QeP w e) (hu : Sl 1 w (.slice ua m uc) m (es.map Qe.vv)) (hl : ∀ e ∈ es, e.va.length = n) (hk : Zs w (.slice ka km kc) (kRise K a)) (hV : Vs w bx vb a n us K V) (hrg : ∀ x ∈ K, 0 ≤ x ∧ x < (a : Int)) (hVl : ∀ x ∈ K, (V x).length = n)
    (hH : ∀ e ∈ es, FitI (a : Int) e.of → e.va.length = n → leftZ K e.of = [] → zeroB (xorAll e.va (e.of.map V)) = true) (hT : (es.map Qe.of).flatten.length ≤ 300) (hm3 : m ≤ 300) (ha : a ≤ 40) (hn6 : n ≤ 6) :
    Calls Try.prog 17 #[.int .i64 (a : Int), .agg #[.int .u8 (A : Int), .int .u8 (S : Int), pv, qv], .slice ua m uc, .agg #[.slice ka km kc, .slice (some ⟨vb, 0, none⟩) a a, .bool cf]] w fun e w' => e = .returned (.bool true) ∧ Below w.heap.size w w' := by
  have HM : Hid (es.length = m) := hm
  have hp' := hp
  obtain ⟨-, pa, pc, rfl, hp2, hp3, -, -⟩ := hp'
  unfold maxLen at hp3
  have HP : Hid (Sl 1 w (.slice pa m pc) m (es.map Qe.ov)) := hp
  have HQ : Hid (∀ e ∈ es, QeP w e) := hq
  have HU : Hid (Sl 1 w (.slice ua m uc) m (es.map Qe.vv)) := hu
  have HL : Hid (∀ e ∈ es, e.va.length = n) := hl
  have HK : Hid (Zs w (.slice ka km kc) (kRise K a)) := hk
  have HV : Hid (Vs w bx vb a n us K V) := hV
  have HRG : Hid (∀ x ∈ K, 0 ≤ x ∧ x < (a : Int)) := hrg
  have HVL : Hid (∀ x ∈ K, (V x).length = n) := hVl
  have HH : Hid (∀ e ∈ es, FitI (a : Int) e.of → e.va.length = n → leftZ K e.of = [] → zeroB (xorAll e.va (e.of.map V)) = true) := hH
  have HT : Hid ((es.map Qe.of).flatten.length ≤ 300) := hT
  clear hm hp hq hu hl hk hV hrg hVl hH hT
  go_enter Try.func17, Try.ntmps17
  go_upto_region 1 with fail
  obtain ⟨w1, hw1⟩ : ∃ x, w.alloc (.cells #[.int .u8 (A : Int), .int .u8 (S : Int), .slice pa m pc, qv] 25) = x := ⟨_, rfl⟩
  have B1 : Hid (XBox w.heap.size A S (.slice pa m pc) qv w1) := by rw [← hw1]; exact XBox.new _ _ _ _ _
  have X1 : Below w.heap.size w w1 := by rw [← hw1]; exact below_alloc _ _
  have S1 : w1.heap.size = w.heap.size + 1 := by rw [← hw1]; simp
  rw [hw1]
  obtain ⟨w2, hw2⟩ : ∃ x, w1.alloc (.cells #[.slice ka km kc, .slice (some ⟨vb, 0, none⟩) a a, .bool cf] 33) = x := ⟨_, rfl⟩
  have R2 : Hid (RsB w2 (w.heap.size + 1) (.slice ka km kc) (.slice (some ⟨vb, 0, none⟩) a a) cf) := by rw [← hw2, ← S1]; exact RsB.new _ _ _ _
  have Y12 : Below w1.heap.size w1 w2 := by rw [← hw2]; exact below_alloc _ _
  rw [hw2]
  have B2 : Hid (XBox w.heap.size A S (.slice pa m pc) qv w2) := XBox.below B1.out Y12
  have X2 : Hid (Below w.heap.size w w2) := on_below X1 Y12
  obtain ⟨rb, hrb⟩ : ∃ x, w.heap.size + 1 = x := ⟨_, rfl⟩
  rw [hrb] at R2 ⊢
  clear hw1 hw2 hrb S1 B1 X1 Y12
  obtain ⟨x0, x1, x2, x3⟩ := B2.out.cells
  go_wp2
  clear x0 x1 x2 x3
  go_loopw [17] (fun iv wr => ∃ (i : Nat), i ≤ m ∧ iv = .int .i64 i ∧ Hid (Below w2.heap.size w2 wr)) (fun iv _ => m - (intOf iv).toNat)
  case atStart => exact ⟨0, by omega, rfl, Below.refl _ _⟩
  case round =>
    obtain ⟨i, hi, rfl, BB⟩ := hrel
    by_cases hlt : i < m
    · have hltI : (i : Int) < (m : Int) := by omega
      have XW : Hid (Below w.heap.size w wr) := on_below X2.out BB.out
      obtain ⟨⟨eo, ev, ef, ex⟩, he⟩ : ∃ e, es[i]? = some e := ⟨_, List.getElem?_eq_getElem (by rw [HM.out]; exact hlt)⟩
      have hem := List.mem_of_getElem? he
      have hv : (es.map Qe.ov)[i]? = some eo := by rw [List.getElem?_map, he]; rfl
      have hu : (es.map Qe.vv)[i]? = some ev := by rw [List.getElem?_map, he]; rfl
      obtain ⟨pb, po, rfl, cp⟩ := sl_at (show Sl 1 w (.slice pa m pc) (es.map Qe.ov).length (es.map Qe.ov) from (by rw [List.length_map, HM.out]; exact HP.out)) XW.out hv
      obtain ⟨ub, uo, rfl, cu⟩ := sl_at (show Sl 1 w (.slice ua m uc) (es.map Qe.vv).length (es.map Qe.vv) from (by rw [List.length_map, HM.out]; exact HU.out)) XW.out hu
      have EP : QeP w ⟨eo, ev, ef, ex⟩ := HQ.out _ hem
      have hxn : ex.length = n := HL.out _ hem
      have HX : Hid (FitI (a : Int) ef → leftZ K ef = [] → zeroB (xorAll ex (ef.map V)) = true) := fun h1 h2 => HH.out _ hem h1 hxn h2
      obtain ⟨ea1, ec1, rfl, -, hec⟩ := zs_shape (show Zs w eo ef from EP.1)
      obtain ⟨xa1, xc1, rfl, -, -⟩ := bs_shape (show Bs w ev ex from EP.2)
      have FL : Hid (ef.length ≤ 300) := Nat.le_trans (flat_le (show (es.map Qe.of)[i]? = some ef from by rw [List.getElem?_map, he]; rfl)) HT.out
      obtain ⟨fl, hfl⟩ : ∃ x, ef.length = x := ⟨_, rfl⟩
      have HFL : Hid (ef.length = fl) := hfl
      have Z1 : Hid (Zs w (.slice ea1 fl ec1) ef) := by have h1 := EP.1; simp only [hfl] at h1; exact h1
      have V1 : Hid (Bs w (.slice xa1 n xc1) ex) := by have h1 := EP.2; simp only [hxn] at h1; exact h1
      have HXN : Hid (ex.length = n) := hxn
      simp only [hfl, hxn] at cp cu
      have hfl3 : fl ≤ 300 := by have h1 := FL.out; omega
      clear he hem hv hu EP hfl hxn FL
      go_wp2_with fail
      refine (rfits16_any (a : Int) _ ef wr (Z1.out.below XW.out)).mono ?_
      rintro e w3 ⟨⟨fb, rfl, hfit⟩, hb3⟩
      have B23 : Hid (Below w2.heap.size w2 w3) := on_below BB.out hb3
      have X3 : Hid (Below w.heap.size w w3) := on_below XW.out hb3
      have cu3 := (hb3.cell (cell_block_lt cu)).trans cu
      clear hb3 cp cu
      cases fb with
      | false =>
        go_wp2
        go_roundw
        case rel => exact ⟨i + 1, by omega, by go_num, B23⟩
        case measure => simp [intOf]; omega
      | true =>
        have FI : Hid (FitI (a : Int) ef) := hfit.1 rfl
        clear hfit
        obtain ⟨r0, r1, r2⟩ := (R2.out.below B23.out).cells
        go_wp2_with fail
        refine (rleft_any _ _ (kRise K a) ef w3 (HK.out.below X3.out) (Z1.out.below X3.out) (by have h1 := HFL.out; omega)).mono ?_
        rintro e w4 ⟨la, lm, lc, rfl, hlo, hb4⟩
        have LM : Hid ((leftZ (kRise K a) ef).length = lm) := hlo.len
        have B24 : Hid (Below w2.heap.size w2 w4) := on_below B23.out hb4
        have X4 : Hid (Below w.heap.size w w4) := on_below X3.out hb4
        have cu4 := (hb4.cell (cell_block_lt cu3)).trans cu3
        clear hb4 hlo cu3 r0 r1 r2
        obtain ⟨r0, r1, r2⟩ := (R2.out.below B24.out).cells
        by_cases h0 : 0 < lm
        · have d0 : (0 : Int) < (lm : Int) := by omega
          go_wp2
          go_roundw
          case rel => exact ⟨i + 1, by omega, by go_num, B24⟩
          case measure => simp [intOf]; omega
        · obtain rfl : lm = 0 := by omega
          have LK : Hid (leftZ K ef = []) := by
            have h1 : leftZ (kRise K a) ef = leftZ K ef := leftZ_congr fun x _ => kRise_mem HRG.out
            unfold Hid
            rw [← h1]
            exact List.eq_nil_of_length_eq_zero LM.out
          have ZR : Hid (zeroB (xorAll ex (ef.map V)) = true) := HX.out FI.out LK.out
          have INK : Hid (∀ z ∈ ef, z ∈ K) := fun z hz => Classical.byContradiction fun hn => by
            have h1 := leftZ_mem.2 ⟨hz, hn⟩
            rw [LK.out] at h1
            cases h1
          have OW : Hid ((w4.alloc (.cells #[.slice xa1 n xc1] 38)).ownsRow w4.heap.size 38 1 (.slice (some ⟨w4.heap.size, 0, none⟩) 1 1) 1 [.slice xa1 n xc1]) := World.ownsRow_lit w4 #[.slice xa1 n xc1] 1 (Nat.le_refl _) (by simp [maxLen]) rfl
          have XA : Hid (Below w4.heap.size w4 (w4.alloc (.cells #[.slice xa1 n xc1] 38))) := below_alloc _ _
          have PA : Hid (Parts w4 [.slice xa1 n xc1] (ex :: (ef.take 0).map V)) := ⟨rfl, fun j u y hu hy => by
            match j with
            | 0 => simp at hu hy; subst hu; subst hy; exact V1.out.below X4.out
            | j + 1 => simp at hu⟩
          clear LM HX
          go_wp2
          clear r0 r1 r2
          go_loopw [11, 41] (fun lv jv wr => ∃ (j : Nat) (a' : Option Addr) (c' : Nat) (ws : List Value), j ≤ fl ∧ jv = .int .i64 j ∧ lv = .slice a' (j + 1) c' ∧ Hid (wr.ownsRow w4.heap.size 38 1 (.slice a' (j + 1) c') (j + 1) ws) ∧ Hid (Parts w4 ws (ex :: (ef.take j).map V)) ∧ Hid (Below w4.heap.size w4 wr)) (fun _ jv _ => fl - (intOf jv).toNat)
          case atStart => exact ⟨0, some ⟨w4.heap.size, 0, none⟩, 1, [.slice xa1 n xc1], by omega, rfl, rfl, OW.out, PA.out, XA.out⟩
          case round =>
            clear OW PA XA
            obtain ⟨j, a', c', ws, hj, rfl, rfl, OO, PP, YY⟩ := hrel
            by_cases hlt2 : j < fl
            · have hlt2I : (j : Int) < (fl : Int) := by omega
              obtain ⟨z, hz⟩ : ∃ z, ef[j]? = some z := ⟨_, List.getElem?_eq_getElem (by rw [HFL.out]; exact hlt2)⟩
              have hzm := List.mem_of_getElem? hz
              have hzK := INK.out z hzm
              obtain ⟨hz0, hz1⟩ := FI.out.2 z hzm
              obtain ⟨iz, rfl⟩ : ∃ k : Nat, z = k := ⟨z.toNat, by omega⟩
              have hia : iz < a := by omega
              have hiI : (iz : Int) < (a : Int) := by omega
              obtain ⟨b0, off, rfl, ci⟩ := zs_at Z1.out (on_below X4.out YY.out) hz
              obtain ⟨u, hu, cu⟩ := (HV.out.below (on_below X4.out YY.out)).at hia
              obtain ⟨qv1, cv, rfl, hbv⟩ := (HV.out.below X4.out).kn iz u hu hzK
              have TKS : ef.take (j + 1) = ef.take j ++ [(iz : Int)] := by
                obtain ⟨b1, b2⟩ := List.getElem?_eq_some_iff.1 hz
                rw [List.take_succ_eq_append_getElem b1, b2]
              have PN : Hid (Parts w4 (ws ++ [.slice (some ⟨qv1, 0, none⟩) n cv]) (ex :: (ef.take (j + 1)).map V)) := by
                rw [TKS, List.map_append, List.map_singleton, ← List.cons_append]
                exact parts_snocS PP.out hbv.bs
              obtain ⟨r0, r1, r2⟩ := (R2.out.below (on_below B24.out YY.out)).cells
              have OA : Hid ((wr.alloc (.cells #[.slice (some ⟨qv1, 0, none⟩) n cv] 38)).ownsRow w4.heap.size 38 1 (.slice a' (j + 1) c') (j + 1) ws) := owns_kept OO.out fun k hk => (below_alloc wr _).block k (World.ownsRow.lt OO.out k hk).2
              have YA : Hid (Below w4.heap.size w4 (wr.alloc (.cells #[.slice (some ⟨qv1, 0, none⟩) n cv] 38))) := on_below YY.out (below_alloc _ _)
              have hj9 : j + 1 + 1 ≤ 1000000000 := by omega
              clear hz hzm hzK hu hbv TKS OO PP YY
              go_wp2_with (at_builtin; refine wpList_addS _ rfl (.tmp 45) (.tmp 51) rfl w4.heap.size (.slice a' (j + 1) c') (j + 1) ws rfl OA.out _ (.slice (some ⟨qv1, 0, none⟩) n cv) rfl rfl one_srcS hj9 YA.out.size ?_; intro a5 k5 w5 ho5 hg5 _ _)
              have O5 : Hid (w5.ownsRow w4.heap.size 38 1 (.slice a5 (j + 1 + 1) k5) (j + 1 + 1) (ws ++ [.slice (some ⟨qv1, 0, none⟩) n cv])) := ho5
              have Y5 : Hid (Below w4.heap.size w4 w5) := YA.out.grown hg5 YA.out.size (fun q hq => (World.ownsRow.lt OA.out q hq).1)
              clear ho5 hg5 OA YA r0 r1 r2 ci cu
              go_roundw
              case rel => exact ⟨j + 1, a5, k5, _, by omega, by go_num, rfl, O5, PN, Y5⟩
              case measure => simp [intOf]; omega
            · obtain rfl : fl = j := by omega
              have PF : Hid (Parts w4 ws (ex :: ef.map V)) := by
                have h1 := PP.out
                rw [List.take_of_length_le (by rw [HFL.out]; exact Nat.le_refl _)] at h1
                exact h1
              have WL : Hid (ws.length = fl + 1) := by have h1 := PF.out.1; unfold Hid; rw [h1, List.length_cons, List.length_map, HFL.out]
              have SL : Hid (Sl 1 wr (.slice a' (fl + 1) c') ws.length ws) := by unfold Hid; rw [WL.out]; exact owned_slN OO.out
              have FB : fitB n (ex :: ef.map V) = true := fitB_of (fun y hy => by
                rcases List.mem_cons.1 hy with rfl | hy
                · exact HXN.out
                · obtain ⟨z, hz, rfl⟩ := List.mem_map.1 hy
                  exact HVL.out z (INK.out z hz))
              have HFB : Hid (fitB n (ex :: ef.map V) = true) := FB
              have Z0 : Hid (zeroB (xorAll (zeros n) (ex :: ef.map V)) = true) := by
                show zeroB (xorAll (xorL (zeros n) ex) (ef.map V)) = true
                have h1 := xorL_zeros ex
                rw [HXN.out] at h1
                rw [h1]
                exact ZR.out
              have B2w : Hid (Below w2.heap.size w2 wr) := on_below B24.out YY.out
              have cu5 := (YY.out.cell (cell_block_lt cu4)).trans cu4
              clear OO PP FB
              go_wp2_with fail
              refine (rfits_any (n : Int) _ ws (ex :: ef.map V) wr SL.out (PF.out.below YY.out)).mono ?_
              rintro e w5 ⟨rfl, hw5⟩
              obtain rfl : wr = w5 := hw5.symm
              clear hw5
              rw [Int.toNat_natCast, HFB.out]
              have d0 : decide (0 ≤ (n : Int)) = true := decide_eq_true (by omega)
              rw [d0]
              go_wp2_with fail
              refine (rsum_any n _ ws (ex :: ef.map V) wr (by omega) SL.out (PF.out.below YY.out) HFB.out).mono ?_
              rintro e w6 ⟨rfl, hbk, hb6⟩
              have B26 : Hid (Below w2.heap.size w2 w6) := on_below B2w.out hb6
              have BK : Hid (Blk w6 wr.heap.size [] (xorAll (zeros n) (ex :: ef.map V)) []) := hbk
              have NL : Hid ((xorAll (zeros n) (ex :: ef.map V)).length = n) := by
                unfold Hid
                rw [xorAll_length (by rw [zeros_length]; intro y hy; exact fitB_mem HFB.out hy), zeros_length]
              clear hbk hb6
              go_wp2_with fail
              refine (rzero_any _ (xorAll (zeros n) (ex :: ef.map V)) w6 (BK.out.bs0 n n NL.out.symm (Nat.le_refl _) (by unfold maxLen; omega))).mono ?_
              rintro e w7 ⟨rfl, hw7⟩
              obtain rfl : w6 = w7 := hw7.symm
              clear hw7
              rw [Z0.out]
              clear cu5 BK
              go_wp2
              go_roundw
              case rel => exact ⟨i + 1, by omega, by go_num, B26⟩
              case measure => simp [intOf]; omega
    · obtain rfl : m = i := by omega
      have XE := on_below X2.out BB.out
      go_wp2
      go_ret
      exact ⟨rfl, XE⟩

end Go.Proofs.Ytkckbeekehecnaa
