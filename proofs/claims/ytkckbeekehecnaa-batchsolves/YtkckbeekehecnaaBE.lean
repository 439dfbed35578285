/-
  batch: rest, which, usable.
-/
import Derived.Test.YtkckbeekehecnaaBD
namespace Go.Proofs.Ytkckbeekehecnaa
open Go.RowKit
set_option linter.unusedVariables false
set_option maxRecDepth 100000

theorem own_owb {B : Nat} {l : List UInt8} {q n c : Nat} {W : World} (h : IsOwn B l (.slice (some ⟨q, 0, none⟩) n c) W) : OwB B W (.slice (some ⟨q, 0, none⟩) n c) n l ∧ B ≤ q ∧ l.length = n := by
  obtain ⟨q', cap, post, h1, h2, h3, h4, h5, h6⟩ := h
  injection h1 with e1 e2 e3
  injection e1 with e1
  injection e1 with e1 _ _
  subst e1
  subst e2
  subst e3
  subst h6
  refine ⟨⟨by simp, .inr ⟨q, l.length + post.length, (l.map bv ++ post).toArray, rfl, h2, h3, by omega, h5, by simp, by simp⟩⟩, h2, rfl⟩

set_option maxHeartbeats 2000000 in
/-- REST: what an equation says of its only block without a value. -/
theorem brest_any (ov vv : Value) (of : List Int) (va : List UInt8) (bx vb n size : Nat) (us : List Value) (K : List Int) (V : Int → List UInt8) (w : World) (hz : Zs w ov of) (hv : Bs w vv va) (hc : Vs w bx vb n size us K V) (hrg : ∀ z ∈ of, 0 ≤ z ∧ z < (n : Int)) (hnb : n ≤ 1000000) (hsz : va.length = size) (hs1 : size ≤ 1000000) (hm : of.length ≤ 1000000) :
    Calls Try.prog 31 #[.agg #[ov, vv], .slice (some ⟨vb, 0, none⟩) n n] w fun e w' => ∃ q c, e = .returned (.slice (some ⟨q, 0, none⟩) size c) ∧ OwB w.heap.size w' (.slice (some ⟨q, 0, none⟩) size c) size (xorAll va ((knZ K of).map V)) ∧ Below w.heap.size w w' := by
  have HZ : Hid (Zs w ov of) := hz
  have HV : Hid (Bs w vv va) := hv
  have HC : Hid (Vs w bx vb n size us K V) := hc
  have HRG : Hid (∀ z ∈ of, 0 ≤ z ∧ z < (n : Int)) := hrg
  have HS : Hid (va.length = size) := hsz
  obtain ⟨ao, oc0, rfl, ho2, ho3⟩ := zs_shape hz
  obtain ⟨av, vc0, rfl, hv2, hv3⟩ := bs_shape hv
  obtain ⟨m, hn⟩ : ∃ n, of.length = n := ⟨_, rfl⟩
  have HN : Hid (of.length = m) := hn
  rw [hn] at HZ ho2 hm ⊢
  have HVB : Hid (Bs (w.alloc (.cells #[.slice ao m oc0, .slice av va.length vc0] 43)) (.slice av va.length vc0) va) := HV.out.below (below_alloc _ _)
  rw [hsz] at HV HVB hv2 ⊢
  have hsz9 : va.length ≤ 70368744177664 := by omega
  have E1 : Hid (EqB (w.alloc (.cells #[.slice ao m oc0, .slice av size vc0] 43)) w.heap.size (.slice ao m oc0) (.slice av size vc0)) := EqB.new _ _ _ _
  have X1 : Hid (Below w.heap.size w (w.alloc (.cells #[.slice ao m oc0, .slice av size vc0] 43))) := below_alloc _ _
  have qT : ∀ (w : World) (a : Option Addr) (n c : Nat), (binOp .neq 38 (.slice a n c) (.slice none 0 0)).run Try.prog w = .ok (.bool (!a.isNone)) w := fun w a n c => run_neq_slice_nil_any w _ _ a n c 0 0 Try.underlying38
  clear hz hv hc hrg hsz hn
  go_enter Try.func31, Try.ntmps31
  go_upto_region 1 with fail
  generalize w.alloc (.cells #[.slice ao m oc0, .slice av size vc0] 43) = w1 at *
  have e1b : (w1.alloc (.cells #[] 5)).cell? ⟨w.heap.size, 1, none⟩ = some (.slice av size vc0) := (E1.out.below (below_alloc _ _)).2
  go_upto_region 2 with (at_builtin; refine wpList_copy w1 rfl (.tmp 8) (.tmp 10) rfl va _ _ rfl rfl rfl HVB.out hsz9 ?_; intro q3 c3 w4 hown hbel)
  rw [HS.out] at hown ⊢
  obtain ⟨ho4, hq4, -⟩ := own_owb hown
  have O4 : Hid (OwB w.heap.size w4 (.slice (some ⟨q3, 0, none⟩) size c3) size va) := OwB.mono ho4 X1.out.size
  have Q3 : Hid (w1.heap.size ≤ q3) := hq4
  have E4 : Hid (EqB w4 w.heap.size (.slice ao m oc0) (.slice av size vc0)) := E1.out.below hbel
  have X4 : Hid (Below w.heap.size w w4) := on_below X1.out hbel
  have S1 : Hid (w.heap.size ≤ w1.heap.size) := X1.out.size
  clear ho4 hq4 hown hbel e1b E1 X1 HVB
  obtain ⟨f0, f1⟩ := E4.out
  go_wp2
  clear f0 f1 E4
  have O0 : Hid (OwB w.heap.size w4 (.slice (some ⟨q3, 0, none⟩) size c3) size (xorAll va ((knZ K (of.take 0)).map V))) := O4.out
  go_loopw [15] (fun iv wr => ∃ (i : Nat), i ≤ m ∧ iv = .int .i64 i ∧ Hid (OwB w.heap.size wr (.slice (some ⟨q3, 0, none⟩) size c3) size (xorAll va ((knZ K (of.take i)).map V))) ∧ Hid (Below w.heap.size w wr)) (fun iv _ => m - (intOf iv).toNat)
  case atStart => exact ⟨0, by omega, rfl, O0, X4⟩
  case round =>
    clear O0 X4 O4
    obtain ⟨i, hi, rfl, OB, XX⟩ := hrel
    by_cases hlt : i < m
    · obtain ⟨z, hzi⟩ : ∃ z, of[i]? = some z := ⟨_, List.getElem?_eq_getElem (by rw [HN.out]; exact hlt)⟩
      have HZ' : Zs w (.slice ao m oc0) of := HZ.out
      obtain ⟨b0, off, rfl, ci⟩ := zs_at HZ' XX.out hzi
      have KX : Hid (knZ K (of.take (i + 1)) = knZ K (of.take i) ++ (if z ∈ K then [z] else [])) := knZ_take hzi
      obtain ⟨hz0, hz1⟩ := HRG.out z (List.mem_of_getElem? hzi)
      obtain ⟨iz, rfl⟩ : ∃ k : Nat, z = k := ⟨z.toNat, by omega⟩
      have hiz : iz < n := by omega
      have VR := HC.out.below XX.out
      obtain ⟨u, hu, cu⟩ := VR.at hiz
      clear hzi HZ'
      by_cases hzk : (iz : Int) ∈ K
      · obtain ⟨qv, cv, rfl, hbv⟩ := HC.out.kn iz u hu hzk
        have KX' : Hid (xorAll va ((knZ K (of.take (i + 1))).map V) = xorL (xorAll va ((knZ K (of.take i)).map V)) (V iz)) := by
          have h1 := KX.out
          rw [if_pos hzk] at h1
          unfold Hid
          rw [h1, List.map_append, xorAll_append]
          rfl
        have BV : Hid (Bs w (.slice (some ⟨qv, 0, none⟩) size cv) (V iz)) := hbv.bs
        have VL : Hid ((V iz).length = size) := hbv.len
        clear KX VR hbv hu hzk
        go_wp2_with fail
        refine (xor_own w.heap.size (some ⟨q3, 0, none⟩) size c3 _ (V iz) (.slice (some ⟨qv, 0, none⟩) size cv) wr OB.out (BV.out.below XX.out) VL.out (fun q hq => BV.out.off_new (by have h1 := (Option.some.inj hq); injection h1 with h1 _ _; have h2 := Q3.out; have h3 := S1.out; omega)) _ rfl).mono ?_
        rintro e w6 ⟨rfl, ho, hg⟩
        have O6 : Hid (OwB w.heap.size w6 (.slice (some ⟨q3, 0, none⟩) size c3) size (xorAll va ((knZ K (of.take (i + 1))).map V))) := by rw [KX'.out]; exact ho
        have X6 : Hid (Below w.heap.size w w6) := (XX.out.alloc XX.out.size _).grown hg (Nat.le_trans XX.out.size (below_alloc _ _).size) (fun q hq => (OB.out.lt q hq).1)
        clear ho hg OB XX KX' ci cu
        go_wp2
        go_roundw
        case rel => exact ⟨i + 1, by omega, by go_num, O6, X6⟩
        case measure => simp [intOf]; omega
      · obtain rfl := HC.out.un iz u hu hzk
        have KX' : Hid (OwB w.heap.size wr (.slice (some ⟨q3, 0, none⟩) size c3) size (xorAll va ((knZ K (of.take (i + 1))).map V))) := by
          have h1 := KX.out
          rw [if_neg hzk, List.append_nil] at h1
          unfold Hid
          rw [h1]
          exact OB.out
        clear KX VR hu hzk OB
        go_wp2
        go_roundw
        case rel => exact ⟨i + 1, by omega, by go_num, KX', XX⟩
        case measure => simp [intOf]; omega
    · obtain rfl : m = i := by omega
      have eT : of.take m = of := List.take_of_length_le (by rw [HN.out]; exact Nat.le_refl _)
      rw [eT] at OB
      go_wp2
      go_ret
      exact ⟨q3, c3, rfl, OB, XX.out⟩

/-- The numbers from 0 on below another one that are among some. -/
def kRise (K : List Int) (i : Nat) : List Int := ((List.range i).map fun (k : Nat) => (k : Int)).filter fun x => decide (x ∈ K)
theorem kRise_next (K : List Int) (i : Nat) : kRise K (i + 1) = kRise K i ++ (if (i : Int) ∈ K then [(i : Int)] else []) := by
  unfold kRise
  rw [List.range_succ, List.map_append, List.filter_append]
  congr 1
  by_cases h : (i : Int) ∈ K <;> simp [h]
theorem kRise_mem {K : List Int} {n : Nat} (h : ∀ x ∈ K, 0 ≤ x ∧ x < (n : Int)) {x : Int} : x ∈ kRise K n ↔ x ∈ K := by
  unfold kRise
  rw [List.mem_filter, decide_eq_true_eq]
  refine ⟨fun h => h.2, fun hx => ⟨?_, hx⟩⟩
  have := h x hx
  exact List.mem_map.2 ⟨x.toNat, List.mem_range.2 (by omega), by omega⟩
theorem kRise_len (K : List Int) (n : Nat) : (kRise K n).length ≤ n := by
  unfold kRise
  have h := List.length_filter_le (fun x => decide (x ∈ K)) ((List.range n).map fun (k : Nat) => (k : Int))
  rwa [List.length_map, List.length_range] at h
theorem kRise_rise (K : List Int) (n : Nat) : (kRise K n).Pairwise (· < ·) := by
  unfold kRise
  refine List.Pairwise.sublist List.filter_sublist ?_
  rw [List.pairwise_map]
  exact List.pairwise_lt_range.imp fun h => by omega

set_option maxHeartbeats 2000000 in
/-- WHICH: the numbers of the blocks that are known, rising. -/
theorem which_any (bx vb n size : Nat) (us : List Value) (K : List Int) (V : Int → List UInt8) (w : World) (hc : Vs w bx vb n size us K V) (hnb : n ≤ 1000000) :
    Calls Try.prog 35 #[.int .i64 (n : Int), .func (.func 27) #[] #[.pointer (some ⟨bx, 0, none⟩)]] w fun e w' => ∃ a m c, e = .returned (.slice a m c) ∧ OwnZ w.heap.size w' (.slice a m c) m (kRise K n) ∧ Below w.heap.size w w' := by
  have HC : Hid (Vs w bx vb n size us K V) := hc
  clear hc
  go_enter Try.func35, Try.ntmps35
  go_wp2
  go_loopw [5, 8] (fun lv iv wr => ∃ (i m c : Nat) (a : Option Addr), i ≤ n ∧ iv = .int .i64 i ∧ lv = .slice a m c ∧ Hid (OwnZ w.heap.size wr (.slice a m c) m (kRise K i)) ∧ Hid (Below w.heap.size w wr)) (fun _ iv _ => n - (intOf iv).toNat)
  case atStart => exact ⟨0, 0, 0, none, by omega, rfl, rfl, OwnZ.nil _ _, Below.refl _ _⟩
  case round =>
    obtain ⟨i, m, c, a, hi, rfl, rfl, OO, BB⟩ := hrel
    by_cases hlt : i < n
    · have hltI : (i : Int) < (n : Int) := by omega
      have HK := bsolve1_any (i : Int) bx vb n size us K V wr (HC.out.below BB.out) (by omega) hltI hnb
      have NX : Hid (kRise K (i + 1) = kRise K i ++ (if (i : Int) ∈ K then [(i : Int)] else [])) := kRise_next K i
      have ML : m + 1 ≤ 1000000000 := by have h1 := OO.out.len; have h2 := kRise_len K i; omega
      by_cases hk : (i : Int) ∈ K
      · have hd : decide ((i : Int) ∈ K) = true := decide_eq_true hk
        rw [hd] at HK
        have NX' : Hid (kRise K (i + 1) = kRise K i ++ [(i : Int)]) := by have h1 := NX.out; rw [if_pos hk] at h1; exact h1
        have OA : Hid (OwnZ w.heap.size (wr.alloc (.cells #[.int .i64 (i : Int)] 3)) (.slice a m c) m (kRise K i)) := OO.out.alloc _
        have BA : Hid (Below w.heap.size w (wr.alloc (.cells #[.int .i64 (i : Int)] 3))) := BB.out.alloc BB.out.size _
        clear NX OO hk hd
        go_wp2_with fail
        refine HK.mono ?_
        rintro e w2 ⟨rfl, rfl⟩
        clear HK
        go_wp2_with (at_builtin; refine wpList_addZ _ rfl (.tmp 14) (.tmp 16) rfl w.heap.size (.slice a m c) m _ rfl OA.out _ 1 [(i : Int)] rfl (zs_one _ _ _) ML BA.out.size ?_; intro a4 k4 w4 ho4 hg4 hat4 hnc4 hcm4)
        have O4 : Hid (OwnZ w.heap.size w4 (.slice a4 (m + 1) k4) (m + 1) (kRise K (i + 1))) := by rw [NX'.out]; exact ho4
        have B4 : Hid (Below w.heap.size w w4) := below_added BA.out OA.out (Nat.le_refl _) BA.out.size hg4
        clear ho4 hg4 hat4 hnc4 hcm4 OA BA BB NX'
        go_roundw
        case rel => exact ⟨i + 1, m + 1, k4, a4, by omega, by go_num, rfl, O4, B4⟩
        case measure => simp [intOf]; omega
      · have hd : decide ((i : Int) ∈ K) = false := decide_eq_false hk
        rw [hd] at HK
        have O4 : Hid (OwnZ w.heap.size wr (.slice a m c) m (kRise K (i + 1))) := by
          have h1 := NX.out
          rw [if_neg hk, List.append_nil] at h1
          unfold Hid
          rw [h1]
          exact OO.out
        clear NX OO hk hd
        go_wp2_with fail
        refine HK.mono ?_
        rintro e w2 ⟨rfl, rfl⟩
        clear HK
        go_wp2
        go_roundw
        case rel => exact ⟨i + 1, m, c, a, by omega, by go_num, rfl, O4, BB⟩
        case measure => simp [intOf]; omega
    · obtain rfl : n = i := by omega
      go_wp2
      go_ret
      exact ⟨a, m, c, rfl, OO.out, BB.out⟩

/-- The equations that aren't passed over. -/
def useQ (n size : Nat) (es : List Qe) : List Qe := es.filter fun e => fitsI (n : Int) e.of && decide (e.va.length = size)
theorem useQ_next {n size i : Nat} {es : List Qe} {e : Qe} (h : es[i]? = some e) : useQ n size (es.take (i + 1)) = useQ n size (es.take i) ++ (if (fitsI (n : Int) e.of && decide (e.va.length = size)) = true then [e] else []) := by
  obtain ⟨h1, h2⟩ := List.getElem?_eq_some_iff.1 h
  unfold useQ
  rw [List.take_succ_eq_append_getElem h1, List.filter_append, h2]
  congr 1
  rw [List.filter_cons]
  rfl
theorem useQ_mem {n size : Nat} {es : List Qe} {e : Qe} : e ∈ useQ n size es ↔ e ∈ es ∧ FitI (n : Int) e.of ∧ e.va.length = size := by
  unfold useQ
  rw [List.mem_filter, Bool.and_eq_true, fitsI_iff, decide_eq_true_eq]
theorem useQ_len (n size : Nat) (es : List Qe) : (useQ n size es).length ≤ es.length := List.length_filter_le _ _

set_option maxHeartbeats 2000000 in
/-- USABLE. -/
theorem usable_any (n size : Nat) (pv : Value) (es : List Qe) (w : World) (hp : Qs w pv es) (hm0 : es.length ≤ 100000) (hn : n ≤ 1000000) (hs : size ≤ 1000000) :
    Calls Try.prog 26 #[.int .i64 (n : Int), .int .i64 (size : Int), pv] w fun e w' => ∃ a m c, e = .returned (.slice a m c) ∧ OwnE w.heap.size w' (.slice a m c) m (useQ n size es) ∧ Below w.heap.size w w' := by
  have HP : Hid (Qs w pv es) := hp
  obtain ⟨ao, pc, rfl, hp2, hp3⟩ := hp.shape
  obtain ⟨m, hm⟩ : ∃ m, es.length = m := ⟨_, rfl⟩
  have HM : Hid (es.length = m) := hm
  rw [hm] at hp2 hm0 HP ⊢
  clear hp hm
  go_enter Try.func26, Try.ntmps26
  go_wp2
  go_loopw [7, 12] (fun lv iv wr => ∃ (i k c : Nat) (a : Option Addr), i ≤ m ∧ iv = .int .i64 i ∧ lv = .slice a k c ∧ Hid (OwnE w.heap.size wr (.slice a k c) k (useQ n size (es.take i))) ∧ Hid (Below w.heap.size w wr)) (fun _ iv _ => m - (intOf iv).toNat)
  case atStart => exact ⟨0, 0, 0, none, by omega, rfl, rfl, OwnE.nil _ _, Below.refl _ _⟩
  case round =>
    obtain ⟨i, k, c, a, hi, rfl, rfl, OO, BB⟩ := hrel
    by_cases hlt : i < m
    · obtain ⟨e, he⟩ : ∃ e, es[i]? = some e := ⟨_, List.getElem?_eq_getElem (by rw [HM.out]; exact hlt)⟩
      have HP0 : Qs w (.slice ao m pc) es := HP.out
      have hqp := HP0.2 e (List.mem_of_getElem? he)
      obtain ⟨b0, off, rfl, g0, g1⟩ := Qs.at HP0 BB.out he
      have NX : Hid (useQ n size (es.take (i + 1)) = useQ n size (es.take i) ++ (if (fitsI (n : Int) e.of && decide (e.va.length = size)) = true then [e] else [])) := useQ_next he
      have KM : k ≤ i := by
        have h1 := OO.out.len
        have h2 := useQ_len n size (es.take i)
        have h3 := List.length_take_le i es
        omega
      clear HP0 he
      obtain ⟨eo, ev, ef, ex⟩ := e
      obtain ⟨oa, oc, rfl, ho2, ho3⟩ := zs_shape (show Zs w eo ef from hqp.1)
      obtain ⟨xa, xc, rfl, hx2, hx3⟩ := bs_shape (show Bs w ev ex from hqp.2)
      have HQ : Hid (QeP w ⟨.slice oa ef.length oc, .slice xa ex.length xc, ef, ex⟩) := hqp
      obtain ⟨fl, hfl⟩ : ∃ x, ef.length = x := ⟨_, rfl⟩
      obtain ⟨xl, hxl⟩ : ∃ x, ex.length = x := ⟨_, rfl⟩
      have HXL : Hid (ex.length = xl) := hxl
      simp only [hfl, hxl] at g0 g1 HQ ho2 hx2 NX
      clear hqp hfl
      go_upto_region 5 with fail
      obtain ⟨w3, hw3⟩ : ∃ x, wr.alloc (.cells #[.slice oa fl oc, .slice xa xl xc] 43) = x := ⟨_, rfl⟩
      have E3 : Hid (EqB w3 wr.heap.size (.slice oa fl oc) (.slice xa xl xc)) := by rw [← hw3]; exact EqB.new _ _ _ _
      have O3 : Hid (OwnE w.heap.size w3 (.slice a k c) k (useQ n size (es.take i))) := by rw [← hw3]; exact OO.out.below (below_alloc _ _)
      have X3 : Hid (Below w.heap.size w w3) := by rw [← hw3]; exact BB.out.alloc BB.out.size _
      rw [hw3]
      obtain ⟨pb, hpb⟩ : ∃ x, wr.heap.size = x := ⟨_, rfl⟩
      rw [hpb] at E3 ⊢
      clear hw3 hpb OO BB g0 g1
      obtain ⟨f0, f1⟩ := E3.out
      go_wp2_with fail
      refine (kfits_any (n : Int) (.slice oa fl oc) ef w3 (HQ.out.1.below X3.out)).mono ?_
      rintro e w4 ⟨⟨b, rfl, hb⟩, rfl⟩
      obtain ⟨w4, hw4⟩ : ∃ x, x = w4 := ⟨_, rfl⟩
      subst hw4
      cases b with
      | false =>
        have O5 : Hid (OwnE w.heap.size w4 (.slice a k c) k (useQ n size (es.take (i + 1)))) := by
          have h1 := NX.out
          have h2 : fitsI (n : Int) ef = false := by
            cases hf : fitsI (n : Int) ef with
            | false => rfl
            | true => exact absurd (hb.2 (fitsI_iff.1 hf)) (by simp)
          simp only [h2, Bool.false_and] at h1
          rw [if_neg (by simp), List.append_nil] at h1
          unfold Hid
          rw [h1]
          exact O3.out
        clear NX O3 hb E3
        go_wp2
        go_roundw
        case rel => exact ⟨i + 1, k, c, a, by omega, by go_num, rfl, O5, X3⟩
        case measure => simp [intOf]; omega
      | true =>
        have hft : fitsI (n : Int) ef = true := fitsI_iff.2 (hb.1 rfl)
        by_cases hxs : xl = size
        · subst hxs
          have NX' : Hid (useQ n xl (es.take (i + 1)) = useQ n xl (es.take i) ++ [⟨.slice oa fl oc, .slice xa xl xc, ef, ex⟩]) := by
            have h1 := NX.out
            simp only [hft, Bool.true_and] at h1
            rw [if_pos (by simp)] at h1
            exact h1
          have OA : Hid (OwnE w.heap.size (w4.alloc (.cells #[.slice oa fl oc, .slice xa xl xc] 43)) (.slice a k c) k (useQ n xl (es.take i))) := O3.out.below (below_alloc _ _)
          have BA : Hid (Below w.heap.size w (w4.alloc (.cells #[.slice oa fl oc, .slice xa xl xc] 43))) := X3.out.alloc X3.out.size _
          clear NX O3 hb E3 HXL hxl
          go_wp2_with (at_builtin; refine wpList_addE _ rfl (.tmp 27) (.tmp 29) rfl w.heap.size (.slice a k c) k _ rfl OA.out _ 1 [(⟨.slice oa fl oc, .slice xa xl xc, ef, ex⟩ : Qe)] rfl one_src (by intro u hu; simp [Qe.cells] at hu; rcases hu with rfl | rfl <;> rfl) (by omega) BA.out.size ?_; intro a5 k5 w5 ho5 hg5)
          have O5 : Hid (OwnE w.heap.size w5 (.slice a5 (k + 1) k5) (k + 1) (useQ n xl (es.take (i + 1)))) := by rw [NX'.out]; exact ho5
          have B5 : Hid (Below w.heap.size w w5) := BA.out.grown hg5 BA.out.size (fun q hq => (OwnE.lt OA.out q hq).1)
          clear ho5 hg5 OA BA X3 NX'
          go_roundw
          case rel => exact ⟨i + 1, k + 1, k5, a5, by omega, by go_num, rfl, O5, B5⟩
          case measure => simp [intOf]; omega
        · have O5 : Hid (OwnE w.heap.size w4 (.slice a k c) k (useQ n size (es.take (i + 1)))) := by
            have h1 := NX.out
            simp only [hft, Bool.true_and] at h1
            rw [if_neg (by have h3 := HXL.out; simp; omega), List.append_nil] at h1
            unfold Hid
            rw [h1]
            exact O3.out
          have hxI : ((xl : Int) == (size : Int)) = false := by simp; omega
          clear NX O3 hb E3 HXL hxl
          go_wp2
          go_roundw
          case rel => exact ⟨i + 1, k, c, a, by omega, by go_num, rfl, O5, X3⟩
          case measure => simp [intOf]; omega
    · obtain rfl : m = i := by omega
      have eT : es.take m = es := List.take_of_length_le (by rw [HM.out]; exact Nat.le_refl _)
      rw [eT] at OO
      go_wp2
      go_ret
      exact ⟨a, k, c, rfl, OO, BB.out⟩

end Go.Proofs.Ytkckbeekehecnaa
