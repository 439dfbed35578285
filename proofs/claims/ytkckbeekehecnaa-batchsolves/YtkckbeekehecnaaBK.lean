/-
  BatchTwice: its walk.
-/
import Derived.Test.YtkckbeekehecnaaBJ
import Derived.RegionTactic
import Derived.Deep.Light
namespace Go.Proofs.Ytkckbeekehecnaa
open Go.RowKit
set_option linter.unusedVariables false
set_option maxRecDepth 100000

/-- An equation that says a block's value. -/
def QeL (size : Nat) (W : World) (e : Qe) : Prop := ∃ (g : Nat) (z : Int), e.ov = .slice (some ⟨g, 0, none⟩) 1 1 ∧ e.of = [z] ∧ W.heap[g]? = some (.cells #[.int .i64 z] 3 (0, 0)) ∧ OwB 0 W e.vv size e.va
theorem QeL.below {size : Nat} {W W' : World} {e : Qe} (h : QeL size W e) (hb : Below W.heap.size W W') : QeL size W' e := by
  obtain ⟨g, z, h1, h2, h3, h4⟩ := h
  exact ⟨g, z, h1, h2, (hb.block g (Array.getElem?_eq_some_iff.1 h3).1).trans h3, h4.below hb⟩
theorem QeL.grown {size B n : Nat} {W W' : World} {v : Value} {l : List Qe} {e : Qe} (h : QeL size W e) (ho : OwnE B W v n l) (hg : W.grownBy W' v.ownBlock) : QeL size W' e := by
  obtain ⟨g, z, h1, h2, h3, h4⟩ := h
  refine ⟨g, z, h1, h2, (grown_kind ho hg h3 (by decide)).trans h3, h4.kept fun q hq => ?_⟩
  obtain ⟨cs, hc⟩ := owns_type' h4 q hq
  exact grown_kind ho hg hc (by decide)
theorem QeL.qep {size : Nat} {W : World} {e : Qe} (h : QeL size W e) : QeP W e := by
  obtain ⟨g, z, h1, h2, h3, h4⟩ := h
  refine ⟨?_, h4.bs⟩
  rw [h1, h2]
  refine ⟨rfl, _, _, rfl, Nat.le_refl _, by simp [maxLen], fun h => by simp at h, .inr ⟨g, 0, rfl, fun j u hj => ?_⟩⟩
  have hj1 : j < 1 := by have := (List.getElem?_eq_some_iff.1 hj).1; simpa using this
  match j, hj1 with
  | 0, _ => simp at hj; subst hj; simp [World.cell?, h3]

theorem flat_most1 {k : Nat} : ∀ {ls : List (List Int)}, (∀ l ∈ ls, l.length ≤ k) → ls.flatten.length ≤ ls.length * k
  | [], _ => by simp
  | l :: ls, h => by
    have h1 := flat_most1 (ls := ls) (fun x hx => h x (List.mem_cons_of_mem _ hx))
    have h2 := h l List.mem_cons_self
    rw [List.flatten_cons, List.length_append, List.length_cons, Nat.add_mul]
    omega
theorem useQ_append (n size : Nat) (a b : List Qe) : useQ n size (a ++ b) = useQ n size a ++ useQ n size b := List.filter_append ..
theorem twice_math {n size : Nat} {es L : List Qe} {K K' : List Int} {V V' : Int → List UInt8} (h : Found n size es K V) (hL : L.map pairQ = (kRise K n).map fun z => ([z], V z)) (hnc : ¬ ∃ e ∈ useQ n size es, FailP n K V e) (h' : Found n size (es ++ L) K' V') :
    (∀ x, x ∈ K ↔ x ∈ K') ∧ (¬ ∃ e ∈ useQ n size (es ++ L), FailP n K' V' e) ∧ ∀ x ∈ K, V' x = V x := by
  have hrg := h.rg
  have hLm : ∀ e ∈ L, ∃ z ∈ K, e.of = [z] ∧ e.va = V z := fun e he => by
    have h1 : pairQ e ∈ L.map pairQ := List.mem_map.2 ⟨e, he, rfl⟩
    rw [hL] at h1
    obtain ⟨z, hz, h2⟩ := List.mem_map.1 h1
    exact ⟨z, (kRise_mem hrg).1 hz, (congrArg Prod.fst h2).symm, (congrArg Prod.snd h2).symm⟩
  have hLu : useQ n size L = L := by
    unfold useQ
    refine List.filter_eq_self.2 fun e he => ?_
    obtain ⟨z, hz, h1, h2⟩ := hLm e he
    rw [Bool.and_eq_true, fitsI_iff, decide_eq_true_eq, h1, h2]
    exact ⟨⟨List.pairwise_singleton _ _, fun x hx => by rw [List.mem_singleton.1 hx]; exact hrg z hz⟩, h.len z hz⟩
  have hU : useQ n size (es ++ L) = useQ n size es ++ L := by rw [useQ_append, hLu]
  have hm := h.mem
  have hm' := h'.mem
  rw [hU, List.map_append] at hm'
  have hF : ∀ x, Fol ((useQ n size es).map Qe.of ++ L.map Qe.of) x ↔ x ∈ K := fun x => by
    constructor
    · intro hf
      refine hf (fun x => x ∈ K) fun l x hl hx ho => ?_
      rcases List.mem_append.1 hl with h1 | h1
      · exact (hm x).2 (Fol.step l x h1 hx fun y hy hne => (hm y).1 (ho y hy hne))
      · obtain ⟨e, he, rfl⟩ := List.mem_map.1 h1
        obtain ⟨z, hz, h2, -⟩ := hLm e he
        rw [h2] at hx
        rw [List.mem_singleton.1 hx]
        exact hz
    · intro hx
      exact Fol.mono (fun l hl => List.mem_append_left _ hl) ((hm x).1 hx)
  have hag : AgQ size ((useQ n size es).map pairQ) := by
    rw [h.fail] at hnc
    exact Classical.byContradiction fun hn => hnc hn
  obtain ⟨V0, hl0, hA0⟩ := hag.spec
  have hV0 := h.unique hl0 hA0
  have hA1 : ∀ p ∈ (useQ n size (es ++ L)).map pairQ, (∀ b ∈ p.1, Fol ((useQ n size (es ++ L)).map Qe.of) b) → zeroB (xorAll p.2 (p.1.map V0)) = true := fun p hp hc => by
    rw [hU, List.map_append] at hp hc
    rcases List.mem_append.1 hp with h1 | h1
    · exact hA0 p h1 fun b hb => (hm b).1 ((hF b).1 (hc b hb))
    · obtain ⟨e, he, rfl⟩ := List.mem_map.1 h1
      obtain ⟨z, hz, h2, h3⟩ := hLm e he
      show zeroB (xorAll e.va (e.of.map V0)) = true
      rw [h2, h3]
      show zeroB (xorL (V z) (V0 z)) = true
      rw [hV0 z hz, xorL_self]
      exact zeroB_zeros _
  refine ⟨fun x => by rw [hm' x, hF x], ?_, fun x hx => ?_⟩
  · rw [h'.fail]
    exact fun hn => hn ⟨V0, hl0, fun p hp hc => hA1 p hp (by rw [pairs_fst] at hc; exact hc)⟩
  · rw [h'.unique hl0 hA1 x ((hm' x).2 ((hF x).2 hx)), hV0 x hx]

set_option maxHeartbeats 4000000 in
theorem batchTwice_walk (A S : Int) (pv : Value) (vs : List Value) (ls : List (List Int)) (qv : Value) (us : List Value) (xs : List (List UInt8)) (w : World) (h : (Lit.int .u8 A).wf = true ∧ (Lit.int .u8 S).wf = true ∧ Sl 1 w pv vs.length vs ∧ LsZ w vs ls ∧ LzW ls ∧ Sl 1 w qv us.length us ∧ Parts w us xs) :
    Calls Try.prog 6 #[.agg #[.int .u8 A, .int .u8 S, pv, qv]] w fun e w' => e = .returned (.bool true) ∧ Below w.heap.size w w' := by
  obtain ⟨ha, hs, hp, hz, hw, hq, hx⟩ := h
  obtain ⟨hal, hau⟩ := bounds_u8 ha
  obtain ⟨hsl, hsu⟩ := bounds_u8 hs
  obtain ⟨A, rfl⟩ := Int.eq_ofNat_of_zero_le hal
  obtain ⟨S, rfl⟩ := Int.eq_ofNat_of_zero_le hsl
  obtain ⟨a, ea, ha40⟩ : ∃ a : Nat, ((A : Int) % 40 = (a : Int)) ∧ a < 40 := ⟨A % 40, by omega, by omega⟩
  obtain ⟨n, eS, hn6⟩ : ∃ n : Nat, ((S : Int) % 6 = (n : Int)) ∧ n < 6 := ⟨S % 6, by omega, by omega⟩
  have HZ : Hid (LsZ w vs ls) := hz
  have HW : Hid (LzW ls) := hw
  have HX : Hid (Parts w us xs) := hx
  have HP : Hid (Sl 1 w pv vs.length vs) := hp
  have HQ : Hid (Sl 1 w qv us.length us) := hq
  clear hp hz hw hq hx ha hs hal hsl
  go_enter Try.func6, Try.ntmps6
  go_wp2_with fail
  have B1 : Hid (XBox w.heap.size A S pv qv (w.alloc (.cells #[.int .u8 (A : Int), .int .u8 (S : Int), pv, qv] 25))) := XBox.new _ _ _ _ _
  have X1 : Hid (Below w.heap.size w (w.alloc (.cells #[.int .u8 (A : Int), .int .u8 (S : Int), pv, qv] 25))) := below_alloc _ _
  refine (speaks17_any _).mono ?_
  rintro e w2 ⟨rfl, hb⟩
  have X2 : Hid (Below w.heap.size w w2) := on_below X1.out hb
  have B2 : Hid (XBox w.heap.size A S pv qv w2) := XBox.below B1.out hb
  clear hb B1 X1
  obtain ⟨x0, x1, x2, x3⟩ := B2.out.cells
  go_wp2_with fail
  refine (big17_any pv vs ls w2 (HP.out.below X2.out) (HZ.out.below X2.out) HW.out).mono ?_
  rintro e w3 ⟨⟨b, rfl, hsm⟩, hw3⟩
  obtain rfl : w2 = w3 := hw3.symm
  clear hw3
  cases b with
  | true =>
    clear hsm
    go_wp2
    go_ret
    exact ⟨rfl, X2.out⟩
  | false =>
    have SM : Hid (Small17 ls) := hsm rfl
    have SM1 : Hid (ls.length + ls.flatten.length ≤ 300) := SM.out
    have VL : Hid (vs.length = ls.length) := HZ.out.1
    clear hsm
    go_upto_region 5 with fail
    go_quiet (fail)
    rw [ea, eS]
    have Y2 : Hid (Below w.heap.size w (w2.drewN nq)) := below_drewN X2.out nq
    have Z2 : Hid (XBox w.heap.size A S pv qv (w2.drewN nq)) := XBox.below B2.out (below_drewN (Below.refl _ _) nq)
    obtain ⟨w3, hw3⟩ : ∃ x, w2.drewN nq = x := ⟨_, rfl⟩
    rw [hw3] at Y2 Z2 ⊢
    clear hw3 x0 x1 x2 x3 X2 B2
    obtain ⟨x0, x1, x2, x3⟩ := Z2.out.cells
    go_wp2_with fail
    refine (kequations_any A S pv qv vs us ls xs n w3 (by omega) (by omega) (HP.out.below Y2.out) (HZ.out.below Y2.out) (HQ.out.below Y2.out) (HX.out.below Y2.out) (by have h1 := SM1.out; have h2 := VL.out; omega)).mono ?_
    rintro e w4 ⟨lv, uv, es, es2, rfl, hoe, hor, hq1, hq2, heq, hb4⟩
    have X4 : Hid (Below w.heap.size w w4) := on_below Y2.out hb4
    have B4 : Hid (XBox w.heap.size A S pv qv w4) := XBox.below Z2.out hb4
    have PR : Hid (es.map pairQ = es2.map pairQ) := heq.pr
    have OF : Hid (es.map Qe.of = ls) := by
      have h1 := heq.of
      rw [VL.out, List.take_length] at h1
      exact h1
    have OF2 : Hid (es2.map Qe.of = ls) := by unfold Hid; rw [← of_of_pair PR.out]; exact OF.out
    have OV2 : Hid (es2.map Qe.ov = vs) := by
      have h1 := heq.ov
      rw [List.take_length] at h1
      exact h1
    have L1 : Hid (es.length = vs.length) := heq.l1
    have L2 : Hid (es2.length = vs.length) := heq.l2
    have VA : Hid (∀ e ∈ es, e.va.length = n) := heq.va
    have QE : Hid (Qs w4 lv es) := OwnE.qs hoe (fun e he => (hq1 e he).qep hb4)
    have Q2 : Hid (∀ e ∈ es2, QeP w4 e) := fun e he => (hq2 e he).qep hb4
    have SU : Hid (Sl 1 w4 uv es2.length (es2.map Qe.vv)) := owned_sl hor
    have OE4 : Hid (OwnE w3.heap.size w4 lv es.length es) := hoe
    have QK4 : Hid (∀ e ∈ es, QeK w3.heap.size w3 w4 e) := hq1
    have B34 : Hid (Below w3.heap.size w3 w4) := hb4
    have OR4 : Hid (w4.ownsRow w3.heap.size 38 1 uv es2.length (es2.map Qe.vv)) := hor
    have QK24 : Hid (∀ e ∈ es2, QeK w3.heap.size w3 w4 e) := hq2
    have Y3 : Hid (Below w.heap.size w w3) := Y2.out
    have VE4 : Hid (vs.length = es.length) := heq.l1.symm
    have SP : Hid (Sl 1 w4 pv es2.length (es2.map Qe.ov)) := by unfold Hid; rw [L2.out, OV2.out]; exact HP.out.below X4.out
    have M4 : Hid (es2.length ≤ 300 ∧ es.length ≤ 300) := by have h1 := SM1.out; have h2 := VL.out; have h3 := L1.out; have h4 := L2.out; exact ⟨by omega, by omega⟩
    have F4 : Hid ((es2.map Qe.of).flatten.length ≤ 300 ∧ (es.map Qe.of).flatten.length ≤ 300) := by
      unfold Hid
      rw [OF2.out, OF.out]
      have h1 := SM1.out
      exact ⟨by omega, by omega⟩
    clear hoe hor hq1 hq2 heq hb4 x0 x1 x2 x3 Z2
    clear SU SP Q2 OR4 QK24
    go_wp2_with fail
    refine (solve_any a n lv es w4 QE.out (by have := M4.out.2; omega) (by have := F4.out.2; omega) (by omega) (by omega)).mono ?_
    rintro e w5 ⟨ka, km, kc, bx, vb, vus, K, V, cf, rfl, hko, hvs, hfd, hcf, hb5⟩
    have X5 : Hid (Below w.heap.size w w5) := on_below X4.out hb5
    have HFD : Hid (Found a n es K V) := hfd
    have HCF : Hid (cf = true ↔ ∃ e ∈ useQ a n es, FailP a K V e) := hcf
    have KO5 : Hid (OwnZ w4.heap.size w5 (.slice ka km kc) km (kRise K a)) := hko
    have V5 : Hid (Vs w5 bx vb a n vus K V) := hvs
    have B45 : Hid (Below w4.heap.size w4 w5) := hb5
    clear hko hvs hfd hcf hb5 B4 QE X4
    go_upto_region 8 with fail
    obtain ⟨w6, hw6⟩ : ∃ x, w5.alloc (.cells #[.slice ka km kc, .slice (some ⟨vb, 0, none⟩) a a, .bool cf] 33) = x := ⟨_, rfl⟩
    have Y56 : Below w5.heap.size w5 w6 := by rw [← hw6]; exact below_alloc _ _
    have R6 : Hid (RsB w6 w5.heap.size (.slice ka km kc) (.slice (some ⟨vb, 0, none⟩) a a) cf) := by rw [← hw6]; exact RsB.new _ _ _ _
    rw [hw6]
    obtain ⟨rb, hrb⟩ : ∃ x, w5.heap.size = x := ⟨_, rfl⟩
    rw [hrb] at R6 ⊢
    have X6 : Hid (Below w.heap.size w w6) := on_below X5.out Y56
    have B46 : Hid (Below w4.heap.size w4 w6) := on_below B45.out Y56
    have KO6 : Hid (OwnZ w4.heap.size w6 (.slice ka km kc) km (kRise K a)) := KO5.out.below Y56
    have V6 : Hid (Vs w6 bx vb a n vus K V) := V5.out.below Y56
    clear hw6 hrb Y56 X5 KO5 V5 B45
    obtain ⟨r0, r1, r2⟩ := R6.out.cells
    cases cf with
    | true =>
      go_wp2
      go_ret
      exact ⟨rfl, X6.out⟩
    | false =>
      have NF : Hid (¬ ∃ e ∈ useQ a n es, FailP a K V e) := fun h => by have := HCF.out.2 h; cases this
      obtain ⟨m, hm⟩ : ∃ m, es.length = m := ⟨_, rfl⟩
      have HM : Hid (es.length = m) := hm
      have OE6 : Hid (OwnE w3.heap.size w6 lv m es) := by
        have h1 := OwnE.below OE4.out B46.out
        rw [hm] at h1
        exact h1
      obtain ⟨la, lc, rfl⟩ : ∃ la lc, lv = .slice la m lc := by
        obtain ⟨a', c', h1, -, -⟩ := owned_slice OE6.out
        exact ⟨a', c', h1⟩
      have QK6 : Hid (∀ e ∈ es, QeK w3.heap.size w3 w6 e) := fun e he => (QK4.out e he).below B46.out
      have SZ6 : Hid (w3.heap.size ≤ w6.heap.size) := Nat.le_trans B34.out.size B46.out.size
      have Y36 : Hid (Below w3.heap.size w3 w6) := B34.out.trans (B46.out.mono B34.out.size)
      have KL : Hid ((kRise K a).length = km) := KO6.out.len
      have KA : km ≤ 40 := by have h1 := kRise_len K a; have h2 := KL.out; omega
      have HMm : m ≤ 300 := by have h1 := M4.out.2; have h2 := HM.out; omega
      clear HCF hm OE4 QK4 B34
      go_wp2
      clear r0 r1 r2
      go_loopw [5, 39] (fun lv iv wr => ∃ (i : Nat) (a' : Option Addr) (c' : Nat) (L : List Qe), i ≤ km ∧ iv = .int .i64 i ∧ lv = .slice a' (m + i) c' ∧ Hid (OwnE w3.heap.size wr (.slice a' (m + i) c') (m + i) (es ++ L)) ∧ Hid (∀ e ∈ es, QeK w3.heap.size w3 wr e) ∧ Hid (∀ e ∈ L, QeL n wr e) ∧ Hid (L.map pairQ = ((kRise K a).take i).map fun z => ([z], V z)) ∧ Hid (Below w3.heap.size w3 wr) ∧ Hid (RsB wr rb (.slice ka km kc) (.slice (some ⟨vb, 0, none⟩) a a) false ∧ Vs wr bx vb a n vus K V ∧ OwnZ w4.heap.size wr (.slice ka km kc) km (kRise K a))) (fun _ iv _ => km - (intOf iv).toNat)
      case atStart => exact ⟨0, la, lc, [], by omega, rfl, rfl, by rw [List.append_nil]; exact OE6.out, QK6.out, (by intro e he; cases he), rfl, Y36.out, R6.out, V6.out, KO6.out⟩
      case round =>
        clear OE6 QK6 R6 V6 KO6 Y36
        obtain ⟨i, a', c', L, hi, rfl, rfl, OO, QQ, LQ, LP, YY, RV⟩ := hrel
        by_cases hlt : i < km
        · obtain ⟨z, hz⟩ : ∃ z, (kRise K a)[i]? = some z := ⟨_, List.getElem?_eq_getElem (by rw [KL.out]; exact hlt)⟩
          have HZi : Hid ((kRise K a)[i]? = some z) := hz
          have hzK : z ∈ K := (kRise_mem HFD.out.rg).1 (List.mem_of_getElem? hz)
          obtain ⟨hz0, hz1⟩ := HFD.out.rg z hzK
          obtain ⟨iz, rfl⟩ : ∃ k : Nat, z = k := ⟨z.toNat, by omega⟩
          have hia : iz < a := by omega
          obtain ⟨b0, off, rfl, ci⟩ := zs_at RV.out.2.2.zs (Below.refl _ _) hz
          have VA : Hid (Vs (wr.alloc (.cells #[.int .i64 (iz : Int)] 3)) bx vb a n vus K V) := RV.out.2.1.below (below_alloc _ _)
          obtain ⟨u, hu, cu⟩ := VA.out.at hia
          obtain ⟨qv, cv, rfl, hbv⟩ := VA.out.kn iz u hu hzK
          obtain ⟨-, r1, -⟩ := (RV.out.1.below (below_alloc wr (.cells #[.int .i64 (iz : Int)] 3))).cells
          have EN : Hid (QeL n (wr.alloc (.cells #[.int .i64 (iz : Int)] 3)) ⟨.slice (some ⟨wr.heap.size, 0, none⟩) 1 1, .slice (some ⟨qv, 0, none⟩) n cv, [(iz : Int)], V iz⟩) := ⟨wr.heap.size, (iz : Int), rfl, rfl, heap_alloc_new _ _, hbv⟩
          obtain ⟨wa, hwa⟩ : ∃ x, wr.alloc (.cells #[.int .i64 (iz : Int)] 3) = x := ⟨_, rfl⟩
          have Yra : Below wr.heap.size wr wa := by rw [← hwa]; exact below_alloc _ _
          rw [hwa] at VA EN r1 cu
          have OA : Hid (OwnE w3.heap.size (wa.alloc (.cells #[.slice (some ⟨wr.heap.size, 0, none⟩) 1 1, .slice (some ⟨qv, 0, none⟩) n cv] 43)) (.slice a' (m + i) c') (m + i) (es ++ L)) := (OwnE.below OO.out Yra).below (below_alloc _ _)
          have QA : Hid (∀ e ∈ es, QeK w3.heap.size w3 (wa.alloc (.cells #[.slice (some ⟨wr.heap.size, 0, none⟩) 1 1, .slice (some ⟨qv, 0, none⟩) n cv] 43)) e) := fun e he => ((QQ.out e he).below Yra).below (below_alloc _ _)
          have LA : Hid (∀ e ∈ L, QeL n (wa.alloc (.cells #[.slice (some ⟨wr.heap.size, 0, none⟩) 1 1, .slice (some ⟨qv, 0, none⟩) n cv] 43)) e) := fun e he => ((LQ.out e he).below Yra).below (below_alloc _ _)
          have YA : Hid (Below w3.heap.size w3 (wa.alloc (.cells #[.slice (some ⟨wr.heap.size, 0, none⟩) 1 1, .slice (some ⟨qv, 0, none⟩) n cv] 43))) := on_below (on_below YY.out Yra) (below_alloc _ _)
          have RA := (RV.out.1.below Yra).below (below_alloc wa (.cells #[.slice (some ⟨wr.heap.size, 0, none⟩) 1 1, .slice (some ⟨qv, 0, none⟩) n cv] 43))
          have VA2 := VA.out.below (below_alloc wa (.cells #[.slice (some ⟨wr.heap.size, 0, none⟩) 1 1, .slice (some ⟨qv, 0, none⟩) n cv] 43))
          have KA2 := (RV.out.2.2.below Yra).below (below_alloc wa (.cells #[.slice (some ⟨wr.heap.size, 0, none⟩) 1 1, .slice (some ⟨qv, 0, none⟩) n cv] 43))
          have EA := EN.out.below (below_alloc wa (.cells #[.slice (some ⟨wr.heap.size, 0, none⟩) 1 1, .slice (some ⟨qv, 0, none⟩) n cv] 43))
          have REST : Hid (RsB (wa.alloc (.cells #[.slice (some ⟨wr.heap.size, 0, none⟩) 1 1, .slice (some ⟨qv, 0, none⟩) n cv] 43)) rb (.slice (some ⟨b0, off, none⟩) km kc) (.slice (some ⟨vb, 0, none⟩) a a) false ∧ Vs (wa.alloc (.cells #[.slice (some ⟨wr.heap.size, 0, none⟩) 1 1, .slice (some ⟨qv, 0, none⟩) n cv] 43)) bx vb a n vus K V ∧ OwnZ w4.heap.size (wa.alloc (.cells #[.slice (some ⟨wr.heap.size, 0, none⟩) 1 1, .slice (some ⟨qv, 0, none⟩) n cv] 43)) (.slice (some ⟨b0, off, none⟩) km kc) km (kRise K a) ∧ QeL n (wa.alloc (.cells #[.slice (some ⟨wr.heap.size, 0, none⟩) 1 1, .slice (some ⟨qv, 0, none⟩) n cv] 43)) ⟨.slice (some ⟨wr.heap.size, 0, none⟩) 1 1, .slice (some ⟨qv, 0, none⟩) n cv, [(iz : Int)], V iz⟩) := ⟨RA, VA2, KA2, EA⟩
          have LPN : Hid (∀ e : Qe, pairQ e = ([(iz : Int)], V iz) → (L ++ [e]).map pairQ = ((kRise K a).take (i + 1)).map fun z => ([z], V z)) := fun e he => by
            obtain ⟨b1, b2⟩ := List.getElem?_eq_some_iff.1 HZi.out
            rw [List.take_succ_eq_append_getElem b1, b2, List.map_append, List.map_append, LP.out, List.map_singleton, List.map_singleton, he]
          obtain ⟨gz, hgz⟩ : ∃ x, wr.heap.size = x := ⟨_, rfl⟩
          rw [hgz] at OA QA LA YA REST EN
          have hi9 : (m + i) + 1 ≤ 1000000000 := by omega
          clear hz hu hbv VA RA VA2 KA2 EA OO QQ LQ LP YY RV HZi hz0 hz1 hzK
          go_wp2_with (at_builtin; refine wpList_addE _ rfl (.tmp 43) (.tmp 52) rfl w3.heap.size (.slice a' (m + i) c') (m + i) _ rfl OA.out _ 1 [(⟨.slice (some ⟨gz, 0, none⟩) 1 1, .slice (some ⟨qv, 0, none⟩) n cv, [(iz : Int)], V iz⟩ : Qe)] rfl one_src (by intro u hu; simp [Qe.cells] at hu; rcases hu with rfl | rfl <;> rfl) hi9 YA.out.size ?_; intro a9 c9 w9 ho9 hg9)
          have O9 : Hid (OwnE w3.heap.size w9 (.slice a9 (m + (i + 1)) c9) (m + (i + 1)) (es ++ (L ++ [⟨.slice (some ⟨gz, 0, none⟩) 1 1, .slice (some ⟨qv, 0, none⟩) n cv, [(iz : Int)], V iz⟩]))) := by
            unfold Hid
            rw [← List.append_assoc]
            exact ho9
          have Q9 : Hid (∀ e ∈ es, QeK w3.heap.size w3 w9 e) := fun e he => (QA.out e he).grown OA.out hg9 (by decide)
          have L9 : Hid (∀ e ∈ L ++ [⟨.slice (some ⟨gz, 0, none⟩) 1 1, .slice (some ⟨qv, 0, none⟩) n cv, [(iz : Int)], V iz⟩], QeL n w9 e) := fun e he => by
            rcases List.mem_append.1 he with h1 | h1
            · exact (LA.out e h1).grown OA.out hg9
            · rw [List.mem_singleton.1 h1]
              exact REST.out.2.2.2.grown OA.out hg9
          have P9 : Hid ((L ++ [(⟨.slice (some ⟨gz, 0, none⟩) 1 1, .slice (some ⟨qv, 0, none⟩) n cv, [(iz : Int)], V iz⟩ : Qe)]).map pairQ = ((kRise K a).take (i + 1)).map fun z => ([z], V z)) := LPN.out _ rfl
          have Y9 : Hid (Below w3.heap.size w3 w9) := YA.out.grown hg9 YA.out.size (fun k hk => (OwnE.lt OA.out k hk).1)
          have RV9 : Hid (RsB w9 rb (.slice (some ⟨b0, off, none⟩) km kc) (.slice (some ⟨vb, 0, none⟩) a a) false ∧ Vs w9 bx vb a n vus K V ∧ OwnZ w4.heap.size w9 (.slice (some ⟨b0, off, none⟩) km kc) km (kRise K a)) := by
            obtain ⟨t1, t2, t3, -⟩ := REST.out
            refine ⟨(grown_kind OA.out hg9 t1 (by decide)).trans t1, t2.keptK fun q cs t ht hq => (grown_kind OA.out hg9 hq (by rcases ht with rfl | rfl | rfl <;> decide)).trans hq, t3.kept fun q hq => ?_⟩
            obtain ⟨cs, hc⟩ := t3.kind hq
            exact grown_kind OA.out hg9 hc (by decide)
          clear ho9 hg9 OA QA LA YA REST EN LPN hwa hgz Yra ci cu r1
          go_roundw
          case rel => exact ⟨i + 1, a9, c9, _, by omega, by go_num, rfl, O9, Q9, L9, P9, Y9, RV9⟩
          case measure => simp [intOf]; omega
        · obtain rfl : km = i := by omega
          have LP2 : Hid (L.map pairQ = (kRise K a).map fun z => ([z], V z)) := by
            have h1 := LP.out
            rw [List.take_of_length_le (by rw [KL.out]; exact Nat.le_refl _)] at h1
            exact h1
          have LL : Hid (L.length = km) := by
            have h1 := congrArg List.length LP2.out
            rw [List.length_map, List.length_map, KL.out] at h1
            exact h1
          have QS : Hid (Qs wr (.slice a' (m + km) c') (es ++ L)) := OwnE.qs OO.out (fun e he => by
            rcases List.mem_append.1 he with h1 | h1
            · exact (QQ.out e h1).qep YY.out
            · exact (LQ.out e h1).qep)
          have FL : Hid (((es ++ L).map Qe.of).flatten.length ≤ 400) := by
            unfold Hid
            rw [List.map_append, List.flatten_append, List.length_append]
            have h1 := F4.out.2
            have h2 : (L.map Qe.of).flatten.length ≤ (L.map Qe.of).length * 1 := flat_most1 (fun l hl => by
              obtain ⟨e, he, rfl⟩ := List.mem_map.1 hl
              obtain ⟨g, z, -, h3, -⟩ := LQ.out e he
              rw [h3]
              exact Nat.le_refl _)
            rw [List.length_map, LL.out] at h2
            omega
          have XW : Hid (Below w.heap.size w wr) := on_below Y3.out YY.out
          have ML : Hid ((es ++ L).length ≤ 1000) := by unfold Hid; rw [List.length_append, LL.out, HM.out]; omega
          clear OO QQ LQ LP F4
          go_wp2_with fail
          refine (solve_any a n _ (es ++ L) wr QS.out ML.out (by have := FL.out; omega) (by omega) (by omega)).mono ?_
          rintro e w7 ⟨ka2, km2, kc2, bx2, vb2, vus2, K2, V2, cf2, rfl, hko, hvs, hfd, hcf, hb7⟩
          obtain ⟨tm1, tm2, tm3⟩ := twice_math HFD.out LP2.out NF.out hfd
          have ecf : cf2 = false := by
            cases cf2 with
            | false => rfl
            | true => exact absurd (hcf.1 rfl) tm2
          subst ecf
          have ekr : kRise K2 a = kRise K a := kRise_ext hfd.rg HFD.out.rg fun x => (tm1 x).symm
          rw [ekr] at hko
          have ekm : km2 = km := by have h1 := hko.len; have h2 := KL.out; omega
          subst ekm
          have TV : Hid (∀ x ∈ K, V2 x = V x) := tm3
          have TK : Hid (∀ x, x ∈ K ↔ x ∈ K2) := tm1
          have KO7 : Hid (Zs w7 (.slice ka2 km2 kc2) (kRise K a)) := hko.zs
          have V72 : Hid (Vs w7 bx2 vb2 a n vus2 K2 V2) := hvs
          have KO71 : Hid (Zs w7 (.slice ka km2 kc) (kRise K a)) := (RV.out.2.2.below hb7).zs
          have V71 : Hid (Vs w7 bx vb a n vus K V) := RV.out.2.1.below hb7
          have R71 : Hid (RsB w7 rb (.slice ka km2 kc) (.slice (some ⟨vb, 0, none⟩) a a) false) := RV.out.1.below hb7
          have X7 : Hid (Below w.heap.size w w7) := on_below XW.out hb7
          clear hko hvs hfd hcf hb7 tm1 tm2 tm3 ekr RV XW YY QS FL ML LL LP2
          go_upto_region 16 with fail
          obtain ⟨w8, hw8⟩ : ∃ x, w7.alloc (.cells #[.slice ka2 km2 kc2, .slice (some ⟨vb2, 0, none⟩) a a, .bool false] 33) = x := ⟨_, rfl⟩
          have Y78 : Below w7.heap.size w7 w8 := by rw [← hw8]; exact below_alloc _ _
          have R82 : Hid (RsB w8 w7.heap.size (.slice ka2 km2 kc2) (.slice (some ⟨vb2, 0, none⟩) a a) false) := by rw [← hw8]; exact RsB.new _ _ _ _
          rw [hw8]
          obtain ⟨rb2, hrb2⟩ : ∃ x, w7.heap.size = x := ⟨_, rfl⟩
          rw [hrb2] at R82 ⊢
          have R81 := R71.out.below Y78
          have KO8 : Hid (Zs w8 (.slice ka2 km2 kc2) (kRise K a)) := KO7.out.below Y78
          have KO81 : Hid (Zs w8 (.slice ka km2 kc) (kRise K a)) := KO71.out.below Y78
          have V82 : Hid (Vs w8 bx2 vb2 a n vus2 K2 V2) := V72.out.below Y78
          have V81 : Hid (Vs w8 bx vb a n vus K V) := V71.out.below Y78
          have X8 : Hid (Below w.heap.size w w8) := on_below X7.out Y78
          have R81' : Hid (RsB w8 rb (.slice ka km2 kc) (.slice (some ⟨vb, 0, none⟩) a a) false) := R81
          obtain ⟨r0, r1, r2⟩ := R81.cells
          obtain ⟨s0, s1, s2⟩ := R82.out.cells
          clear hw8 hrb2 R71 KO7 KO71 V72 V71 X7 R81
          go_wp2_with fail
          refine (same9_any _ _ (kRise K a) (kRise K a) w8 KO81.out KO8.out).mono ?_
          rintro e w9 ⟨rfl, hb9⟩
          rw [sameI_self]
          have R91 : Hid (RsB w9 rb (.slice ka km2 kc) (.slice (some ⟨vb, 0, none⟩) a a) false) := R81'.out.below hb9
          have R92 : Hid (RsB w9 rb2 (.slice ka2 km2 kc2) (.slice (some ⟨vb2, 0, none⟩) a a) false) := R82.out.below hb9
          have V92 : Hid (Vs w9 bx2 vb2 a n vus2 K2 V2) := V82.out.below hb9
          have V91 : Hid (Vs w9 bx vb a n vus K V) := V81.out.below hb9
          have X9 : Hid (Below w.heap.size w w9) := on_below X8.out hb9
          clear hb9 r0 r1 r2 s0 s1 s2 R81' R82 V82 V81 X8 KO8 KO81
          obtain ⟨r0, r1, r2⟩ := R91.out.cells
          obtain ⟨s0, s1, s2⟩ := R92.out.cells
          go_wp2
          clear r0 r1 r2 s0 s1 s2
          go_loopw [81] (fun iv wr => ∃ (i : Nat), i ≤ a ∧ iv = .int .i64 i ∧ Hid (Below w9.heap.size w9 wr)) (fun iv _ => a - (intOf iv).toNat)
          case atStart => exact ⟨0, by omega, rfl, Below.refl _ _⟩
          case round =>
            obtain ⟨i, hi, rfl, BB⟩ := hrel
            by_cases hlt2 : i < a
            · have hltI : (i : Int) < (a : Int) := by omega
              obtain ⟨u1, hu1, cu1⟩ := (V91.out.below BB.out).at hlt2
              obtain ⟨u2, hu2, cu2⟩ := (V92.out.below BB.out).at hlt2
              obtain ⟨X, hB1, hB2⟩ : ∃ X, Bs w9 u1 X ∧ Bs w9 u2 X := by
                refine ⟨if (i : Int) ∈ K then V i else [], V91.out.parts.2 i u1 _ hu1 (xsV_at hlt2), ?_⟩
                have h1 := V92.out.parts.2 i u2 _ hu2 (xsV_at hlt2)
                by_cases hk : (i : Int) ∈ K
                · rw [if_pos ((TK.out i).1 hk), TV.out i hk] at h1
                  rw [if_pos hk]
                  exact h1
                · rw [if_neg (fun h => hk ((TK.out i).2 h))] at h1
                  rw [if_neg hk]
                  exact h1
              obtain ⟨a1, c1, rfl, -, -⟩ := bs_shape hB1
              obtain ⟨a2, c2, rfl, -, -⟩ := bs_shape hB2
              have k1 := fun n => conv_bytes (hB1.below (below_drewN BB.out n))
              have k2 := fun n => conv_bytes (hB2.below (below_drewN BB.out n))
              have k1' := conv_bytes (hB1.below BB.out)
              have k2' := conv_bytes (hB2.below BB.out)
              obtain ⟨r0, r1, r2⟩ := (R91.out.below BB.out).cells
              obtain ⟨s0, s1, s2⟩ := (R92.out.below BB.out).cells
              have hst := str_toList
              clear hB1 hB2 hu1 hu2
              go_upto_region 21 with fail
              go_quiet (fail)
              have HN : Hid (Below w9.heap.size w9 (wr.drewN nq)) := below_drewN BB.out nq
              clear r0 r1 r2 s0 s1 s2 cu1 cu2
              go_wp2
              go_roundw
              case rel => exact ⟨i + 1, by omega, by go_num, HN⟩
              case measure => simp [intOf]; omega
            · obtain rfl : a = i := by omega
              have XE := on_below X9.out BB.out
              go_wp2
              go_ret
              exact ⟨rfl, XE⟩

end Go.Proofs.Ytkckbeekehecnaa
