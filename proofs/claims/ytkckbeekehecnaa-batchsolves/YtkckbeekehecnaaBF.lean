/-
  batch: which equations don't hold.
-/
import Derived.Test.YtkckbeekehecnaaBE
namespace Go.Proofs.Ytkckbeekehecnaa
open Go.RowKit
set_option linter.unusedVariables false
set_option maxRecDepth 100000

/-- All values, by the numbers of their blocks. -/
def xsV (n : Nat) (K : List Int) (V : Int → List UInt8) : List (List UInt8) := (List.range n).map fun (i : Nat) => if (i : Int) ∈ K then V i else []
theorem xsV_at {n : Nat} {K : List Int} {V : Int → List UInt8} {i : Nat} (h : i < n) : (xsV n K V)[i]? = some (if (i : Int) ∈ K then V i else []) := by simp [xsV, h]
theorem xsV_length (n : Nat) (K : List Int) (V : Int → List UInt8) : (xsV n K V).length = n := by simp [xsV]
theorem Vs.parts {W : World} {bx vb n size : Nat} {us : List Value} {K : List Int} {V : Int → List UInt8} (h : Vs W bx vb n size us K V) : Parts W us (xsV n K V) := by
  refine ⟨by rw [h.len, xsV_length], fun i u x hu hx => ?_⟩
  have hi : i < n := by have h1 := (List.getElem?_eq_some_iff.1 hu).1; have h2 := h.len; omega
  rw [xsV_at hi] at hx
  have hx' := Option.some.inj hx
  subst hx'
  by_cases hk : (i : Int) ∈ K
  · rw [if_pos hk]
    obtain ⟨q, c, rfl, ho⟩ := h.kn i u hu hk
    exact ho.bs
  · rw [if_neg hk, h.un i u hu hk]
    exact ⟨rfl, none, 0, rfl, Nat.le_refl _, by simp [maxLen], fun _ => rfl, .inl rfl⟩
theorem pk_xsV {n : Nat} {K of : List Int} {V : Int → List UInt8} (hr : ∀ z ∈ of, 0 ≤ z ∧ z < (n : Int)) (hk : ∀ z ∈ of, z ∈ K) : pkD (xsV n K V) of = of.map V := by
  unfold pkD
  refine List.map_congr_left fun z hz => ?_
  obtain ⟨h0, h1⟩ := hr z hz
  obtain ⟨i, rfl⟩ : ∃ i : Nat, z = i := ⟨z.toNat, by omega⟩
  rw [Int.toNat_natCast, List.getD_eq_getElem?_getD, xsV_at (by omega), if_pos (hk _ hz)]
  rfl
/-- A closed equation holds. -/
theorem holds_xsV {n size : Nat} {K of : List Int} {V : Int → List UInt8} {va : List UInt8} (hr : ∀ z ∈ of, 0 ≤ z ∧ z < (n : Int)) (hk : ∀ z ∈ of, z ∈ K) (hv : ∀ z ∈ K, (V z).length = size) (hs : va.length = size) : HoldsP of va (xsV n K V) ↔ zeroB (xorAll va (of.map V)) = true := by
  unfold HoldsP
  rw [pk_xsV hr hk]
  refine ⟨fun h => h.2, fun h => ⟨fun z hz => ?_, h⟩⟩
  obtain ⟨h0, h1⟩ := hr z hz
  obtain ⟨i, rfl⟩ : ∃ i : Nat, z = i := ⟨z.toNat, by omega⟩
  refine ⟨i, V i, rfl, ?_, by rw [hv _ (hk _ hz), hs]⟩
  rw [xsV_at (by omega), if_pos (hk _ hz)]

/-- An equation is closed, and doesn't hold. -/
def FailP (n : Nat) (K : List Int) (V : Int → List UInt8) (e : Qe) : Prop := leftZ K e.of = [] ∧ ¬ HoldsP e.of e.va (xsV n K V)

set_option maxHeartbeats 2000000 in
theorem bfails_any (e : Qe) (kb bx vb n size : Nat) (us : List Value) (K : List Int) (V : Int → List UInt8) (w : World) (hq : QeP w e) (hck : w.cell? ⟨kb, 0, none⟩ = some (.func (.func 27) #[] #[.pointer (some ⟨bx, 0, none⟩)])) (hc : Vs w bx vb n size us K V) (hrg : ∀ z ∈ e.of, 0 ≤ z ∧ z < (n : Int)) (hnb : n ≤ 1000000) (hsz : e.va.length ≤ 1000000) (hm : e.of.length ≤ 1000000) :
    Calls Try.prog 33 #[.agg #[e.ov, e.vv], .pointer (some ⟨kb, 0, none⟩), .pointer (some ⟨bx, 0, none⟩)] w fun e' w' => TellsP (FailP n K V e) e' ∧ Below w.heap.size w w' := by
  obtain ⟨eo, ev, ef, ex⟩ := e
  obtain ⟨oa, oc, rfl, ho2, ho3⟩ := zs_shape (show Zs w eo ef from hq.1)
  obtain ⟨xa, xc, rfl, hx2, hx3⟩ := bs_shape (show Bs w ev ex from hq.2)
  have HQ : Hid (QeP w ⟨.slice oa ef.length oc, .slice xa ex.length xc, ef, ex⟩) := hq
  obtain ⟨fl, hfl⟩ : ∃ x, ef.length = x := ⟨_, rfl⟩
  obtain ⟨xl, hxl⟩ : ∃ x, ex.length = x := ⟨_, rfl⟩
  simp only [hfl, hxl] at HQ ho2 hx2 hsz hm hrg ⊢
  have HC : Hid (Vs w bx vb n size us K V) := hc
  have HRG : Hid (∀ z ∈ ef, 0 ≤ z ∧ z < (n : Int)) := hrg
  have E1 : Hid (EqB (w.alloc (.cells #[.slice oa fl oc, .slice xa xl xc] 43)) w.heap.size (.slice oa fl oc) (.slice xa xl xc)) := EqB.new _ _ _ _
  have X1 : Hid (Below w.heap.size w (w.alloc (.cells #[.slice oa fl oc, .slice xa xl xc] 43))) := below_alloc _ _
  have HEF : Hid (ef.length = fl) := hfl
  have HEX : Hid (ex.length = xl) := hxl
  have CK0 : Hid (w.cell? ⟨kb, 0, none⟩ = some (.func (.func 27) #[] #[.pointer (some ⟨bx, 0, none⟩)])) := hck
  clear hq hc hrg hfl hxl hck
  go_enter Try.func33, Try.ntmps33
  go_upto_region 1 with fail
  generalize w.alloc (.cells #[.slice oa fl oc, .slice xa xl xc] 43) = w1 at *
  obtain ⟨f0, f1⟩ := E1.out
  have fk := (X1.out.cell (cell_block_lt CK0.out)).trans CK0.out
  go_wp2_with fail
  refine (bleft_any (.slice oa fl oc) (.slice xa xl xc) ef bx vb n size us K V w1 (HQ.out.1.below X1.out) (HC.out.below X1.out) HRG.out hnb (by rw [HEF.out]; exact hm)).mono ?_
  rintro e' w2 ⟨a, m, c, rfl, ho, hb⟩
  have HLn : Hid ((leftZ K ef).length = m) := ho.len
  have X2 : Hid (Below w.heap.size w w2) := on_below X1.out hb
  have E2 : Hid (EqB w2 w.heap.size (.slice oa fl oc) (.slice xa xl xc)) := E1.out.below hb
  clear ho hb f0 f1 fk E1 X1
  obtain ⟨f0, f1⟩ := E2.out
  by_cases h0 : m = 0
  · subst h0
    have VR := HC.out.below X2.out
    have fb : w2.cell? ⟨bx, 0, none⟩ = some (.slice (some ⟨vb, 0, none⟩) n n) := by simp [World.cell?, VR.box]
    have QH := qholds_any (.slice oa fl oc) (.slice xa xl xc) (.slice (some ⟨vb, 0, none⟩) n n) ef ex us (xsV n K V) w2 (HQ.out.1.below X2.out) (HQ.out.2.below X2.out) (by rw [VR.len]; exact owned_sl VR.row) VR.parts (by rw [HEF.out]; omega) (by rw [HEX.out]; omega)
    have HL0 : Hid (leftZ K ef = []) := List.eq_nil_of_length_eq_zero HLn.out
    clear VR
    go_wp2_with fail
    refine QH.mono ?_
    rintro e' w3 ⟨⟨b, rfl, hbt⟩, hb⟩
    have X3 : Hid (Below w.heap.size w w3) := on_below X2.out hb
    have HBT : Hid (b = true ↔ HoldsP ef ex (xsV n K V)) := hbt
    clear hbt hb QH f0 f1 fb
    cases b with
    | false =>
      go_wp2
      go_ret
      refine ⟨tells_yes rfl ⟨HL0.out, fun h => ?_⟩, X3.out⟩
      have := HBT.out.2 h
      cases this
    | true =>
      go_wp2
      go_ret
      exact ⟨tells_no rfl (fun h => h.2 (HBT.out.1 (by first | rfl | trivial))), X3.out⟩
  · have h0I : ((m : Int) == 0) = false := by simp; omega
    go_wp2
    go_ret
    refine ⟨tells_no rfl (fun h => ?_), X2.out⟩
    have h1 := HLn.out
    have h2 : leftZ K ef = [] := h.1
    rw [h2] at h1
    simp at h1
    omega

set_option maxHeartbeats 2000000 in
/-- INDEXFUNC, at such a function. -/
theorem indexfn_any (P : Qe → Prop) (kb bx : Nat) (pv : Value) (es : List Qe) (w : World) (hp : Qs w pv es) (hm0 : es.length ≤ 100000)
    (HF0 : ∀ W, Below w.heap.size w W → ∀ e ∈ es, Calls Try.prog 33 #[.agg #[e.ov, e.vv], .pointer (some ⟨kb, 0, none⟩), .pointer (some ⟨bx, 0, none⟩)] W fun e' w' => TellsP (P e) e' ∧ Below W.heap.size W w') :
    Calls Try.prog 53 #[pv, .func (.func 33) #[] #[.pointer (some ⟨kb, 0, none⟩), .pointer (some ⟨bx, 0, none⟩)]] w fun e w' => ∃ r : Int, e = .returned (.int .i64 r) ∧ (-1 ≤ r ∧ r ≤ 1000000) ∧ (0 ≤ r ↔ ∃ e ∈ es, P e) ∧ Below w.heap.size w w' := by
  have HP : Hid (Qs w pv es) := hp
  have HF : Hid (∀ W, Below w.heap.size w W → ∀ e ∈ es, Calls Try.prog 33 #[.agg #[e.ov, e.vv], .pointer (some ⟨kb, 0, none⟩), .pointer (some ⟨bx, 0, none⟩)] W fun e' w' => TellsP (P e) e' ∧ Below W.heap.size W w') := HF0
  obtain ⟨ao, pc, rfl, hp2, hp3⟩ := hp.shape
  obtain ⟨m, hm⟩ : ∃ m, es.length = m := ⟨_, rfl⟩
  have HM : Hid (es.length = m) := hm
  rw [hm] at hp2 hm0 HP ⊢
  clear hp hm HF0
  go_enter Try.func53, Try.ntmps53
  go_wp2
  go_loopw [8] (fun iv wr => ∃ (i : Nat), i ≤ m ∧ iv = .int .i64 i ∧ Hid (∀ e ∈ es.take i, ¬ P e) ∧ Hid (Below w.heap.size w wr)) (fun iv _ => m - (intOf iv).toNat)
  case atStart => exact ⟨0, by omega, rfl, (by intro e he; simp at he), Below.refl _ _⟩
  case round =>
    obtain ⟨i, hi, rfl, NN, BB⟩ := hrel
    by_cases hlt : i < m
    · obtain ⟨e, he⟩ : ∃ e, es[i]? = some e := ⟨_, List.getElem?_eq_getElem (by rw [HM.out]; exact hlt)⟩
      have HP0 : Qs w (.slice ao m pc) es := HP.out
      have hmem := List.mem_of_getElem? he
      have HE : Hid (e ∈ es) := hmem
      have CF := HF.out wr BB.out e hmem
      obtain ⟨b0, off, rfl, g0, g1⟩ := Qs.at HP0 BB.out he
      have NX : Hid (¬ P e → ∀ x ∈ es.take (i + 1), ¬ P x) := fun hn x hx => by
        obtain ⟨b1, b2⟩ := List.getElem?_eq_some_iff.1 he
        rw [List.take_succ_eq_append_getElem b1, b2] at hx
        rcases List.mem_append.1 hx with h | h
        · exact NN.out x h
        · rw [List.mem_singleton.1 h]; exact hn
      clear HP0 hmem he NN
      go_wp2_with fail
      refine CF.mono ?_
      rintro e' w2 ⟨⟨b, rfl, hbt⟩, hb⟩
      have X2 : Hid (Below w.heap.size w w2) := on_below BB.out hb
      have HBT : Hid (b = true ↔ P e) := hbt
      clear hbt hb CF g0 g1
      cases b with
      | true =>
        go_wp2
        go_ret
        exact ⟨(i : Int), rfl, ⟨by omega, by omega⟩, ⟨fun _ => ⟨e, HE.out, HBT.out.1 (by first | rfl | trivial)⟩, fun _ => by omega⟩, X2.out⟩
      | false =>
        have N2 : Hid (∀ x ∈ es.take (i + 1), ¬ P x) := NX.out fun h => by have := HBT.out.2 h; cases this
        clear NX HBT BB
        go_wp2
        go_roundw
        case rel => exact ⟨i + 1, by omega, by go_num, N2, X2⟩
        case measure => simp [intOf]; omega
    · obtain rfl : m = i := by omega
      have eT : es.take m = es := List.take_of_length_le (by rw [HM.out]; exact Nat.le_refl _)
      rw [eT] at NN
      go_wp2
      go_ret
      exact ⟨-1, rfl, ⟨by omega, by omega⟩, ⟨fun h => by omega, fun ⟨e, he, hp⟩ => absurd hp (NN.out e he)⟩, BB.out⟩
/-- CONTAINSFUNC. -/
theorem containsfn_any (P : Qe → Prop) (kb bx : Nat) (pv : Value) (es : List Qe) (w : World) (hp : Qs w pv es) (hm0 : es.length ≤ 100000)
    (HF0 : ∀ W, Below w.heap.size w W → ∀ e ∈ es, Calls Try.prog 33 #[.agg #[e.ov, e.vv], .pointer (some ⟨kb, 0, none⟩), .pointer (some ⟨bx, 0, none⟩)] W fun e' w' => TellsP (P e) e' ∧ Below W.heap.size W w') :
    Calls Try.prog 36 #[pv, .func (.func 33) #[] #[.pointer (some ⟨kb, 0, none⟩), .pointer (some ⟨bx, 0, none⟩)]] w fun e w' => TellsP (∃ e ∈ es, P e) e ∧ Below w.heap.size w w' := by
  have CI := indexfn_any P kb bx pv es w hp hm0 HF0
  obtain ⟨ao, pc, rfl, -, -⟩ := hp.shape
  clear hp HF0
  go_enter Try.func36, Try.ntmps36
  go_wp2_with fail
  refine CI.mono ?_
  rintro e w2 ⟨r, rfl, ⟨hr1, hr2⟩, hr, hb⟩
  have HR : Hid (0 ≤ r ↔ ∃ e ∈ es, P e) := hr
  have HB : Hid (Below w.heap.size w w2) := hb
  clear hr hb CI
  by_cases h0 : 0 ≤ r
  · go_wp2
    go_ret
    exact ⟨tells_yes (by simp) (HR.out.1 h0), HB.out⟩
  · go_wp2
    go_ret
    exact ⟨tells_no (by simp; omega) (fun h => by have := HR.out.2 h; omega), HB.out⟩

end Go.Proofs.Ytkckbeekehecnaa
