/-
  ClosureAgrees: opening its struct, and its walk.
-/
import Derived.Test.YtpffbfagabelfaaKY
import Derived.Test.YtpffbfagabelfaaZQ
import Derived.BigQuiet
namespace Go.Proofs.Ytpffbfagabelfaa
open Go.RowKit Go.ChangeShapes Go.WideShapes Go.ChangeAt
set_option linter.unusedVariables false
set_option maxRecDepth 100000

section
variable {w : World} {base : Nat} {spare : Nat → Bool} {held : Bool} {H : Type} {enc : TypeId × Value → H}
theorem open_eqsT {b0 : Nat} {v : Value} {d : DataW H} {p : List MemPlace} (hv : Value.okWide Try.prog w .any b0 37 v) (h : ∃ fuel, DataW.trod enc Try.prog w base spare held fuel 37 v.cells.toList = some (d, p)) (hw : WtOk 37 d) :
    ∃ (A S : Int) (pv : Value) (vs : List Value) (ls : List (List Int)) (qv : Value) (us : List Value) (xs : List (List UInt8)), v = .agg #[.int .u8 A, .int .u8 S, pv, qv] ∧ (Lit.int .u8 A).wf = true ∧ (Lit.int .u8 S).wf = true ∧ Sl 1 w pv vs.length vs ∧ LsZ w vs ls ∧ LzW ls ∧ Sl 1 w qv us.length us ∧ Parts w us xs := by
  obtain ⟨cs, rfl, hsz⟩ := okWide_struct Try.underlying37 hv
  obtain ⟨fuel, hf⟩ := h
  have h4 : cs.toList.length = 4 := by rw [Array.length_toList, hsz]; kernel_rfl
  simp only [Value.cells] at hf
  match hc : cs.toList, h4 with
  | [c0, c1, c2, c3], _ =>
    rw [hc] at hf
    obtain ⟨xs, n, _, hx, hl, hlen, hg⟩ := DataW.trod_struct Try.underlying37 hf
    injection hx with hx _
    subst hx
    match xs, hlen with
    | [(y0, p0), (y1, p1), (y2, p2), (y3, p3)], _ =>
      have w2 : WtOk 22 y2 := wt_struct Try.underlying37 hw (i := 2) rfl rfl
      have u0 : DataW.trod enc Try.prog w base spare held n 5 [c0] = some (y0, p0) := by have h1 := hg 0 _ rfl; simpa [show Try.prog.cellsOf 5 = 1 from by kernel_rfl] using h1
      have u1 : DataW.trod enc Try.prog w base spare held n 5 [c1] = some (y1, p1) := by have h1 := hg 1 _ rfl; simpa [show Try.prog.cellsOf 5 = 1 from by kernel_rfl] using h1
      have u2 : DataW.trod enc Try.prog w base spare held n 22 [c2] = some (y2, p2) := by have h1 := hg 2 _ rfl; simpa [show Try.prog.cellsOf 22 = 1 from by kernel_rfl] using h1
      have u3 : DataW.trod enc Try.prog w base spare held n 35 [c3] = some (y3, p3) := by have h1 := hg 3 _ rfl; simpa [show Try.prog.cellsOf 35 = 1 from by kernel_rfl] using h1
      obtain ⟨A, e0, f0⟩ := one_int Try.underlying5 u0
      obtain ⟨S, e1, f1⟩ := one_int Try.underlying5 u1
      obtain ⟨vs, ls, g1, g2, g3⟩ := lists_of_trodW u2 w2
      obtain ⟨us, ys, g4, g5⟩ := parts_of_trod Try.underlying35 Try.underlying45 Try.underlying5 (by kernel_rfl) (by kernel_rfl) u3
      refine ⟨A, S, c2, vs, ls, c3, us, ys, ?_, f0, f1, g1, g2, g3, g4, g5⟩
      rw [e0, e1] at hc
      congr 1
      exact Array.toList_inj.1 hc
end

theorem fitQ_pair {all : Int} {es es2 : List Qe} (h : es.map pairQ = es2.map pairQ) : (fitQ all es).map pairQ = (fitQ all es2).map pairQ := by
  unfold fitQ
  have e : ∀ l : List Qe, (l.filter fun e => fitsI all e.of).map pairQ = (l.map pairQ).filter fun p => fitsI all p.1 := by
    intro l
    induction l with
    | nil => rfl
    | cons a l ih =>
      have e1 : (pairQ a).1 = a.of := rfl
      rw [List.filter_cons, List.map_cons, List.filter_cons, e1]
      split
      · rw [List.map_cons, ih]
      · exact ih
  rw [e, e, h]
theorem va_of_pair {n : Nat} {es es2 : List Qe} (h : es.map pairQ = es2.map pairQ) (hv : ∀ e ∈ es, e.va.length = n) : ∀ e ∈ es2, e.va.length = n := by
  intro e he
  have h1 : pairQ e ∈ es.map pairQ := by rw [h]; exact List.mem_map.2 ⟨e, he, rfl⟩
  obtain ⟨e', he', h2⟩ := List.mem_map.1 h1
  have h3 : e.va = e'.va := (congrArg Prod.snd h2).symm
  rw [h3]
  exact hv e' he'
theorem of_of_pair {es es2 : List Qe} (h : es.map pairQ = es2.map pairQ) : es.map Qe.of = es2.map Qe.of := by
  have e : ∀ l : List Qe, l.map Qe.of = (l.map pairQ).map Prod.fst := fun l => by rw [List.map_map]; rfl
  rw [e, e, h]

set_option maxHeartbeats 4000000 in
theorem closureAgrees_walk (A S : Int) (pv : Value) (vs : List Value) (ls : List (List Int)) (qv : Value) (us : List Value) (xs : List (List UInt8)) (w : World) (h : (Lit.int .u8 A).wf = true ∧ (Lit.int .u8 S).wf = true ∧ Sl 1 w pv vs.length vs ∧ LsZ w vs ls ∧ LzW ls ∧ Sl 1 w qv us.length us ∧ Parts w us xs) :
    Calls Try.prog 5 #[.agg #[.int .u8 A, .int .u8 S, pv, qv]] w fun e w' => e = .returned (.bool true) ∧ Below w.heap.size w w' := by
  obtain ⟨ha, hs, hp, hz, hw, hq, hx⟩ := h
  obtain ⟨hal, hau⟩ := bounds_u8 ha
  obtain ⟨hsl, hsu⟩ := bounds_u8 hs
  obtain ⟨A, rfl⟩ := Int.eq_ofNat_of_zero_le hal
  obtain ⟨S, rfl⟩ := Int.eq_ofNat_of_zero_le hsl
  obtain ⟨a, ea, ha40⟩ : ∃ a : Nat, ((A : Int) % 40 = (a : Int)) ∧ a < 40 := ⟨A % 40, by omega, by omega⟩
  obtain ⟨n, eS, hn6⟩ : ∃ n : Nat, ((S : Int) % 6 = (n : Int)) ∧ n < 6 := ⟨S % 6, by omega, by omega⟩
  have HZ : Hid (LsZ w vs ls) := hz
  have HW : Hid (LzW ls) := hw
  have HX : Hid (Parts w us xs) := hx
  have HP : Hid (Sl 1 w pv vs.length vs) := hp
  have HQ : Hid (Sl 1 w qv us.length us) := hq
  clear hp hz hw hq hx ha hs hal hsl
  go_enter Try.func5, Try.ntmps5
  go_wp2_with fail
  have B1 : Hid (XBox w.heap.size A S pv qv (w.alloc (.cells #[.int .u8 (A : Int), .int .u8 (S : Int), pv, qv] 37))) := XBox.new _ _ _ _ _
  have X1 : Hid (Below w.heap.size w (w.alloc (.cells #[.int .u8 (A : Int), .int .u8 (S : Int), pv, qv] 37))) := below_alloc _ _
  refine (speaks16_any _).mono ?_
  rintro e w2 ⟨rfl, hb⟩
  have X2 : Hid (Below w.heap.size w w2) := on_below X1.out hb
  have B2 : Hid (XBox w.heap.size A S pv qv w2) := XBox.below B1.out hb
  clear hb B1 X1
  obtain ⟨x0, x1, x2, x3⟩ := B2.out.cells
  go_wp2_with fail
  refine (big16_any pv vs ls w2 (HP.out.below X2.out) (HZ.out.below X2.out) HW.out).mono ?_
  rintro e w3 ⟨⟨b, rfl, hsm⟩, hw3⟩
  obtain rfl : w2 = w3 := hw3.symm
  clear hw3
  cases b with
  | true =>
    clear hsm
    go_wp2
    go_ret
    exact ⟨rfl, X2.out⟩
  | false =>
    have SM : Hid (SmallE ls) := hsm rfl
    have SM1 : Hid (ls.length + ls.flatten.length ≤ 400) := SM.out
    have VL : Hid (vs.length = ls.length) := HZ.out.1
    clear hsm
    go_upto_region 5 with fail
    go_quiet (fail)
    rw [ea, eS]
    have Y2 : Hid (Below w.heap.size w (w2.drewN nq)) := below_drewN X2.out nq
    have Z2 : Hid (XBox w.heap.size A S pv qv (w2.drewN nq)) := XBox.below B2.out (below_drewN (Below.refl _ _) nq)
    obtain ⟨w3, hw3⟩ : ∃ x, w2.drewN nq = x := ⟨_, rfl⟩
    rw [hw3] at Y2 Z2 ⊢
    clear hw3 x0 x1 x2 x3 X2 B2
    obtain ⟨x0, x1, x2, x3⟩ := Z2.out.cells
    go_wp2_with fail
    refine (kequations_any A S pv qv vs us ls xs n w3 (by omega) (by omega) (HP.out.below Y2.out) (HZ.out.below Y2.out) (HQ.out.below Y2.out) (HX.out.below Y2.out) (by have h1 := SM1.out; have h2 := VL.out; omega)).mono ?_
    rintro e w4 ⟨lv, uv, es, es2, rfl, hoe, hor, hq1, hq2, heq, hb4⟩
    have X4 : Hid (Below w.heap.size w w4) := on_below Y2.out hb4
    have B4 : Hid (XBox w.heap.size A S pv qv w4) := XBox.below Z2.out hb4
    have PR : Hid (es.map pairQ = es2.map pairQ) := heq.pr
    have OF : Hid (es.map Qe.of = ls) := by
      have h1 := heq.of
      rw [VL.out, List.take_length] at h1
      exact h1
    have OF2 : Hid (es2.map Qe.of = ls) := by unfold Hid; rw [← of_of_pair PR.out]; exact OF.out
    have OV2 : Hid (es2.map Qe.ov = vs) := by
      have h1 := heq.ov
      rw [List.take_length] at h1
      exact h1
    have L1 : Hid (es.length = vs.length) := heq.l1
    have L2 : Hid (es2.length = vs.length) := heq.l2
    have VA : Hid (∀ e ∈ es, e.va.length = n) := heq.va
    have QE : Hid (Qs w4 lv es) := OwnE.qs hoe (fun e he => (hq1 e he).qep hb4)
    have Q2 : Hid (∀ e ∈ es2, QeP w4 e) := fun e he => (hq2 e he).qep hb4
    have SU : Hid (Sl 1 w4 uv es2.length (es2.map Qe.vv)) := owned_sl hor
    have SP : Hid (Sl 1 w4 pv es2.length (es2.map Qe.ov)) := by unfold Hid; rw [L2.out, OV2.out]; exact HP.out.below X4.out
    have M4 : Hid (es2.length ≤ 400 ∧ es.length ≤ 400) := by have h1 := SM1.out; have h2 := VL.out; have h3 := L1.out; have h4 := L2.out; exact ⟨by omega, by omega⟩
    have F4 : Hid ((es2.map Qe.of).flatten.length ≤ 400 ∧ (es.map Qe.of).flatten.length ≤ 400) := by
      unfold Hid
      rw [OF2.out, OF.out]
      have h1 := SM1.out
      exact ⟨by omega, by omega⟩
    clear hoe hor hq1 hq2 heq hb4 x0 x1 x2 x3 Z2
    obtain ⟨x0, x1, x2, x3⟩ := B4.out.cells
    go_wp2_with fail
    refine (rsolve_any a n pv uv es2 w4 SP.out SU.out Q2.out (va_of_pair PR.out VA.out) (by have := M4.out.1; omega) (by have := F4.out.1; omega) (by omega) (by omega)).mono ?_
    rintro e w5 ⟨v1, v2, b1, rfl, hb1, hb5⟩
    have X5 : Hid (Below w.heap.size w w5) := on_below X4.out hb5
    have QE5 : Hid (Qs w5 lv es) := QE.out.below hb5
    have T1 : Hid (b1 = true ↔ AgQ n ((fitQ (a : Int) es).map pairQ)) := by unfold Hid; rw [fitQ_pair PR.out]; exact hb1
    clear hb1 hb5 x0 x1 x2 x3 B4 X4 QE Q2 SU SP
    go_wp2_with fail
    refine (agrees_any (a : Int) n lv es w5 QE5.out (by have := M4.out.2; omega) (by have := F4.out.2; omega) (by omega) VA.out (by omega)).mono ?_
    rintro e w6 ⟨⟨b2, rfl, hb2⟩, hb6⟩
    obtain rfl : b1 = b2 := by rw [Bool.eq_iff_iff, T1.out, hb2]
    have X6 : Hid (Below w.heap.size w w6) := on_below X5.out hb6
    clear hb2 hb6 X5 QE5 T1
    go_wp2
    go_ret
    exact ⟨by simp, X6.out⟩

end Go.Proofs.Ytpffbfagabelfaa
