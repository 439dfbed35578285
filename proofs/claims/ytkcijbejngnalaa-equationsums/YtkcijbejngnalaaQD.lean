/-
  equation: Holds where a block isn't there, or isn't as long; Same.
-/
import Derived.Test.YtkcijbejngnalaaQC
import Derived.Test.YtkcijbejngnalaaCoC
namespace Go.Proofs.Ytkcijbejngnalaa
open Go.RowKit
set_option linter.unusedVariables false

set_option maxRecDepth 100000 in
set_option maxHeartbeats 1000000 in
/-- HOLDS where a block isn't there, or isn't as long. -/
theorem qholds_no (ov vv pv : Value) (of : List Int) (v : List UInt8) (vs : List Value) (ls : List (List UInt8)) (w : World) (hz : Zs w ov of) (hv : Bs w vv v) (hp : Sl 1 w pv vs.length vs) (hps : Parts w vs ls) (hm : of.length ≤ 1000000000) (hn : v.length ≤ 1000000000) (hok : ¬ OkOf v.length ls of) :
    Calls Try.prog 29 #[.agg #[ov, vv], pv] w fun e w' => e = .returned (.bool false) ∧ Below w.heap.size w w' := by
  obtain ⟨J, hJ, hJ1, hJ2⟩ := first_bad hok
  have HZ : Hid (Zs w ov of) := hz
  have HV : Hid (Bs w vv v) := hv
  have HP : Hid (Sl 1 w pv vs.length vs) := hp
  have HPS : Hid (Parts w vs ls) := hps
  have HK : Hid (OkOf v.length ls (of.take J)) := hJ1
  obtain ⟨bo, oc, rfl, ho2, ho3⟩ := zs_shape hz
  obtain ⟨va, vc, rfl, hv2, hv3⟩ := bs_shape hv
  obtain ⟨-, ao, pc, rfl, hp2, hp3, -, -⟩ := hp
  unfold maxLen at hp3
  obtain ⟨M, hM⟩ : ∃ M, vs.length = M := ⟨_, rfl⟩
  obtain ⟨m, hm'⟩ : ∃ m, of.length = m := ⟨_, rfl⟩
  obtain ⟨n, hn'⟩ : ∃ n, v.length = n := ⟨_, rfl⟩
  have HM : Hid (vs.length = M) := hM
  have Hm : Hid (of.length = m) := hm'
  have Hn : Hid (v.length = n) := hn'
  have HL : Hid (ls.length = M) := by have := hps.1; unfold Hid; omega
  rw [hn'] at HK hJ2
  have HB : Hid (¬ OkAt n ls of[J]) := hJ2
  have PT : Hid (∀ (j : Nat), j < M → ∀ W, Below w.heap.size w W → ∃ (x : List UInt8) (b off : Nat) (xa : Option Addr) (xc : Nat), ls[j]? = some x ∧ ao = some ⟨b, off, none⟩ ∧ W.cell? ⟨b, off + j, none⟩ = some (.slice xa x.length xc) ∧ xc ≤ 9223372036854775807 ∧ x.length ≤ xc) := by
    intro j hjM W hW
    have hjv : j < vs.length := by rw [HM.out]; exact hjM
    have hjl : j < ls.length := by rw [HL.out]; exact hjM
    have h1 := HPS.out.2 j _ _ (List.getElem?_eq_getElem hjv) (List.getElem?_eq_getElem hjl)
    obtain ⟨xa, xc, e, h2, h3⟩ := bs_shape h1
    have hp' := HP.out
    obtain ⟨b, off, ea, hc⟩ := sl_at hp' hW (List.getElem?_eq_getElem hjv)
    rw [e] at hc
    exact ⟨_, b, off, xa, xc, List.getElem?_eq_getElem hjl, ea, hc, h3, h2⟩
  rw [hm'] at hm ho2 ⊢
  rw [hn'] at hn hv2 ⊢
  rw [hM] at hp2 ⊢
  have hJm : J < m := by omega
  clear hM hm' hn' hps hok hz hv HP hJ1 hJ2
  go_enter Try.func29, Try.ntmps29
  go_upto_region 1 with fail
  obtain ⟨w1, hw1⟩ : ∃ x, w.alloc (.cells #[.slice bo m oc, .slice va n vc] 41) = x := ⟨_, rfl⟩
  have E1 : Hid (EqB w1 w.heap.size (.slice bo m oc) (.slice va n vc)) := by rw [← hw1]; exact EqB.new _ _ _ _
  have B1 : Hid (Below w.heap.size w w1) := by rw [← hw1]; exact below_alloc _ _
  rw [hw1]
  clear hw1
  obtain ⟨c0, c1⟩ := E1.out
  go_wp2
  go_loopw [13] (fun iv wr => ∃ i : Nat, i ≤ J ∧ iv = .int .i64 i ∧ Hid (Below w1.heap.size w1 wr)) (fun iv _ => m - (intOf iv).toNat)
  case atStart => exact ⟨0, by omega, rfl, Below.refl _ _⟩
  case round =>
    clear c0 c1
    obtain ⟨i, hi, rfl, X2⟩ := hrel
    have XB : Hid (Below w.heap.size w wr) := on_below B1.out X2.out
    have HZ2 : Zs w (.slice bo m oc) of := by have := HZ.out; rw [Hm.out] at this; exact this
    obtain ⟨c0, c1⟩ := E1.out.below X2.out
    by_cases hlt : i < J
    · have hio : i < of.length := by rw [Hm.out]; omega
      obtain ⟨k, hk⟩ : ∃ k, of[i]? = some k := ⟨_, List.getElem?_eq_getElem hio⟩
      have hkt : (of.take J)[i]? = some k := by rw [List.getElem?_take, if_pos hlt]; exact hk
      obtain ⟨j, x', rfl, hx', hxn⟩ := HK.out k (List.mem_of_getElem? hkt)
      have hjM : j < M := by rw [← HL.out]; exact (List.getElem?_eq_some_iff.1 hx').1
      obtain ⟨x, b2, off2, xa, xc, hx, rfl, ck, hxc, hnx⟩ := PT.out j hjM wr XB.out
      rw [hx] at hx'
      have hx' := Option.some.inj hx'
      subst hx'
      rw [hxn] at ck hnx
      obtain ⟨b, off, rfl, ci⟩ := zs_at HZ2 XB.out hk
      have h0 : ¬ (j : Int) < 0 := by omega
      have h1 : ¬ (j : Int) ≥ (M : Int) := by omega
      clear hk hkt hio HZ2 hx hxn
      have d0 : decide ((j : Int) < 0) = false := decide_eq_false h0
      have d1 : decide ((M : Int) ≤ (j : Int)) = false := decide_eq_false h1
      go_upto_region 4 with fail
      go_quiet (fail)
      have X3 : Hid (Below w1.heap.size w1 (wr.drewN nq)) := below_drewN X2.out nq
      go_wp2
      go_roundw
      case rel => exact ⟨i + 1, by omega, by go_num, X3⟩
      case measure => simp [intOf]; omega
    · obtain rfl : J = i := by omega
      obtain ⟨y, hy⟩ : ∃ y, of[J]? = some y := ⟨_, List.getElem?_eq_getElem hJ⟩
      have NB : Hid (¬ OkAt n ls y) := by
        have h1 := HB.out
        have h2 := (List.getElem?_eq_some_iff.1 hy).2
        rw [h2] at h1
        exact h1
      obtain ⟨b, off, rfl, ci⟩ := zs_at HZ2 XB.out hy
      clear hy HZ2 HB HK hJ
      by_cases hy0 : y < 0
      · go_upto_region 4 with fail
        go_quiet (fail)
        go_wp2
        go_ret
        exact ⟨rfl, below_drewN XB.out _⟩
      · have d0 : decide (y < 0) = false := decide_eq_false hy0
        by_cases hyM : y ≥ (M : Int)
        · have hyM2 : (M : Int) ≤ y := hyM
          go_upto_region 4 with fail
          go_quiet (fail)
          go_wp2
          go_ret
          exact ⟨rfl, below_drewN XB.out _⟩
        · obtain ⟨j, rfl⟩ : ∃ j : Nat, y = j := ⟨y.toNat, by omega⟩
          have hjM : j < M := by omega
          obtain ⟨x, b2, off2, xa, xc, hx, rfl, ck, hxc, hnx⟩ := PT.out j hjM wr XB.out
          have hne : ¬ x.length = n := fun h => NB.out ⟨j, x, rfl, hx, h⟩
          clear hx NB
          generalize x.length = xn at *
          have d1 : decide ((M : Int) ≤ (j : Int)) = false := decide_eq_false hyM
          have hneI : ((xn : Int) != (n : Int)) = true := by simp; omega
          go_upto_region 4 with fail
          go_quiet (fail)
          go_wp2
          go_ret
          exact ⟨rfl, below_drewN XB.out _⟩

/-- HOLDS. -/
theorem qholds_any (ov vv pv : Value) (of : List Int) (v : List UInt8) (vs : List Value) (ls : List (List UInt8)) (w : World) (hz : Zs w ov of) (hv : Bs w vv v) (hp : Sl 1 w pv vs.length vs) (hps : Parts w vs ls) (hm : of.length ≤ 1000000000) (hn : v.length ≤ 1000000000) :
    Calls Try.prog 29 #[.agg #[ov, vv], pv] w fun e w' => TellsP (HoldsP of v ls) e ∧ Below w.heap.size w w' := by
  by_cases hok : OkOf v.length ls of
  · refine (qholds_yes ov vv pv of v vs ls w hz hv hp hps hm hn hok).mono ?_
    rintro e w' ⟨rfl, hb⟩
    exact ⟨⟨_, rfl, ⟨fun h => ⟨hok, h⟩, fun h => h.2⟩⟩, hb⟩
  · refine (qholds_no ov vv pv of v vs ls w hz hv hp hps hm hn hok).mono ?_
    rintro e w' ⟨rfl, hb⟩
    exact ⟨tells_no rfl (fun h => hok h.1), hb⟩

end Go.Proofs.Ytkcijbejngnalaa
