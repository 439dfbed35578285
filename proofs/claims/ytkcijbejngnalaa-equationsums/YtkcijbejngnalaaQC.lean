/-
  equation: Holds, as the program has it.
-/
import Derived.Test.YtkcijbejngnalaaQB
namespace Go.Proofs.Ytkcijbejngnalaa
open Go.RowKit
set_option linter.unusedVariables false

/-- An equation in a box. -/
def EqB (w : World) (b : Nat) (ov vv : Value) : Prop := w.cell? ⟨b, 0, none⟩ = some ov ∧ w.cell? ⟨b, 1, none⟩ = some vv
theorem EqB.below {w w' : World} {b : Nat} {ov vv : Value} (h : EqB w b ov vv) (hb : Below w.heap.size w w') : EqB w' b ov vv := ⟨(hb.cell (cell_block_lt h.1)).trans h.1, (hb.cell (cell_block_lt h.2)).trans h.2⟩
theorem EqB.new (w : World) (ov vv : Value) (t : TypeId) : EqB (w.alloc (.cells #[ov, vv] t)) w.heap.size ov vv := by constructor <;> simp
theorem EqB.lt {w : World} {b : Nat} {ov vv : Value} (h : EqB w b ov vv) : b < w.heap.size := cell_block_lt h.1

set_option maxRecDepth 100000 in
set_option maxHeartbeats 1000000 in
/-- HOLDS where all blocks are there, as long. -/
theorem qholds_yes (ov vv pv : Value) (of : List Int) (v : List UInt8) (vs : List Value) (ls : List (List UInt8)) (w : World) (hz : Zs w ov of) (hv : Bs w vv v) (hp : Sl 1 w pv vs.length vs) (hps : Parts w vs ls) (hm : of.length ≤ 1000000000) (hn : v.length ≤ 1000000000) (hok : OkOf v.length ls of) :
    Calls Try.prog 29 #[.agg #[ov, vv], pv] w fun e w' => e = .returned (.bool (zeroB (xorAll v (pkD ls of)))) ∧ Below w.heap.size w w' := by
  obtain ⟨r, hr⟩ : ∃ r, zeroB (xorAll v (pkD ls of)) = r := ⟨_, rfl⟩
  have HR : Hid (zeroB (xorAll v (pkD ls (oddD of))) = r) := (holds_odd hok).trans hr
  rw [hr]
  have HZ : Hid (Zs w ov of) := hz
  have HV : Hid (Bs w vv v) := hv
  have HP : Hid (Sl 1 w pv vs.length vs) := hp
  have HPS : Hid (Parts w vs ls) := hps
  have HK : Hid (OkOf v.length ls of) := hok
  obtain ⟨bo, oc, rfl, ho2, ho3⟩ := zs_shape hz
  obtain ⟨va, vc, rfl, hv2, hv3⟩ := bs_shape hv
  obtain ⟨-, ao, pc, rfl, hp2, hp3, -, -⟩ := hp
  unfold maxLen at hp3
  obtain ⟨M, hM⟩ : ∃ M, vs.length = M := ⟨_, rfl⟩
  obtain ⟨m, hm'⟩ : ∃ m, of.length = m := ⟨_, rfl⟩
  obtain ⟨n, hn'⟩ : ∃ n, v.length = n := ⟨_, rfl⟩
  have HM : Hid (vs.length = M) := hM
  have Hm : Hid (of.length = m) := hm'
  have Hn : Hid (v.length = n) := hn'
  have HL : Hid (ls.length = M) := by have := hps.1; unfold Hid; omega
  rw [hn'] at HK
  have AT : Hid (∀ k : Int, k ∈ of → ∀ W, Below w.heap.size w W → ∃ (j : Nat) (x : List UInt8) (b off : Nat) (xa : Option Addr) (xc : Nat), k = (j : Int) ∧ j < M ∧ ls[j]? = some x ∧ x.length = n ∧ ao = some ⟨b, off, none⟩ ∧ W.cell? ⟨b, off + j, none⟩ = some (.slice xa n xc) ∧ Bs w (.slice xa n xc) x ∧ xc ≤ 9223372036854775807 ∧ n ≤ xc) := by
    intro k hk W hW
    obtain ⟨j, x, rfl, hx, hxn⟩ := HK.out k hk
    have hj : j < ls.length := (List.getElem?_eq_some_iff.1 hx).1
    have hjM : j < M := by rw [← HL.out]; exact hj
    have hjv : j < vs.length := by rw [HM.out]; exact hjM
    have h1 := HPS.out.2 j _ x (List.getElem?_eq_getElem hjv) hx
    obtain ⟨xa, xc, e, h2, h3⟩ := bs_shape h1
    have hp' := HP.out
    obtain ⟨b, off, ea, hc⟩ := sl_at hp' hW (List.getElem?_eq_getElem hjv)
    rw [e] at h1 hc
    rw [hxn] at h1 hc h2
    exact ⟨j, x, b, off, xa, xc, rfl, hjM, hx, hxn, ea, hc, h1, h3, h2⟩
  rw [hm'] at hm ho2 ⊢
  rw [hn'] at hn hv2 ⊢
  rw [hM] at hp2 ⊢
  clear hM hm' hn' hps hok hz hv HP
  go_enter Try.func29, Try.ntmps29
  go_upto_region 1 with fail
  obtain ⟨w1, hw1⟩ : ∃ x, w.alloc (.cells #[.slice bo m oc, .slice va n vc] 41) = x := ⟨_, rfl⟩
  have E1 : Hid (EqB w1 w.heap.size (.slice bo m oc) (.slice va n vc)) := by rw [← hw1]; exact EqB.new _ _ _ _
  have B1 : Hid (Below w.heap.size w w1) := by rw [← hw1]; exact below_alloc _ _
  rw [hw1]
  clear hw1
  obtain ⟨c0, c1⟩ := E1.out
  go_wp2
  go_loopw [13] (fun iv wr => ∃ i : Nat, i ≤ m ∧ iv = .int .i64 i ∧ Hid (Below w1.heap.size w1 wr)) (fun iv _ => m - (intOf iv).toNat)
  case atStart => exact ⟨0, by omega, rfl, Below.refl _ _⟩
  case round =>
    clear c0 c1
    obtain ⟨i, hi, rfl, X2⟩ := hrel
    have XB : Hid (Below w.heap.size w wr) := on_below B1.out X2.out
    by_cases hlt : i < m
    · have hio : i < of.length := by rw [Hm.out]; exact hlt
      obtain ⟨k, hk⟩ : ∃ k, of[i]? = some k := ⟨_, List.getElem?_eq_getElem hio⟩
      obtain ⟨j, x, b2, off2, xa, xc, rfl, hjM, hx, hxn, rfl, ck, hbx, hxc, hnx⟩ := AT.out k (List.mem_of_getElem? hk) wr XB.out
      have HZ2 : Zs w (.slice bo m oc) of := by have := HZ.out; rw [Hm.out] at this; exact this
      obtain ⟨b, off, rfl, ci⟩ := zs_at HZ2 XB.out hk
      have h0 : ¬ (j : Int) < 0 := by omega
      have h1 : ¬ (j : Int) ≥ (M : Int) := by omega
      obtain ⟨c0, c1⟩ := E1.out.below X2.out
      clear hk hio HZ2 hbx hx hxn
      have d0 : decide ((j : Int) < 0) = false := decide_eq_false h0
      have d1 : decide ((M : Int) ≤ (j : Int)) = false := decide_eq_false h1
      go_upto_region 4 with fail
      go_quiet (fail)
      have X3 : Hid (Below w1.heap.size w1 (wr.drewN nq)) := below_drewN X2.out nq
      go_wp2
      go_roundw
      case rel => exact ⟨i + 1, by omega, by go_num, X3⟩
      case measure => simp [intOf]; omega
    · obtain rfl : m = i := by omega
      obtain ⟨c0, c1⟩ := E1.out.below X2.out
      have HV2 : Bs w (.slice va n vc) v := by have := HV.out; rw [Hn.out] at this; exact this
      have HZ2 : Zs w (.slice bo m oc) of := by have := HZ.out; rw [Hm.out] at this; exact this
      obtain ⟨w2, hw2⟩ : ∃ x, x = wr := ⟨_, rfl⟩
      subst hw2
      go_wp2_with fail
      refine (bclone_any _ v n w2 (HV2.below XB.out) Hn.out (by omega)).mono ?_
      rintro e w3 ⟨a3, k3, rfl, ho, hb⟩
      have O3 : Hid (OwB w2.heap.size w3 (.slice a3 n k3) n v) := ho
      have X3 : Hid (Below w1.heap.size w1 w3) := on_below X2.out hb
      have B3 : Hid (Below w.heap.size w w3) := on_below XB.out hb
      have Z2 : Hid (w.heap.size ≤ w2.heap.size) := XB.out.size
      have X23 : Hid (Below w2.heap.size w2 w3) := hb
      have XW : Hid (Below w.heap.size w w2) := XB.out
      clear ho hb c0 c1 X2 XB
      obtain ⟨c0, c1⟩ := E1.out.below X3.out
      obtain ⟨L, hL⟩ : ∃ L, oddD of = L := ⟨_, rfl⟩
      have HLo : Hid (oddD of = L) := hL
      obtain ⟨m4, hm4⟩ : ∃ m4, L.length = m4 := ⟨_, rfl⟩
      have CO : Hid (Calls Try.prog 24 #[.slice bo m oc] w3 fun e w' => ∃ a c, e = .returned (.slice a m4 c) ∧ OwnZ w3.heap.size w' (.slice a m4 c) m4 L ∧ Below w3.heap.size w3 w') := by
        have h1 := qodd_any (.slice bo m oc) of w3 (HZ2.below B3.out) (by rw [Hm.out]; omega)
        rw [hL, hm4] at h1
        exact h1
      have L4 : Hid (L.length = m4) := hm4
      have M4 : Hid (m4 ≤ 1000000000) := by unfold Hid; rw [← hm4, ← hL]; have := oddD_length of; rw [Hm.out] at this; omega
      clear hL hm4 HV2 HZ2
      go_wp2_with fail
      refine CO.out.mono ?_
      rintro e w4 ⟨a4, k4, rfl, ho, hb⟩
      have Z4 : Hid (OwnZ w3.heap.size w4 (.slice a4 m4 k4) m4 L) := ho
      have O4 : Hid (OwB w2.heap.size w4 (.slice a3 n k3) n v) := O3.out.below hb
      have B4 : Hid (Below w2.heap.size w2 w4) := X23.out.trans (hb.mono X23.out.size)
      have S4 : Hid (∀ q, (Value.slice a3 n k3).ownBlock = some q → w2.heap.size ≤ q ∧ q < w3.heap.size) := fun q hq => O3.out.lt q hq
      clear ho hb c0 c1 O3 B3 CO
      have hm4b := M4.out
      go_wp2
      go_loopw [44] (fun iv wr => ∃ i : Nat, i ≤ m4 ∧ iv = .int .i64 i ∧ Hid (OwB w2.heap.size wr (.slice a3 n k3) n (xorAll v (pkD ls (L.take i)))) ∧ Hid (OwnZ w3.heap.size wr (.slice a4 m4 k4) m4 L) ∧ Hid (Below w2.heap.size w2 wr)) (fun iv _ => m4 - (intOf iv).toNat)
      case atStart => exact ⟨0, by omega, rfl, O4, Z4, B4⟩
      case round =>
        clear O4 Z4 B4
        obtain ⟨i, hi, rfl, O4, Z4, B4⟩ := hrel
        have XB : Hid (Below w.heap.size w wr) := XW.out.trans (B4.out.mono Z2.out)
        by_cases hlt : i < m4
        · have hiL : i < L.length := by rw [L4.out]; exact hlt
          obtain ⟨k, hk⟩ : ∃ k, L[i]? = some k := ⟨_, List.getElem?_eq_getElem hiL⟩
          have hkof : k ∈ of := mem_oddD (by rw [HLo.out]; exact List.mem_of_getElem? hk)
          obtain ⟨j, x, b2, off2, xa, xc, rfl, hjM, hx, hxn, rfl, ck, hbx, hxc, hnx⟩ := AT.out k hkof wr XB.out
          have NX : Hid (xorAll v (pkD ls (L.take (i + 1))) = xorL (xorAll v (pkD ls (L.take i))) x) := by
            obtain ⟨hil, e⟩ := List.getElem?_eq_some_iff.1 hk
            unfold Hid
            unfold pkD
            rw [List.take_succ_eq_append_getElem hil, List.map_append, xorAll_append, e]
            simp [xorAll, List.getD, hx]
          obtain ⟨b, off, rfl, ci⟩ := zs_at Z4.out.zs (Below.refl _ _) hk
          have BX : Hid (Bs w (.slice xa n xc) x) := hbx
          have XL : Hid (x.length = n) := hxn
          clear hk hkof hiL hx hxn hbx
          go_wp2_with fail
          refine (xor_own w2.heap.size a3 n k3 _ x (.slice xa n xc) wr O4.out (BX.out.below XB.out) XL.out (fun q hq => BX.out.off_new (by have := (S4.out q (by rw [hq]; rfl)).1; have := Z2.out; omega)) _ rfl).mono ?_
          rintro e w6 ⟨rfl, ho, hg⟩
          have O6 : Hid (OwB w2.heap.size w6 (.slice a3 n k3) n (xorAll v (pkD ls (L.take (i + 1))))) := by rw [NX.out]; exact ho
          have Z6 : Hid (OwnZ w3.heap.size w6 (.slice (some ⟨b, off, none⟩) m4 k4) m4 L) := by
            have h1 := Z4.out.alloc (.cells #[.slice xa n xc] 25)
            refine h1.kept fun q hq => hg.block q (h1.lt q hq).2 (fun e => ?_)
            have h2 := (S4.out q e.symm).2
            have h3 := (h1.lt q hq).1
            omega
          have B6 : Hid (Below w2.heap.size w2 w6) := (B4.out.alloc B4.out.size _).grown hg (by have := B4.out.size; simp; omega) (fun q hq => (S4.out q hq).1)
          clear ho hg ci ck BX XL NX O4 Z4 B4
          go_wp2
          go_roundw
          case rel => exact ⟨i + 1, by omega, by go_num, O6, Z6, B6⟩
          case measure => simp [intOf]; omega
        · have R : Hid (Bs wr (.slice a3 n k3) (xorAll v (pkD ls L))) := by
            have h1 := O4.out.bs
            rw [List.take_of_length_le (by rw [L4.out]; omega)] at h1
            exact h1
          have HR2 : Hid (zeroB (xorAll v (pkD ls L)) = r) := by
            have := HR.out
            rw [HLo.out] at this
            exact this
          clear O4 Z4 B4
          go_wp2_with fail
          refine (zero_any _ _ wr R.out).mono ?_
          rintro e w7 ⟨rfl, rfl⟩
          rw [HR2.out]
          go_wp2
          go_ret
          exact ⟨rfl, XB.out⟩

end Go.Proofs.Ytkcijbejngnalaa
