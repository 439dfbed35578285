/-
  equation: the document's Holds.
-/
import Derived.Test.YtkcijbejngnalaaQE
import Derived.Test.YtkcijbejngnalaaCoD
namespace Go.Proofs.Ytkcijbejngnalaa
open Go.RowKit
set_option linter.unusedVariables false

theorem first_stop (n : Nat) (ls : List (List UInt8)) (of : List Int) : ∃ J, J ≤ of.length ∧ OkOf n ls (of.take J) ∧ ∀ y, of[J]? = some y → ¬ OkAt n ls y := by
  by_cases h : OkOf n ls of
  · refine ⟨of.length, Nat.le_refl _, by rw [List.take_length]; exact h, fun y hy => ?_⟩
    have := (List.getElem?_eq_some_iff.1 hy).1
    omega
  · obtain ⟨J, hJ, h1, h2⟩ := first_bad h
    refine ⟨J, by omega, h1, fun y hy => ?_⟩
    obtain ⟨_, e⟩ := List.getElem?_eq_some_iff.1 hy
    rw [← e]
    exact h2

set_option maxRecDepth 100000 in
set_option maxHeartbeats 1000000 in
/-- The document's HOLDS. -/
theorem rholds_any (ov vv pv : Value) (of : List Int) (v : List UInt8) (vs : List Value) (ls : List (List UInt8)) (w : World) (hz : Zs w ov of) (hv : Bs w vv v) (hp : Sl 1 w pv vs.length vs) (hps : Parts w vs ls) (hm : of.length ≤ 1000000) (hn : v.length ≤ 16777216) :
    Calls Try.prog 30 #[ov, vv, pv] w fun e w' => TellsP (HoldsP of v ls) e ∧ Below w.heap.size w w' := by
  obtain ⟨J, hJ, hJ1, hJ2⟩ := first_stop v.length ls of
  have HZ : Hid (Zs w ov of) := hz
  have HV : Hid (Bs w vv v) := hv
  have HP : Hid (Sl 1 w pv vs.length vs) := hp
  have HPS : Hid (Parts w vs ls) := hps
  obtain ⟨bo, oc, rfl, ho2, ho3⟩ := zs_shape hz
  obtain ⟨va, vc, rfl, hv2, hv3⟩ := bs_shape hv
  obtain ⟨-, ao, pc, rfl, hp2, hp3, -, -⟩ := hp
  unfold maxLen at hp3
  obtain ⟨M, hM⟩ : ∃ M, vs.length = M := ⟨_, rfl⟩
  obtain ⟨m, hm'⟩ : ∃ m, of.length = m := ⟨_, rfl⟩
  obtain ⟨n, hn'⟩ : ∃ n, v.length = n := ⟨_, rfl⟩
  have HM : Hid (vs.length = M) := hM
  have Hm : Hid (of.length = m) := hm'
  have Hn : Hid (v.length = n) := hn'
  have HL : Hid (ls.length = M) := by have := hps.1; unfold Hid; omega
  rw [hn'] at hJ1 hJ2
  have HK : Hid (OkOf n ls (of.take J)) := hJ1
  have HB : Hid (∀ y, of[J]? = some y → ¬ OkAt n ls y) := hJ2
  have PT : Hid (∀ (j : Nat), j < M → ∀ W, Below w.heap.size w W → ∃ (x : List UInt8) (b off : Nat) (xa : Option Addr) (xc : Nat), ls[j]? = some x ∧ ao = some ⟨b, off, none⟩ ∧ vs[j]? = some (.slice xa x.length xc) ∧ W.cell? ⟨b, off + j, none⟩ = some (.slice xa x.length xc) ∧ xc ≤ 9223372036854775807 ∧ x.length ≤ xc) := by
    intro j hjM W hW
    have hjv : j < vs.length := by rw [HM.out]; exact hjM
    have hjl : j < ls.length := by rw [HL.out]; exact hjM
    have h1 := HPS.out.2 j _ _ (List.getElem?_eq_getElem hjv) (List.getElem?_eq_getElem hjl)
    obtain ⟨xa, xc, e, h2, h3⟩ := bs_shape h1
    have hp' := HP.out
    obtain ⟨b, off, ea, hc⟩ := sl_at hp' hW (List.getElem?_eq_getElem hjv)
    rw [e] at hc
    exact ⟨_, b, off, xa, xc, List.getElem?_eq_getElem hjl, ea, by rw [List.getElem?_eq_getElem hjv, e], hc, h3, h2⟩
  rw [hm'] at hm ho2 hJ ⊢
  rw [hn'] at hn hv2 ⊢
  rw [hM] at hp2 ⊢
  clear hM hm' hn' hps hz hv hJ1 hJ2 HP
  go_enter Try.func30, Try.ntmps30
  go_upto_region 2 with fail
  have R1 : Hid ((w.alloc (.cells #[.slice va n vc] 25)).ownsRow w.heap.size 25 1 (.slice (some ⟨w.heap.size, 0, none⟩) 1 1) 1 [.slice va n vc]) := World.ownsRow_lit w #[.slice va n vc] 1 (Nat.le_refl _) (by simp [maxLen]) rfl
  have B1 : Hid (Below w.heap.size w (w.alloc (.cells #[.slice va n vc] 25))) := below_alloc _ _
  obtain ⟨w1, hw1⟩ : ∃ x, w.alloc (.cells #[.slice va n vc] 25) = x := ⟨_, rfl⟩
  rw [hw1] at R1 B1 ⊢
  clear hw1
  go_wp2
  go_loopw [7, 8] (fun rv iv wr => ∃ (i : Nat) (a : Option Addr) (c : Nat), i ≤ J ∧ iv = .int .i64 i ∧ rv = .slice a (1 + i) c ∧ Hid (wr.ownsRow w.heap.size 25 1 (.slice a (1 + i) c) (1 + i) (.slice va n vc :: pkV vs (of.take i))) ∧ Hid (Below w.heap.size w wr)) (fun _ iv _ => m - (intOf iv).toNat)
  case atStart => exact ⟨0, _, _, by omega, rfl, rfl, R1, B1⟩
  case round =>
    clear R1 B1
    obtain ⟨i, a, c, hi, rfl, rfl, RR, BB⟩ := hrel
    have HZ2 : Zs w (.slice bo m oc) of := by have := HZ.out; rw [Hm.out] at this; exact this
    by_cases hlt : i < J
    · have him : i < m := by omega
      obtain ⟨k, hk⟩ : ∃ k, of[i]? = some k := ⟨_, List.getElem?_eq_getElem (by rw [Hm.out]; exact him)⟩
      have hkt : (of.take J)[i]? = some k := by rw [List.getElem?_take, if_pos hlt]; exact hk
      obtain ⟨j, x', rfl, hx', hxn⟩ := HK.out k (List.mem_of_getElem? hkt)
      have hjM : j < M := by rw [← HL.out]; exact (List.getElem?_eq_some_iff.1 hx').1
      obtain ⟨x, b2, off2, xa, xc, hx, rfl, hvj, ck, hxc, hnx⟩ := PT.out j hjM wr BB.out
      rw [hx] at hx'
      have hx' := Option.some.inj hx'
      subst hx'
      rw [hxn] at ck hnx hvj
      obtain ⟨b, off, rfl, ci⟩ := zs_at HZ2 BB.out hk
      have h0 : ¬ (j : Int) < 0 := by omega
      have h1 : ¬ (j : Int) ≥ (M : Int) := by omega
      have NX : Hid (pkV vs (of.take (i + 1)) = pkV vs (of.take i) ++ [.slice xa n xc]) := by
        obtain ⟨hio, e⟩ := List.getElem?_eq_some_iff.1 hk
        unfold Hid
        unfold pkV
        rw [List.take_succ_eq_append_getElem hio, List.map_append, e]
        simp [List.getD, hvj]
      have RA : Hid ((wr.alloc (.cells #[.slice xa n xc] 25)).ownsRow w.heap.size 25 1 (.slice a (1 + i) c) (1 + i) (.slice va n vc :: pkV vs (of.take i))) := owns_below RR.out (below_alloc _ _)
      have SA : Hid (w.heap.size ≤ (wr.alloc (.cells #[.slice xa n xc] 25)).heap.size) := by have := BB.out.size; unfold Hid; simp; omega
      clear hk hkt HZ2 hx hxn hvj
      go_wp2_with (at_builtin; refine wpList_addS _ rfl (.tmp 44) (.tmp 52) rfl w.heap.size (.slice a (1 + i) c) (1 + i) _ rfl RA.out _ (.slice xa n xc) rfl rfl (alloc_one _ _) (by omega) SA.out ?_; intro a4 c4 w4 ho4 hg4 hnc4 hcm4)
      have B4 : Hid (Below w.heap.size w w4) := below_ownR (BB.out.alloc BB.out.size _) RA.out (Nat.le_refl _) SA.out hg4
      have R4 : Hid (w4.ownsRow w.heap.size 25 1 (.slice a4 (1 + (i + 1)) c4) (1 + (i + 1)) (.slice va n vc :: pkV vs (of.take (i + 1)))) := by rw [NX.out]; exact ho4
      clear ho4 hg4 RA SA RR BB NX ci ck
      go_roundw
      case rel => exact ⟨i + 1, a4, c4, by omega, by go_num, rfl, R4, B4⟩
      case measure => simp [intOf]; omega
    · obtain rfl : J = i := by omega
      by_cases hJm : J = m
      · subst hJm
        have eJ : of.take J = of := List.take_of_length_le (by rw [Hm.out]; exact Nat.le_refl _)
        have OK : Hid (OkOf n ls of) := by have := HK.out; rw [eJ] at this; exact this
        have SLR : Hid (Sl 1 wr (.slice a (1 + J) c) ((.slice va n vc) :: pkV vs of).length ((.slice va n vc) :: pkV vs of)) := by
          have h1 := owned_sl RR.out
          rw [eJ] at h1
          have h2 : ((Value.slice va n vc) :: pkV vs of).length = 1 + J := by rw [List.length_cons, pkV_length, Hm.out]; omega
          rw [h2]
          exact h1
        have SP : Hid (Parts wr ((.slice va n vc) :: pkV vs of) (v :: pkD ls of)) := by
          have h1 : Bs wr (.slice va n vc) v := by have := HV.out.below BB.out; rw [Hn.out] at this; exact this
          have h2 : Parts wr (pkV vs of) (pkD ls of) := (pkV_parts HPS.out (fun k hk => by
            obtain ⟨j, x, rfl, hx, -⟩ := OK.out k hk
            have := (List.getElem?_eq_some_iff.1 hx).1
            omega)).below BB.out
          refine ⟨by simp [h2.1], fun k u p hu hp => ?_⟩
          cases k with
          | zero => simp at hu hp; subst hu; subst hp; exact h1
          | succ k => exact h2.2 k u p (by simpa using hu) (by simpa using hp)
        have FB : Hid (fitB n (v :: pkD ls of) = true) := fitB_of (fun x hx => by
          rcases List.mem_cons.1 hx with rfl | hx
          · exact Hn.out
          · exact pkD_fit OK.out x hx)
        have XE : Hid (xorAll (zeros n) (v :: pkD ls of) = xorAll v (pkD ls of)) := xorAll_first Hn.out _
        have HR : Hid (HoldsP of v ls ↔ zeroB (xorAll v (pkD ls of)) = true) := ⟨fun h => h.2, fun h => ⟨by rw [Hn.out]; exact OK.out, h⟩⟩
        have XL : Hid ((xorAll v (pkD ls of)).length = n) := by
          unfold Hid
          rw [xorAll_length (by rw [Hn.out]; exact pkD_fit OK.out)]
          exact Hn.out
        clear eJ RR HZ2
        obtain ⟨w2, hw2⟩ : ∃ x, x = wr := ⟨_, rfl⟩
        subst hw2
        go_wp2_with fail
        refine (rsum_any n _ _ _ w2 (by omega) SLR.out SP.out FB.out).mono ?_
        rintro e w3 ⟨rfl, hk, hb⟩
        have K3 : Hid (Bs w3 (.slice (some ⟨w2.heap.size, 0, none⟩) n n) (xorAll v (pkD ls of))) := by
          rw [XE.out] at hk
          exact hk.bs0 n n XL.out.symm (Nat.le_refl _) (by unfold maxLen; omega)
        have B3 : Hid (Below w.heap.size w w3) := on_below BB.out hb
        clear hk hb SLR SP FB XE
        go_wp2_with fail
        refine (rzero_any _ _ w3 K3.out).mono ?_
        rintro e w4 ⟨rfl, rfl⟩
        go_wp2
        go_ret
        exact ⟨⟨_, rfl, HR.out.symm⟩, B3.out⟩
      · have him : J < m := by omega
        obtain ⟨y, hy⟩ : ∃ y, of[J]? = some y := ⟨_, List.getElem?_eq_getElem (by rw [Hm.out]; exact him)⟩
        have NB : Hid (¬ OkAt n ls y) := HB.out y hy
        have NH : Hid (¬ HoldsP of v ls) := fun h => by
          have := h.1 y (List.mem_of_getElem? hy)
          rw [Hn.out] at this
          exact NB.out this
        obtain ⟨b, off, rfl, ci⟩ := zs_at HZ2 BB.out hy
        clear hy HZ2 HB HK hJm RR
        by_cases hy0 : y < 0
        · go_wp2
          go_ret
          exact ⟨tells_no rfl NH.out, BB.out⟩
        · by_cases hyM : y ≥ (M : Int)
          · go_wp2
            go_ret
            exact ⟨tells_no rfl NH.out, BB.out⟩
          · obtain ⟨j, rfl⟩ : ∃ j : Nat, y = j := ⟨y.toNat, by omega⟩
            have hjM : j < M := by omega
            obtain ⟨x, b2, off2, xa, xc, hx, rfl, hvj, ck, hxc, hnx⟩ := PT.out j hjM wr BB.out
            have hne : ¬ x.length = n := fun h => NB.out ⟨j, x, rfl, hx, h⟩
            clear hx NB hvj
            generalize x.length = xn at *
            have hneI : ((xn : Int) != (n : Int)) = true := by simp; omega
            go_wp2
            go_ret
            exact ⟨tells_no rfl NH.out, BB.out⟩

end Go.Proofs.Ytkcijbejngnalaa
