/-
  The document's rest and Put.
-/
import Derived.Test.YtkckbeekehecnaaKU
namespace Go.Proofs.Ytkckbeekehecnaa
open Go.RowKit
set_option linter.unusedVariables false

theorem parts_snoc {w : World} {vs : List Value} {ps : List (List UInt8)} (h : Parts w vs ps) {v : Value} {p : List UInt8} (hp : Bs w v p) : Parts w (vs ++ [v]) (ps ++ [p]) := by
  refine ⟨by rw [List.length_append, List.length_append, h.1]; rfl, fun i v' p' hv hq => ?_⟩
  by_cases hlt : i < vs.length
  · rw [List.getElem?_append_left hlt] at hv
    rw [List.getElem?_append_left (by rw [← h.1]; exact hlt)] at hq
    exact h.2 i v' p' hv hq
  · rw [List.getElem?_append_right (by omega)] at hv
    rw [List.getElem?_append_right (by rw [← h.1]; omega), ← h.1] at hq
    cases hk : i - vs.length with
    | zero =>
      rw [hk] at hv hq
      simp at hv hq
      subst hv; subst hq
      exact hp
    | succ k => rw [hk] at hv; simp at hv
/-- Values of the blocks that are known, in a slice. -/
def VsP (w : World) (us : List Value) (K : List Int) (V : Int → List UInt8) (size : Nat) : Prop := ∀ b ∈ K, ∃ (m : Nat) (u : Value), b = (m : Int) ∧ us[m]? = some u ∧ Bs w u (V b) ∧ (V b).length = size
theorem VsP.below {w w' : World} {us : List Value} {K : List Int} {V : Int → List UInt8} {size : Nat} (h : VsP w us K V size) (hb : Below w.heap.size w w') : VsP w' us K V size := fun b hk => by
  obtain ⟨m, u, h1, h2, h3, h4⟩ := h b hk
  exact ⟨m, u, h1, h2, h3.below hb, h4⟩

set_option maxRecDepth 100000 in
set_option maxHeartbeats 2000000 in
/-- REST. -/
theorem rrest16_any (kv ov vv uv : Value) (K of : List Int) (va : List UInt8) (us : List Value) (V : Int → List UInt8) (size : Nat) (w : World) (hk : Zs w kv K) (ho : Zs w ov of) (hv : Bs w vv va) (hu : Sl 1 w uv us.length us) (hV : VsP w us K V size) (hsz : va.length = size) (hs1 : size ≤ 16777216) (hn1 : of.length ≤ 1000000) :
    Calls Try.prog 39 #[kv, ov, vv, uv] w fun e w' => ∃ (q : Nat), e = .returned (.slice (some ⟨q, 0, none⟩) size size) ∧ Bs w' (.slice (some ⟨q, 0, none⟩) size size) (xorAll va ((knZ K of).map V)) ∧ w.heap.size ≤ q ∧ Below w.heap.size w w' := by
  have HK : Hid (Zs w kv K) := hk
  have HO : Hid (Zs w ov of) := ho
  have HV : Hid (Bs w vv va) := hv
  have HU : Hid (Sl 1 w uv us.length us) := hu
  have VV : Hid (VsP w us K V size) := hV
  have HS : Hid (va.length = size) := hsz
  obtain ⟨ao, oc, rfl, ho2, ho3⟩ := zs_shape ho
  obtain ⟨ba, bc, rfl, hb2, hb3⟩ := bs_shape hv
  obtain ⟨-, ua, uc, rfl, hu2, hu3, -, -⟩ := hu
  unfold maxLen at hu3
  obtain ⟨n, hn⟩ : ∃ n, of.length = n := ⟨_, rfl⟩
  have HN : Hid (of.length = n) := hn
  obtain ⟨M, hM⟩ : ∃ M, us.length = M := ⟨_, rfl⟩
  have HM : Hid (us.length = M) := hM
  have HU0 : Hid (Sl 1 w (.slice ua M uc) us.length us) := by
    have h1 := HU.out
    unfold Hid
    rw [hM] at h1 ⊢
    exact h1
  rw [hn] at HO ho2 hn1 ⊢
  rw [hsz] at HV hb2 ⊢
  rw [hM] at hu2 ⊢
  clear hk ho hv hV hsz hn hM HU
  go_enter Try.func39, Try.ntmps39
  go_wp2
  have OR0 : Hid ((w.alloc (.cells #[.slice ba size bc] 38)).ownsRow w.heap.size 38 1 (.slice (some ⟨w.heap.size, 0, none⟩) 1 1) 1 [.slice ba size bc]) := World.ownsRow_lit w #[.slice ba size bc] 1 (Nat.le_refl _) (by simp [maxLen]) rfl
  have X0 : Hid (Below w.heap.size w (w.alloc (.cells #[.slice ba size bc] 38))) := below_alloc _ _
  have P0 : Hid (Parts w [.slice ba size bc] (va :: (knZ K (of.take 0)).map V)) := by
    have h1 := parts_snoc (w := w) (vs := []) (ps := []) ⟨rfl, fun i v p h => by simp at h⟩ HV.out
    exact h1
  obtain ⟨w1, hw1⟩ : ∃ x, w.alloc (.cells #[.slice ba size bc] 38) = x := ⟨_, rfl⟩
  rw [hw1] at OR0 X0 ⊢
  clear hw1
  go_loopw [9, 10] (fun lv iv wr => ∃ (i k : Nat) (a : Option Addr) (c : Nat) (ps : List Value), i ≤ n ∧ iv = .int .i64 i ∧ k ≤ i + 1 ∧ lv = .slice a k c ∧ Hid (wr.ownsRow w.heap.size 38 1 (.slice a k c) k ps) ∧ Hid (Parts w ps (va :: (knZ K (of.take i)).map V)) ∧ Hid (Below w.heap.size w wr)) (fun _ iv _ => n - (intOf iv).toNat)
  case atStart => exact ⟨0, 1, _, _, _, by omega, rfl, by omega, rfl, OR0, P0, X0⟩
  case round =>
    clear OR0 P0 X0
    obtain ⟨i, k, a, c, ps, hi, rfl, hki, rfl, OR, PP, XX⟩ := hrel
    by_cases hlt : i < n
    · obtain ⟨z, hz⟩ : ∃ z, of[i]? = some z := ⟨_, List.getElem?_eq_getElem (by rw [HN.out]; exact hlt)⟩
      have HZ' : Zs w (.slice ao n oc) of := HO.out
      obtain ⟨b0, off, rfl, ci⟩ := zs_at HZ' XX.out hz
      have KX : Hid (knZ K (of.take (i + 1)) = knZ K (of.take i) ++ (if z ∈ K then [z] else [])) := knZ_take hz
      clear hz HZ'
      go_wp2_with fail
      refine (rhas_any z kv K wr (HK.out.below XX.out)).mono ?_
      rintro e wr' ⟨rfl, hwr⟩
      obtain rfl : wr = wr' := hwr.symm
      clear hwr
      by_cases hzk : z ∈ K
      · have d : decide (z ∈ K) = true := decide_eq_true hzk
        obtain ⟨m, u, rfl, hum, hbu, hul⟩ := VV.out z hzk
        have hmM : m < M := by have := (List.getElem?_eq_some_iff.1 hum).1; rw [HM.out] at this; exact this
        obtain ⟨ub, uo, rfl, cu⟩ := sl_at HU0.out XX.out hum
        have P2 : Hid (Parts w (ps ++ [u]) (va :: (knZ K (of.take (i + 1))).map V)) := by
          have h1 := parts_snoc PP.out hbu
          unfold Hid
          rw [KX.out, if_pos hzk, List.map_append]
          exact h1
        obtain ⟨xa, xc, rfl, hx2, hx3⟩ := bs_shape hbu
        have OA : Hid ((wr.alloc (.cells #[.slice xa (V (m : Int)).length xc] 38)).ownsRow w.heap.size 38 1 (.slice a k c) k ps) := owns_kept OR.out fun q hq => heap_old _ (World.ownsRow.lt OR.out q hq).2
        have XA : Hid (Below w.heap.size w (wr.alloc (.cells #[.slice xa (V (m : Int)).length xc] 38))) := XX.out.alloc XX.out.size _
        have hk9 : k + 1 ≤ 1000000000 := by omega
        rw [d]
        clear d hzk hum hbu hul KX PP OR XX
        go_wp2_with (at_builtin; refine wpList_addS _ rfl (.tmp 25) (.tmp 33) rfl w.heap.size (.slice a k c) k ps rfl OA.out _ (.slice xa (V (m : Int)).length xc) rfl rfl (one_srcV _ _ _) hk9 XA.out.size ?_; intro a4 k4 w4 ho4 hg4 hnc4 hcm4)
        have O4 : Hid (w4.ownsRow w.heap.size 38 1 (.slice a4 (k + 1) k4) (k + 1) (ps ++ [.slice xa (V (m : Int)).length xc])) := ho4
        have X4 : Hid (Below w.heap.size w w4) := XA.out.grown hg4 XA.out.size (fun q hq => (World.ownsRow.lt OA.out q hq).1)
        clear ho4 hg4 hnc4 hcm4 OA XA ci cu
        go_roundw
        case rel => exact ⟨i + 1, k + 1, a4, k4, _, by omega, by go_num, by omega, rfl, O4, P2, X4⟩
        case measure => simp [intOf]; omega
      · have d : decide (z ∈ K) = false := decide_eq_false hzk
        have P2 : Hid (Parts w ps (va :: (knZ K (of.take (i + 1))).map V)) := by
          unfold Hid
          rw [KX.out, if_neg hzk, List.append_nil]
          exact PP.out
        rw [d]
        clear d hzk KX PP
        go_wp2
        go_roundw
        case rel => exact ⟨i + 1, k, a, c, ps, by omega, by go_num, by omega, rfl, OR, P2, XX⟩
        case measure => simp [intOf]; omega
    · obtain rfl : n = i := by omega
      have eT : of.take n = of := List.take_of_length_le (by rw [HN.out]; exact Nat.le_refl _)
      rw [eT] at PP
      have PL : ps.length = k := by have := (owned_slN OR.out).1; rw [Nat.mul_one] at this; exact this
      have SL : Hid (Sl 1 wr (.slice a k c) ps.length ps) := by
        have h1 := owned_slN OR.out
        unfold Hid
        rw [PL]
        exact h1
      have FB : Hid (fitB size (va :: (knZ K of).map V) = true) := fitB_of fun x hx => by
        rcases List.mem_cons.1 hx with rfl | hx
        · exact HS.out
        · obtain ⟨b, hb, rfl⟩ := List.mem_map.1 hx
          obtain ⟨m, u, -, -, -, h4⟩ := VV.out b (knZ_mem.1 hb).2
          exact h4
      have PP' : Hid (Parts wr ps (va :: (knZ K of).map V)) := (show Parts w ps (va :: (knZ K of).map V) from PP).below XX.out
      clear PP OR PL eT
      go_wp2_with fail
      refine (rsum_any size _ ps _ wr hs1 SL.out PP'.out FB.out).mono ?_
      rintro e w4 ⟨rfl, hB, hb4⟩
      have X4 : Hid (Below w.heap.size w w4) := on_below XX.out hb4
      have R4 : Hid (Bs w4 (.slice (some ⟨wr.heap.size, 0, none⟩) size size) (xorAll va ((knZ K of).map V))) := by
        rw [xorAll_first HS.out] at hB
        refine hB.bs0 size size ?_ (Nat.le_refl _) (by unfold maxLen; omega)
        rw [xorAll_length, HS.out]
        intro x hx
        have := fitB_mem FB.out (List.mem_cons_of_mem _ hx)
        rw [this, HS.out]
      clear hB hb4
      go_wp2
      go_ret
      exact ⟨_, rfl, R4.out, XX.out.size, X4.out⟩

set_option maxRecDepth 100000 in
set_option maxHeartbeats 1000000 in
/-- PUT. -/
theorem rput16_any (uv : Value) (us : List Value) (M m : Nat) (ba : Option Addr) (bn bc : Nat) (w : World) (hu : Sl 1 w uv us.length us) (hM : us.length = M) (hm : m < M) (hone : ∀ u ∈ us, u.oneCell' = true) (hl : M ≤ 1000000) :
    Calls Try.prog 38 #[uv, .int .i64 (m : Int), .slice ba bn bc] w fun e w' => ∃ (g c : Nat), e = .returned (.slice (some ⟨g, 0, none⟩) M c) ∧ w'.ownsRow w.heap.size 38 1 (.slice (some ⟨g, 0, none⟩) M c) M (us.set m (.slice ba bn bc)) ∧ Below w.heap.size w w' := by
  have HU : Hid (Sl 1 w uv us.length us) := hu
  have HO : Hid (∀ u ∈ us, u.oneCell' = true) := hone
  have O0 : Hid ((w.alloc (.cells #[] 38)).ownsRow w.heap.size 38 1 (.slice (some ⟨w.heap.size, 0, none⟩) 0 0) 0 []) := World.ownsRow_lit w #[] 0 (Nat.le_refl _) (by simp [maxLen]) rfl
  have S0 : Hid (Sl 1 (w.alloc (.cells #[] 38)) uv M us) := by have h1 := hu.below (below_alloc w (.cells #[] 38)); rw [hM] at h1; exact h1
  have X0 : Hid (Below w.heap.size w (w.alloc (.cells #[] 38))) := below_alloc _ _
  have hM9 : 0 + M ≤ 1000000000 := by omega
  obtain ⟨ib, hib, hz, h1, h8⟩ := infoBs_parts
  clear hu hone hM
  go_enter Try.func38, Try.ntmps38
  go_upto_region 2 with (at_builtin; refine wpList_app _ rfl (.tmp 8) (.tmp 9) 23 rfl w.heap.size 38 ib (.slice none 0 0) 1 24 Try.underlying23 hib hz h1 h8 rfl (by decide) _ 0 [] rfl O0.out _ M us rfl S0.out HO.out (by unfold maxLen; omega) (by omega) X0.out.size ?_; intro a4 k4 w4 ho4 hg4 hat4 hn4 hnc4 hcm4)
  have X4 : Hid (Below w.heap.size w w4) := X0.out.grown hg4 X0.out.size (fun q hq => (World.ownsRow.lt O0.out q hq).1)
  have O4 : w4.ownsRow w.heap.size 38 1 (.slice a4 (0 + M) k4) (0 + M) us := by simpa using ho4
  rw [Nat.zero_add] at O4
  clear ho4 hg4 hat4 hn4 hnc4 hcm4 O0 S0 X0
  rcases O4.2 with ⟨hv, h0⟩ | ⟨g, cap, cur, hv, hgB, hh, hnc, hcm, hcs, ht⟩
  · exfalso
    injection hv with _ e2 _
    omega
  · injection hv with e1 _ e3
    subst e1
    subst e3
    have f1 : w4.frozen? ⟨g, m, none⟩ = false := frozen_of_heap hh m
    obtain ⟨u0, hu0⟩ : ∃ u, w4.cell? ⟨g, m, none⟩ = some u := by
      have h1 : m < cur.size := by rw [hcs]; omega
      exact ⟨cur[m], by simp [World.cell?, hh, h1]⟩
    have R : Hid ((w4.setCell ⟨g, m, none⟩ (.slice ba bn bc)).ownsRow w.heap.size 38 1 (.slice (some ⟨g, 0, none⟩) M k4) M (us.set m (.slice ba bn bc))) := row_setR O4 _
    have XR : Hid (Below w.heap.size w (w4.setCell ⟨g, m, none⟩ (.slice ba bn bc))) := X4.out.setCell hgB _
    clear hh ht hcs O4
    go_wp2
    go_ret
    exact ⟨g, k4, rfl, R.out, XR.out⟩

end Go.Proofs.Ytkckbeekehecnaa
