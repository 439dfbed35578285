/-
  ClosureTrue: equations made of blocks agree.
-/
import Derived.Test.YtpffbfagabelfaaKZ
import Derived.RegionTactic
namespace Go.Proofs.Ytpffbfagabelfaa
open Go.RowKit
set_option linter.unusedVariables false
set_option maxRecDepth 100000

/-- The blocks that the law pads. -/
def blksT (n : Nat) (ys : List (List UInt8)) (a : Nat) : List (List UInt8) := (List.range a).map fun j => padTo n (ys.getD j [])
theorem blksT_length (n : Nat) (ys : List (List UInt8)) (a : Nat) : (blksT n ys a).length = a := by unfold blksT; rw [List.length_map, List.length_range]
theorem blksT_mem {n : Nat} {ys : List (List UInt8)} {a : Nat} {x : List UInt8} (h : x ∈ blksT n ys a) : x.length = n := by
  obtain ⟨j, -, rfl⟩ := List.mem_map.1 h
  exact padTo_length _ _
theorem blksT_next {n a i : Nat} (ys : List (List UInt8)) (h : i < a) : (blksT n ys a).take (i + 1) = (blksT n ys a).take i ++ [padTo n (ys.getD i [])] := by
  rw [List.take_succ_eq_append_getElem (by rw [blksT_length]; exact h)]
  unfold blksT
  simp
/-- A block by its number. -/
def blkZ (n : Nat) (X : List (List UInt8)) (z : Int) : List UInt8 := if 0 ≤ z then X.getD z.toNat (zeros n) else zeros n
theorem blkZ_length {n : Nat} {X : List (List UInt8)} (h : ∀ x ∈ X, x.length = n) (z : Int) : (blkZ n X z).length = n := by
  unfold blkZ
  split
  · rw [List.getD_eq_getElem?_getD]
    cases hx : X[z.toNat]? with
    | none => exact zeros_length n
    | some x => exact h x (List.mem_of_getElem? hx)
  · exact zeros_length n
theorem blkZ_at {n k : Nat} {X : List (List UInt8)} {x : List UInt8} (h : X[k]? = some x) : blkZ n X (k : Int) = x := by
  unfold blkZ
  rw [if_pos (by omega), List.getD_eq_getElem?_getD]
  simp [h]
/-- The sum of the blocks that an equation names, and are there. -/
def sumT (n a : Nat) (X : List (List UInt8)) (of : List Int) : List UInt8 := xorAll (zeros n) ((inZ a of).map (blkZ n X))
theorem sumT_length {n a : Nat} {X : List (List UInt8)} (h : ∀ x ∈ X, x.length = n) (of : List Int) : (sumT n a X of).length = n := by
  unfold sumT
  rw [xorAll_length (fun x hx => by obtain ⟨z, -, rfl⟩ := List.mem_map.1 hx; rw [blkZ_length h, zeros_length]), zeros_length]
theorem sumT_in {n a j : Nat} {X : List (List UInt8)} {of : List Int} {z : Int} (hz : of[j]? = some z) (h : 0 ≤ z ∧ z < (a : Int)) : sumT n a X (of.take (j + 1)) = xorL (sumT n a X (of.take j)) (blkZ n X z) := by
  unfold sumT
  rw [inZ_take hz, if_pos h, List.map_append, xorAll_append]
  rfl
theorem sumT_out {n a j : Nat} {X : List (List UInt8)} {of : List Int} {z : Int} (hz : of[j]? = some z) (h : ¬ (0 ≤ z ∧ z < (a : Int))) : sumT n a X (of.take (j + 1)) = sumT n a X (of.take j) := by
  unfold sumT
  rw [inZ_take hz, if_neg h, List.append_nil]
theorem inZ_all {a : Nat} {of : List Int} (h : ∀ z ∈ of, 0 ≤ z ∧ z < (a : Int)) : inZ a of = of := by
  unfold inZ
  rw [List.filter_eq_self]
  intro z hz
  have := h z hz
  simp
  omega
theorem xorAll_twice {z : List UInt8} {L : List (List UInt8)} (h : ∀ x ∈ L, x.length = z.length) : zeroB (xorAll (xorAll z L) L) = zeroB z := by
  induction L generalizing z with
  | nil => rfl
  | cons x L ih =>
    have hx : x.length = z.length := h x List.mem_cons_self
    have e1 : xorAll z (x :: L) = xorL (xorAll z L) x := by
      rw [← xorAll_perm z (List.perm_append_singleton x L), xorAll_append]
      rfl
    have hL : (xorAll z L).length = z.length := xorAll_length fun y hy => h y (List.mem_cons_of_mem _ hy)
    have e2 : xorAll (xorL (xorAll z L) x) (x :: L) = xorAll (xorL (xorL (xorAll z L) x) x) L := rfl
    rw [e1, e2, xorL_twice (by rw [hx, hL])]
    exact ih fun y hy => h y (List.mem_cons_of_mem _ hy)
theorem ag_true {n a : Nat} {X : List (List UInt8)} (hX : ∀ x ∈ X, x.length = n) {es : List Qe} (h : ∀ e ∈ es, e.va = sumT n a X e.of) : AgQ n ((fitQ (a : Int) es).map pairQ) := by
  refine ⟨blkZ n X, blkZ_length hX, fun p hp _ => ?_⟩
  obtain ⟨e, he, rfl⟩ := List.mem_map.1 hp
  obtain ⟨h1, h2⟩ := fitQ_mem.1 he
  have e1 : inZ a e.of = e.of := inZ_all h2.2
  show zeroB (xorAll e.va (e.of.map (blkZ n X))) = true
  rw [h e h1]
  unfold sumT
  rw [e1, xorAll_twice (fun x hx => by obtain ⟨z, -, rfl⟩ := List.mem_map.1 hx; rw [blkZ_length hX, zeros_length])]
  exact zeroB_zeros n

/-- An equation made of the blocks. -/
def QeM (B n a : Nat) (X : List (List UInt8)) (w W : World) (e : Qe) : Prop := QeK B w W e ∧ e.va = sumT n a X e.of
theorem QeM.below {B n a : Nat} {X : List (List UInt8)} {w W W' : World} {e : Qe} (h : QeM B n a X w W e) (hb : Below W.heap.size W W') : QeM B n a X w W' e := ⟨h.1.below hb, h.2⟩
theorem qem_snoc {B n a : Nat} {X : List (List UInt8)} {w W : World} {es : List Qe} {e : Qe} (h : ∀ q ∈ es, QeM B n a X w W q) (he : QeM B n a X w W e) : ∀ q ∈ es ++ [e], QeM B n a X w W q := fun q hq => by
  rcases List.mem_append.1 hq with h1 | h1
  · exact h q h1
  · rw [List.mem_singleton.1 h1]; exact he

set_option maxHeartbeats 4000000 in
theorem closureTrue_walk (A S : Int) (pv : Value) (vs : List Value) (ls : List (List Int)) (qv : Value) (us : List Value) (xs : List (List UInt8)) (dv : Value) (ds : List Value) (ys : List (List UInt8)) (w : World) (h : (Lit.int .u8 A).wf = true ∧ (Lit.int .u8 S).wf = true ∧ Sl 1 w pv vs.length vs ∧ LsZ w vs ls ∧ LzW ls ∧ Sl 1 w qv us.length us ∧ Parts w us xs) (hd : Sl 1 w dv ds.length ds) (hy : Parts w ds ys) :
    Calls Try.prog 6 #[.agg #[.int .u8 A, .int .u8 S, pv, qv], dv] w fun e w' => e = .returned (.bool true) ∧ Below w.heap.size w w' := by
  obtain ⟨i0, hi0, hz0, hz1, hz2⟩ := info_parts Try.infoByte
  obtain ⟨ha, hs, hp, hz, hw, -, -⟩ := h
  obtain ⟨hal, hau⟩ := bounds_u8 ha
  obtain ⟨hsl, hsu⟩ := bounds_u8 hs
  obtain ⟨A, rfl⟩ := Int.eq_ofNat_of_zero_le hal
  obtain ⟨S, rfl⟩ := Int.eq_ofNat_of_zero_le hsl
  obtain ⟨a, ea, ha40⟩ : ∃ a : Nat, ((A : Int) % 40 = (a : Int)) ∧ a < 40 := ⟨A % 40, by omega, by omega⟩
  obtain ⟨n, eS, hn6⟩ : ∃ n : Nat, ((S : Int) % 6 = (n : Int)) ∧ n < 6 := ⟨S % 6, by omega, by omega⟩
  have HZ : Hid (LsZ w vs ls) := hz
  have HW : Hid (LzW ls) := hw
  have HY : Hid (Parts w ds ys) := hy
  obtain ⟨M, hM⟩ : ∃ M, vs.length = M := ⟨_, rfl⟩
  obtain ⟨P, hP⟩ : ∃ P, ds.length = P := ⟨_, rfl⟩
  have HM : Hid (vs.length = M) := hM
  have HDL : Hid (ds.length = P) := hP
  have HL : Hid (ls.length = M) := by have := hz.1; unfold Hid; omega
  have HP : Hid (Sl 1 w pv vs.length vs) := hp
  have HD : Hid (Sl 1 w dv ds.length ds) := hd
  obtain ⟨-, ao, pc, rfl, hp2, hp3, -, -⟩ := hp
  obtain ⟨-, do', dc, rfl, hd2, hd3, -, -⟩ := hd
  unfold maxLen at hp3 hd3
  rw [hM] at hp2
  rw [hP] at hd2
  rw [hM] at HP
  rw [hP] at HD
  have HP' : Hid (Sl 1 w (.slice ao M pc) vs.length vs) := by unfold Hid; rw [hM]; exact HP.out
  have HD' : Hid (Sl 1 w (.slice do' P dc) ds.length ds) := by unfold Hid; rw [hP]; exact HD.out
  rw [hM, hP]
  clear hz hw hy ha hs hal hsl hM hP HP HD
  go_enter Try.func6, Try.ntmps6
  go_wp2_with fail
  have B1 : Hid (XBox w.heap.size A S (.slice ao M pc) qv (w.alloc (.cells #[.int .u8 (A : Int), .int .u8 (S : Int), .slice ao M pc, qv] 37))) := XBox.new _ _ _ _ _
  have X1 : Hid (Below w.heap.size w (w.alloc (.cells #[.int .u8 (A : Int), .int .u8 (S : Int), .slice ao M pc, qv] 37))) := below_alloc _ _
  refine (speaks16_any _).mono ?_
  rintro e w2 ⟨rfl, hb⟩
  have X2 : Hid (Below w.heap.size w w2) := on_below X1.out hb
  have B2 : Hid (XBox w.heap.size A S (.slice ao M pc) qv w2) := XBox.below B1.out hb
  clear hb B1 X1
  obtain ⟨x0, x1, x2, x3⟩ := B2.out.cells
  go_wp2_with fail
  refine (big16_any _ vs ls w2 (HP'.out.below X2.out) (HZ.out.below X2.out) HW.out).mono ?_
  rintro e w3 ⟨⟨b, rfl, hsm⟩, hw3⟩
  obtain rfl : w2 = w3 := hw3.symm
  clear hw3
  cases b with
  | true =>
    clear hsm
    go_wp2
    go_ret
    exact ⟨rfl, X2.out⟩
  | false =>
    have SM : Hid (SmallE ls) := hsm rfl
    have SM1 : Hid (ls.length + ls.flatten.length ≤ 400) := SM.out
    clear hsm
    by_cases hP60 : 60 < P
    · have dP : decide (60 < (P : Int)) = true := decide_eq_true (by omega)
      go_wp2
      go_ret
      exact ⟨rfl, X2.out⟩
    have dP : decide (60 < (P : Int)) = false := decide_eq_false (by omega)
    go_upto_region 5 with fail
    go_quiet (fail)
    rw [ea, eS]
    have Y2 : Hid (Below w.heap.size w (w2.drewN nq)) := below_drewN X2.out nq
    have Z2 : Hid (XBox w.heap.size A S (.slice ao M pc) qv (w2.drewN nq)) := XBox.below B2.out (below_drewN (Below.refl _ _) nq)
    obtain ⟨w3, hw3⟩ : ∃ x, w2.drewN nq = x := ⟨_, rfl⟩
    rw [hw3] at Y2 Z2 ⊢
    clear hw3 x0 x1 x2 x3 X2 B2
    go_wp2
    go_loopw [7, 36] (fun lv iv wr => ∃ (i : Nat) (a2 : Option Addr) (c2 : Nat) (bs : List Value), i ≤ a ∧ iv = .int .i64 i ∧ lv = .slice a2 i c2 ∧ Hid (wr.ownsRow w3.heap.size 45 1 (.slice a2 i c2) i bs) ∧ Hid (PartsB w3.heap.size wr bs ((blksT n ys a).take i)) ∧ Hid (Below w3.heap.size w3 wr)) (fun _ iv _ => a - (intOf iv).toNat)
    case atStart => exact ⟨0, none, 0, [], by omega, rfl, rfl, ⟨rfl, .inl ⟨rfl, rfl⟩⟩, by rw [List.take_zero]; exact PartsB.nil _ _, Below.refl _ _⟩
    case round =>
      obtain ⟨i, a2, c2, bs, hi, rfl, rfl, RR, PP, BB⟩ := hrel
      by_cases hlt : i < a
      · have NX : Hid ((blksT n ys a).take (i + 1) = (blksT n ys a).take i ++ [padTo n (ys.getD i [])]) := blksT_next ys hlt
        go_upto_region 11 with (at_make; refine wpList_make_full _ rfl _ _ 45 rfl wr.heap.size 5 i0 (.int .u8 0) 1 Try.underlying45 hi0 hz0 hz1 _ _ _ _ n rfl rfl rfl rfl (by rw [hz2]; omega) (by unfold maxLen; omega) (Nat.le_refl _) ?_; intro w4 ho4 hg4)
        have X4 : Hid (Below wr.heap.size wr w4) := below_new hg4
        obtain ⟨q, hq⟩ : ∃ q, wr.heap.size = q := ⟨_, rfl⟩
        have hqB : Hid (w3.heap.size ≤ q) := by unfold Hid; rw [← hq]; exact BB.out.size
        have K4 : Hid (Blk w4 q [] (zeros n) []) := by unfold Hid; rw [← hq]; exact made_blk ho4
        have Hq : Hid (wr.heap.size = q) := hq
        have XX4 : Hid (Below w.heap.size w w4) := on_below Y2.out (on_below BB.out X4.out)
        rw [hq]
        clear ho4 hg4 hq
        by_cases hiu : i < P
        · have dU : decide ((i : Int) < (P : Int)) = true := decide_eq_true (by omega)
          obtain ⟨u, hu⟩ : ∃ u, ds[i]? = some u := ⟨_, List.getElem?_eq_getElem (by rw [HDL.out]; exact hiu)⟩
          have hixs : i < ys.length := by have h1 := HY.out.1; have h2 := HDL.out; omega
          obtain ⟨x, hx⟩ : ∃ x, ys[i]? = some x := ⟨_, List.getElem?_eq_getElem hixs⟩
          have GX : Hid (ys.getD i [] = x) := by unfold Hid; rw [List.getD_eq_getElem?_getD, hx]; rfl
          have hD : Sl 1 w (.slice do' P dc) ds.length ds := HD'.out
          obtain ⟨b2, off2, rfl, cu⟩ := sl_at hD XX4.out hu
          have KX : Hid (Bs w4 u x) := (HY.out.2 i u x hu hx).below XX4.out
          obtain ⟨xa, xc, eu, hx2, hx3⟩ := bs_shape KX.out
          subst eu
          clear hx hu hD
          obtain ⟨k, hk⟩ : ∃ k, x.length = k := ⟨_, rfl⟩
          have HK : Hid (x.length = k) := hk
          rw [hk] at cu KX hx2
          clear hk
          go_upto_region 13 with (refine wpList_copyM _ rfl (.tmp 45) (.tmp 49) rfl (some ⟨q, 0, none⟩) n n q 0 (zeros n) x _ rfl rfl K4.out KX.out (fun _ => rfl) (by rw [zeros_length]; omega) (min k n) (by rw [HK.out]) ?_; intro w5 hk5 hb5 hs5)
          have K5' : Hid (Blk w5 q [] (padTo n x) []) := by
            have e : (zeros n).take 0 ++ x.take n ++ (zeros n).drop (0 + min k n) = padTo n x := by
              unfold padTo
              rw [List.take_zero, List.nil_append, Nat.zero_add]
              congr 1
              unfold zeros
              rw [List.drop_replicate]
              congr 1
              have := HK.out
              omega
            rw [e] at hk5
            exact hk5
          have X5 : Hid (Below wr.heap.size wr w5) := by
            have h1 := X4.out
            have h2 := hb5
            rw [← Hq.out] at h2
            exact h1.trans h2
          have K5 : Hid (Blk w5 q [] (padTo n (ys.getD i [])) []) := by unfold Hid; rw [GX.out]; exact K5'.out
          clear hk5 hb5 hs5 X4 K4 K5' KX cu
          have B5 : Hid (Below w3.heap.size w3 w5) := on_below BB.out X5.out
          have R5 : Hid (w5.ownsRow w3.heap.size 45 1 (.slice a2 i c2) i bs) := owns_below RR.out X5.out
          have P5 : Hid (PartsB w3.heap.size w5 bs ((blksT n ys a).take i)) := PP.out.below X5.out
          clear X5 BB RR PP Hq
          have R6 : Hid ((w5.alloc (.cells #[.slice (some ⟨q, 0, none⟩) n n] 45)).ownsRow w3.heap.size 45 1 (.slice a2 i c2) i bs) := owns_below R5.out (below_alloc _ _)
          have S6 : Hid (w3.heap.size ≤ (w5.alloc (.cells #[.slice (some ⟨q, 0, none⟩) n n] 45)).heap.size) := Nat.le_trans B5.out.size (below_alloc w5 _).size
          go_wp2_with (at_builtin; refine wpList_addS _ rfl (.tmp 51) (.tmp 53) rfl w3.heap.size (.slice a2 i c2) i bs rfl R6.out _ (.slice (some ⟨q, 0, none⟩) n n) rfl rfl (alloc_one _ _) (by omega) S6.out ?_; intro a7 c7 w7 ho7 hg7 hnc7 hcm7)
          have X7 : Hid (Below w3.heap.size w3 w7) := below_ownR (B5.out.alloc B5.out.size _) R6.out (Nat.le_refl _) S6.out hg7
          have R7 : Hid (w7.ownsRow w3.heap.size 45 1 (.slice a7 (i + 1) c7) (i + 1) (bs ++ [.slice (some ⟨q, 0, none⟩) n n])) := ho7
          have P7 : Hid (PartsB w3.heap.size w7 (bs ++ [.slice (some ⟨q, 0, none⟩) n n]) ((blksT n ys a).take (i + 1))) := by
            have h1 : PartsB w3.heap.size w7 bs ((blksT n ys a).take i) := (P5.out.below (below_alloc _ _)).grownR R6.out hg7
            have h2 : Blk w7 q [] (padTo n (ys.getD i [])) [] := (K5.out.below (below_alloc _ _)).kept (grown_kindR R6.out hg7 (K5.out.below (below_alloc _ _)) (by decide))
            have h3 := h1.snoc h2 (by rw [padTo_length]; omega) hqB.out
            rw [padTo_length] at h3
            rw [NX.out]
            exact h3
          clear ho7 hg7 R5 P5 B5 K5 R6 S6 NX
          go_roundw
          case rel => exact ⟨i + 1, a7, c7, _, by omega, by go_num, rfl, R7, P7, X7⟩
          case measure => simp [intOf]; omega
        · have dU : decide ((i : Int) < (P : Int)) = false := decide_eq_false (by omega)
          go_upto_region 13 with fail
          obtain ⟨w5, hw5⟩ : ∃ x, w4 = x := ⟨_, rfl⟩
          have K5 : Hid (Blk w5 q [] (padTo n (ys.getD i [])) []) := by
            have e : ys.getD i [] = [] := by
              have h1 := HY.out.1
              have h2 := HDL.out
              rw [List.getD_eq_getElem?_getD, List.getElem?_eq_none (by omega)]
              rfl
            have e2 : padTo n [] = zeros n := by unfold padTo; simp
            unfold Hid
            rw [e, e2, ← hw5]
            exact K4.out
          have X5 : Hid (Below wr.heap.size wr w5) := by rw [← hw5]; exact X4.out
          rw [hw5]
          clear hw5 X4 K4 XX4
          have B5 : Hid (Below w3.heap.size w3 w5) := on_below BB.out X5.out
          have R5 : Hid (w5.ownsRow w3.heap.size 45 1 (.slice a2 i c2) i bs) := owns_below RR.out X5.out
          have P5 : Hid (PartsB w3.heap.size w5 bs ((blksT n ys a).take i)) := PP.out.below X5.out
          clear X5 BB RR PP Hq
          have R6 : Hid ((w5.alloc (.cells #[.slice (some ⟨q, 0, none⟩) n n] 45)).ownsRow w3.heap.size 45 1 (.slice a2 i c2) i bs) := owns_below R5.out (below_alloc _ _)
          have S6 : Hid (w3.heap.size ≤ (w5.alloc (.cells #[.slice (some ⟨q, 0, none⟩) n n] 45)).heap.size) := Nat.le_trans B5.out.size (below_alloc w5 _).size
          go_wp2_with (at_builtin; refine wpList_addS _ rfl (.tmp 51) (.tmp 53) rfl w3.heap.size (.slice a2 i c2) i bs rfl R6.out _ (.slice (some ⟨q, 0, none⟩) n n) rfl rfl (alloc_one _ _) (by omega) S6.out ?_; intro a7 c7 w7 ho7 hg7 hnc7 hcm7)
          have X7 : Hid (Below w3.heap.size w3 w7) := below_ownR (B5.out.alloc B5.out.size _) R6.out (Nat.le_refl _) S6.out hg7
          have R7 : Hid (w7.ownsRow w3.heap.size 45 1 (.slice a7 (i + 1) c7) (i + 1) (bs ++ [.slice (some ⟨q, 0, none⟩) n n])) := ho7
          have P7 : Hid (PartsB w3.heap.size w7 (bs ++ [.slice (some ⟨q, 0, none⟩) n n]) ((blksT n ys a).take (i + 1))) := by
            have h1 : PartsB w3.heap.size w7 bs ((blksT n ys a).take i) := (P5.out.below (below_alloc _ _)).grownR R6.out hg7
            have h2 : Blk w7 q [] (padTo n (ys.getD i [])) [] := (K5.out.below (below_alloc _ _)).kept (grown_kindR R6.out hg7 (K5.out.below (below_alloc _ _)) (by decide))
            have h3 := h1.snoc h2 (by rw [padTo_length]; omega) hqB.out
            rw [padTo_length] at h3
            rw [NX.out]
            exact h3
          clear ho7 hg7 R5 P5 B5 K5 R6 S6 NX
          go_roundw
          case rel => exact ⟨i + 1, a7, c7, _, by omega, by go_num, rfl, R7, P7, X7⟩
          case measure => simp [intOf]; omega
      · obtain rfl : a = i := by omega
        have XE : Hid ((blksT n ys a).take a = blksT n ys a) := List.take_of_length_le (by rw [blksT_length]; exact Nat.le_refl _)
        obtain ⟨w4, hw4⟩ : ∃ x, x = wr := ⟨_, rfl⟩
        subst hw4
        have SL : Hid (Sl 1 w4 (.slice a2 a c2) bs.length bs) := by
          have h1 := owned_sl RR.out
          have h2 := RR.out.1
          rw [Nat.mul_one] at h2
          rw [h2]
          exact h1
        have PB : Hid (PartsB w3.heap.size w4 bs (blksT n ys a)) := by unfold Hid; rw [← XE.out]; exact PP.out
        have XN : Hid (∀ x ∈ blksT n ys a, x.length = n) := fun x hx => blksT_mem hx
        have XL : Hid ((blksT n ys a).length = a) := blksT_length _ _ _
        have UL : Hid (bs.length = a) := by unfold Hid; rw [PB.out.1]; exact XL.out
        have X4 : Hid (Below w.heap.size w w4) := on_below Y2.out BB.out
        have B4 : Hid (XBox w.heap.size A S (.slice ao M pc) qv w4) := XBox.below Z2.out BB.out
        obtain ⟨X, hX⟩ : ∃ X, blksT n ys a = X := ⟨_, rfl⟩
        rw [hX] at PB XN XL
        clear RR PP BB XE hX Y2 Z2
        obtain ⟨x0, x1, x2, x3⟩ := B4.out.cells
        go_wp2
        go_loopw [10, 59] (fun lv iv wr => ∃ (i : Nat) (la : Option Addr) (lc : Nat) (es : List Qe), i ≤ M ∧ iv = .int .i64 i ∧ lv = .slice la i lc ∧ Hid (OwnE w4.heap.size wr (.slice la i lc) i es) ∧ Hid (∀ e ∈ es, QeM w4.heap.size n a X w wr e) ∧ Hid (es.map Qe.of = ls.take i) ∧ Hid (Below w4.heap.size w4 wr)) (fun _ iv _ => M - (intOf iv).toNat)
        case atStart => exact ⟨0, none, 0, [], by omega, rfl, rfl, OwnE.nil _ _, (by intro e he; cases he), rfl, Below.refl _ _⟩
        case round =>
          obtain ⟨i, la, lc, es, hi, rfl, rfl, EE, QQ, OF, BB⟩ := hrel
          obtain ⟨w5, hw5⟩ : ∃ x, x = wr := ⟨_, rfl⟩
          subst hw5
          by_cases hlt : i < M
          · obtain ⟨of, hof⟩ : ∃ of, ls[i]? = some of := ⟨_, List.getElem?_eq_getElem (by rw [HL.out]; exact hlt)⟩
            obtain ⟨ov, hov, hoz⟩ := HZ.out.at hof
            have X5 : Hid (Below w.heap.size w w5) := on_below X4.out BB.out
            obtain ⟨b, off, rfl, ci⟩ := sl_at HP'.out X5.out hov
            obtain ⟨oa, oc, rfl, ho2, ho3⟩ := zs_shape hoz
            have HOF : Hid (ls[i]? = some of) := hof
            have HOZ0 : Hid (Zs w (.slice oa of.length oc) of) := hoz
            obtain ⟨m, hm⟩ : ∃ m, of.length = m := ⟨_, rfl⟩
            have Hm : Hid (of.length = m) := hm
            have HOZ : Hid (Zs w (.slice oa m oc) of) := by unfold Hid; rw [← hm]; exact HOZ0.out
            rw [hm] at ci ho2
            clear hof hov hoz hm HOZ0
            go_upto_region 20 with (at_make; refine wpList_make_full _ rfl _ _ 45 rfl w5.heap.size 5 i0 (.int .u8 0) 1 Try.underlying45 hi0 hz0 hz1 _ _ _ _ n rfl rfl rfl rfl (by rw [hz2]; omega) (by unfold maxLen; omega) (Nat.le_refl _) ?_; intro w6 ho6 hg6)
            have X6 : Hid (Below w5.heap.size w5 w6) := below_new hg6
            obtain ⟨q, hq⟩ : ∃ q, w5.heap.size = q := ⟨_, rfl⟩
            have hqB : Hid (w5.heap.size ≤ q) := by unfold Hid; omega
            have K6 : Hid (Blk w6 q [] (zeros n) []) := by unfold Hid; rw [← hq]; exact made_blk ho6
            rw [hq]
            clear ho6 hg6 hq ci
            go_wp2
            go_loopw [67] (fun iv wr => ∃ j : Nat, j ≤ m ∧ iv = .int .i64 j ∧ Hid (Blk wr q [] (sumT n a X (of.take j)) []) ∧ Hid (Below w5.heap.size w5 wr)) (fun iv _ => m - (intOf iv).toNat)
            case atStart => exact ⟨0, by omega, rfl, K6, X6⟩
            case round =>
              clear K6 X6
              obtain ⟨j, hj, rfl, KK, BJ⟩ := hrel
              obtain ⟨w7, hw7⟩ : ∃ x, x = wr := ⟨_, rfl⟩
              subst hw7
              by_cases hltj : j < m
              · obtain ⟨z, hz⟩ : ∃ z, of[j]? = some z := ⟨_, List.getElem?_eq_getElem (by rw [Hm.out]; exact hltj)⟩
                have HZ' : Zs w (.slice oa m oc) of := HOZ.out
                have X7 : Hid (Below w.heap.size w w7) := on_below X5.out BJ.out
                obtain ⟨bo, off', rfl, ci⟩ := zs_at HZ' X7.out hz
                by_cases hza : 0 ≤ z ∧ z < (a : Int)
                · obtain ⟨k, rfl⟩ := Int.eq_ofNat_of_zero_le hza.1
                  have hka : k < a := by omega
                  have NY : Hid (sumT n a X (of.take (j + 1)) = xorL (sumT n a X (of.take j)) (blkZ n X (k : Int))) := sumT_in hz hza
                  obtain ⟨u, hu⟩ : ∃ u, bs[k]? = some u := ⟨_, List.getElem?_eq_getElem (by rw [UL.out]; exact hka)⟩
                  obtain ⟨x, hx⟩ : ∃ x, X[k]? = some x := ⟨_, List.getElem?_eq_getElem (by rw [XL.out]; exact hka)⟩
                  obtain ⟨qz, rfl, hbz, -, -⟩ := PB.out.2 k u x hu hx
                  have hxn : x.length = n := XN.out x (List.mem_of_getElem? hx)
                  rw [hxn] at hu
                  have XNL : Hid (x.length = n) := hxn
                  have BZ : Hid (blkZ n X (k : Int) = x) := blkZ_at hx
                  have HU : Hid (bs[k]? = some (.slice (some ⟨qz, 0, none⟩) n n)) := hu
                  have KZ : Hid (Blk w5 qz [] x []) := hbz.below BB.out
                  obtain ⟨y, hy⟩ : ∃ y, sumT n a X (of.take j) = y := ⟨_, rfl⟩
                  have YL : Hid (y.length = n) := by unfold Hid; rw [← hy]; exact sumT_length XN.out _
                  have XY : Hid (x.length = y.length) := by unfold Hid; rw [XNL.out, YL.out]
                  rw [hy] at KK NY
                  have hk0 : 0 ≤ (k : Int) := hza.1
                  have hk1 : (k : Int) < (a : Int) := hza.2
                  have d0 : decide (0 ≤ (k : Int)) = true := decide_eq_true hk0
                  have d1 : decide ((k : Int) < (a : Int)) = true := decide_eq_true hk1
                  clear hz hu hx hbz hxn hy HZ' hza
                  go_wp2
                  go_loopw [80] (fun iv wr => ∃ t : Nat, t ≤ n ∧ iv = .int .i64 t ∧ Hid (Blk wr q [] (xorTo y x t) []) ∧ Hid (Below w5.heap.size w5 wr)) (fun iv _ => n - (intOf iv).toNat)
                  case atStart => exact ⟨0, by omega, rfl, by rw [xorTo_zero]; exact KK, BJ⟩
                  case round =>
                    clear KK BJ ci
                    obtain ⟨t, ht, rfl, KT, BT⟩ := hrel
                    by_cases hltt : t < n
                    · have hty : t < y.length := by rw [YL.out]; exact hltt
                      have htx : t < x.length := by rw [XNL.out]; exact hltt
                      have hc1 : wr.cell? ⟨q, t, none⟩ = some (.int .u8 (y[t].toNat : Int)) := by
                        have h1 := KT.out.cell t _ (by rw [List.getElem?_map, xorTo_at y x t XY.out hty]; rfl)
                        simpa [bv] using h1
                      have hf1 : wr.frozen? ⟨q, t, none⟩ = false := KT.out.frozen _
                      have KZ7 : Blk wr qz [] x [] := KZ.out.below BT.out
                      have hc2 : wr.cell? ⟨qz, t, none⟩ = some (.int .u8 (x[t].toNat : Int)) := by
                        have h1 := KZ7.cell t _ (map_bv_at x t htx)
                        simpa using h1
                      have SL0 : Sl 1 w4 (.slice a2 a c2) bs.length bs := SL.out
                      obtain ⟨ba, offa, rfl, ca⟩ := sl_at SL0 (on_below BB.out BT.out) HU.out
                      have HS : Hid (∀ W : World, Blk W q [] (xorTo y x t) [] → Blk (W.setCell ⟨q, t, none⟩ (bv (y[t] ^^^ x[t]))) q [] (xorTo y x (t + 1)) []) := by
                        intro W hW
                        rw [← xorTo_next y x t XY.out hty]
                        have h1 := hW.set t (by rw [xorTo_length _ _ _ XY.out]; exact hty) (y[t] ^^^ x[t])
                        have e : ([] : List Value).length + t = t := by simp
                        rw [e] at h1
                        exact h1
                      have HX : Hid (Value.int .u8 (bits BinOp.xor IntKind.u8 (y[t].toNat : Int) (x[t].toNat : Int)) = bv (y[t] ^^^ x[t])) := xor_byte _ _
                      have hyb := (y[t]).toNat_lt
                      have hxb := (x[t]).toNat_lt
                      obtain ⟨yt, hyt⟩ : ∃ e, y[t] = e := ⟨_, rfl⟩
                      obtain ⟨xt, hxt⟩ : ∃ e, x[t] = e := ⟨_, rfl⟩
                      rw [hyt] at hc1 HS HX hyb
                      rw [hxt] at hc2 HS HX hxb
                      clear SL0 KZ7 hyt hxt hty htx
                      go_upto_region 27 with fail
                      go_region
                      rw [HX.out]
                      have K9 : Hid (Blk (wr.setCell ⟨q, t, none⟩ (bv (yt ^^^ xt))).drew q [] (xorTo y x (t + 1)) []) := HS.out wr KT.out
                      have B9 : Hid (Below w5.heap.size w5 (wr.setCell ⟨q, t, none⟩ (bv (yt ^^^ xt))).drew) := below_drewN (BT.out.grown (grown_setCell wr q t _) BT.out.size (fun k hk => by injection hk with hk; have := hqB.out; omega)) 1
                      clear KT BT HX HS hc1 hc2 hf1 ca
                      go_wp2
                      go_roundw
                      case rel => exact ⟨t + 1, by omega, by go_num, K9, B9⟩
                      case measure => simp [intOf]; omega
                    · obtain rfl : n = t := by omega
                      have K9 : Hid (Blk wr q [] (sumT n a X (of.take (j + 1))) []) := by
                        have h1 := KT.out
                        rw [xorTo_all y x n (by rw [YL.out]; exact Nat.le_refl _) XY.out] at h1
                        rw [NY.out, BZ.out]
                        exact h1
                      clear KT NY BZ HU KZ YL XY
                      go_wp2
                      go_roundw
                      case rel => exact ⟨j + 1, by omega, by go_num, K9, BT⟩
                      case measure => simp [intOf]; omega
                · have KO : Hid (Blk w7 q [] (sumT n a X (of.take (j + 1))) []) := by unfold Hid; rw [sumT_out hz hza]; exact KK.out
                  clear hz KK HZ'
                  by_cases hz0 : 0 ≤ z
                  · have hz1' : ¬ z < (a : Int) := fun h => hza ⟨hz0, h⟩
                    have d0 : decide (0 ≤ z) = true := decide_eq_true hz0
                    have d1 : decide (z < (a : Int)) = false := decide_eq_false hz1'
                    go_wp2
                    go_roundw
                    case rel => exact ⟨j + 1, by omega, by go_num, KO, BJ⟩
                    case measure => simp [intOf]; omega
                  · have d0 : decide (0 ≤ z) = false := decide_eq_false hz0
                    go_wp2
                    go_roundw
                    case rel => exact ⟨j + 1, by omega, by go_num, KO, BJ⟩
                    case measure => simp [intOf]; omega
              · obtain rfl : m = j := by omega
                obtain ⟨y, hy⟩ : ∃ y, sumT n a X of = y := ⟨_, rfl⟩
                have YS : Hid (y = sumT n a X of) := hy.symm
                have YL : Hid (y.length = n) := by unfold Hid; rw [← hy]; exact sumT_length XN.out _
                have K7 : Hid (Blk w7 q [] y []) := by
                  have h1 := KK.out
                  rw [List.take_of_length_le (by rw [Hm.out]; exact Nat.le_refl _), hy] at h1
                  exact h1
                have B7 : Hid (Below w4.heap.size w4 w7) := on_below BB.out BJ.out
                have E7 : Hid (OwnE w4.heap.size w7 (.slice la i lc) i es) := OwnE.below EE.out BJ.out
                have Q7 : Hid (∀ e ∈ es, QeM w4.heap.size n a X w w7 e) := fun e he => (QQ.out e he).below BJ.out
                have hq4 : Hid (w4.heap.size ≤ q) := Nat.le_trans BB.out.size hqB.out
                clear KK BJ hy EE QQ BB X5
                have EA : Hid (OwnE w4.heap.size (w7.alloc (.cells #[.slice oa m oc, .slice (some ⟨q, 0, none⟩) n n] 47)) (.slice la i lc) i es) := OwnE.below E7.out (below_alloc _ _)
                have XA : Hid (Below w4.heap.size w4 (w7.alloc (.cells #[.slice oa m oc, .slice (some ⟨q, 0, none⟩) n n] 47))) := B7.out.alloc B7.out.size _
                have SA : Hid (w4.heap.size ≤ (w7.alloc (.cells #[.slice oa m oc, .slice (some ⟨q, 0, none⟩) n n] 47)).heap.size) := XA.out.size
                have M400 : Hid (M ≤ 400) := by have h1 := SM1.out; have h2 := HL.out; unfold Hid; omega
                have hM4 := M400.out
                go_upto_region 31 with (at_builtin; refine wpList_addE _ rfl (.tmp 98) (.tmp 102) rfl w4.heap.size (.slice la i lc) i es rfl EA.out _ 1 [⟨.slice oa m oc, .slice (some ⟨q, 0, none⟩) n n, of, y⟩] rfl one_src (by intro u hu; simp [Qe.cells] at hu; rcases hu with rfl | rfl <;> rfl) (by omega) SA.out ?_; intro a9 c9 w9 ho9 hg9)
                have E9 : Hid (OwnE w4.heap.size w9 (.slice a9 (i + 1) c9) (i + 1) (es ++ [⟨.slice oa m oc, .slice (some ⟨q, 0, none⟩) n n, of, y⟩])) := ho9
                have X9 : Hid (Below w4.heap.size w4 w9) := XA.out.grown hg9 XA.out.size (fun k hk => (OwnE.lt EA.out k hk).1)
                have QK9 : ∀ e : Qe, QeM w4.heap.size n a X w w7 e → QeM w4.heap.size n a X w w9 e := fun e he => ⟨QeK.grown (QeK.below he.1 (below_alloc _ _)) EA.out hg9 (by decide), he.2⟩
                have Q9 : Hid (∀ e ∈ es ++ [(⟨.slice oa m oc, .slice (some ⟨q, 0, none⟩) n n, of, y⟩ : Qe)], QeM w4.heap.size n a X w w9 e) := qem_snoc (fun e he => QK9 e (Q7.out e he)) (QK9 _ ⟨⟨HOZ.out, isown_blk K7.out YL.out hq4.out (by omega)⟩, YS.out⟩)
                have OF9 : Hid ((es ++ [(⟨.slice oa m oc, .slice (some ⟨q, 0, none⟩) n n, of, y⟩ : Qe)]).map Qe.of = ls.take (i + 1)) := by
                  obtain ⟨b1, b2⟩ := List.getElem?_eq_some_iff.1 HOF.out
                  unfold Hid
                  rw [List.map_append, OF.out, List.take_succ_eq_append_getElem b1, b2]
                  rfl
                clear ho9 hg9 QK9 EA XA SA E7 Q7 OF K7 B7 HOF HOZ YS YL Hm
                go_wp2
                go_roundw
                case rel => exact ⟨i + 1, a9, c9, _, by omega, by go_num, rfl, E9, Q9, OF9, X9⟩
                case measure => simp [intOf]; omega
          · obtain rfl : M = i := by omega
            have EL : Hid (es.length = M) := EE.out.len
            have OF1 : Hid (es.map Qe.of = ls) := by
              have h1 := OF.out
              rw [List.take_of_length_le (by rw [HL.out]; exact Nat.le_refl _)] at h1
              exact h1
            have X5 : Hid (Below w.heap.size w w5) := on_below X4.out BB.out
            have QE : Hid (Qs w5 (.slice la M lc) es) := OwnE.qs EE.out (fun e he => (QQ.out e he).1.qep X5.out)
            have VA : Hid (∀ e ∈ es, e.va.length = n) := fun e he => by rw [(QQ.out e he).2]; exact sumT_length XN.out _
            have AG : Hid (AgQ n ((fitQ (a : Int) es).map pairQ)) := ag_true XN.out (fun e he => (QQ.out e he).2)
            have F4 : Hid ((es.map Qe.of).flatten.length ≤ 400 ∧ es.length ≤ 400) := by
              have h1 := SM1.out
              have h2 := HL.out
              have h3 := EL.out
              unfold Hid
              rw [OF1.out]
              exact ⟨by omega, by omega⟩
            clear EE QQ OF BB
            go_wp2_with fail
            refine (agrees_any (a : Int) n _ es w5 QE.out (by have := F4.out.2; omega) (by have := F4.out.1; omega) (by omega) VA.out (by omega)).mono ?_
            rintro e w6 ⟨⟨b2, rfl, hb2⟩, hb6⟩
            obtain rfl : b2 = true := hb2.2 AG.out
            have X6 : Hid (Below w.heap.size w w6) := on_below X5.out hb6
            clear hb2 hb6 X5 QE
            go_wp2
            go_ret
            exact ⟨rfl, X6.out⟩

end Go.Proofs.Ytpffbfagabelfaa
