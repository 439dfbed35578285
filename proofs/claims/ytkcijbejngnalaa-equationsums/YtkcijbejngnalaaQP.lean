/-
  EquationHolds.
-/
import Derived.Test.YtkcijbejngnalaaQO
import Derived.RegionTactic
import Derived.Deep.Light
namespace Go.Proofs.Ytkcijbejngnalaa
open Go.RowKit
set_option linter.unusedVariables false

theorem Qs.lit1 (w : World) (a : Qe) (q : Nat) (hq : q = w.heap.size) (ha : QeP w a) : Qs (w.alloc (.cells #[a.ov, a.vv] 41)) (.slice (some ⟨q, 0, none⟩) 1 1) [a] := by
  subst hq
  refine ⟨⟨rfl, _, _, rfl, Nat.le_refl _, by simp [maxLen], fun h => by simp at h, .inr ⟨_, _, rfl, fun j u hj => ?_⟩⟩, fun e he => ?_⟩
  · rw [Nat.zero_add, World.cell?_alloc_new]
    have hj2 : j < 2 := by have := (List.getElem?_eq_some_iff.1 hj).1; simpa [Qe.cells] using this
    match j, hj2 with
    | 0, _ => simpa [Qe.cells] using hj
    | 1, _ => simpa [Qe.cells] using hj
  · have : e = a := by simpa using he
    subst this
    exact ha.below (below_alloc _ _)

theorem big_one {a : Qe} (h : (ofsQ [a]).length + [a].length ≤ 300 ∧ ∀ e ∈ [a], e.va.length ≤ 60) : a.of.length + 1 ≤ 300 ∧ a.va.length ≤ 60 := by
  have h1 : ofsQ [a] = a.of := by simp [ofsQ]
  obtain ⟨h2, h3⟩ := h
  rw [h1] at h2
  exact ⟨h2, h3 a (List.mem_singleton.2 rfl)⟩

set_option maxRecDepth 100000 in
set_option maxHeartbeats 4000000 in
theorem equationHolds_walk (ov vv pv kv : Value) (of : List Int) (v : List UInt8) (vs : List Value) (ls : List (List UInt8)) (l : List Int) (w : World) (he : QeP w ⟨ov, vv, of, v⟩) (hw : QeW ⟨ov, vv, of, v⟩) (hp : Sl 1 w pv vs.length vs) (hps : Parts w vs ls) (hk : Zs w kv l) :
    Calls Try.prog 5 #[.agg #[ov, vv], pv, kv] w fun e w' => e = .returned (.bool true) ∧ Below w.heap.size w w' := by
  have HP : Hid (Sl 1 w pv vs.length vs) := hp
  have HPS : Hid (Parts w vs ls) := hps
  have HK : Hid (Zs w kv l) := hk
  have HZ : Hid (Zs w ov of) := he.1
  have HV : Hid (Bs w vv v) := he.2
  have HW : Hid (QeW ⟨ov, vv, of, v⟩) := hw
  obtain ⟨bo, oc, rfl, ho2, ho3⟩ := zs_shape (show Zs w ov of from he.1)
  obtain ⟨va, vc, rfl, hv2, hv3⟩ := bs_shape (show Bs w vv v from he.2)
  obtain ⟨-, ao, pc, rfl, hp2, hp3, -, -⟩ := hp
  unfold maxLen at hp3
  obtain ⟨ka, kc, rfl, hk2, hk3⟩ := zs_shape hk
  obtain ⟨M, hM⟩ : ∃ M, vs.length = M := ⟨_, rfl⟩
  obtain ⟨m, hm'⟩ : ∃ m, of.length = m := ⟨_, rfl⟩
  obtain ⟨n, hn'⟩ : ∃ n, v.length = n := ⟨_, rfl⟩
  obtain ⟨k, hk'⟩ : ∃ k, l.length = k := ⟨_, rfl⟩
  have HM : Hid (vs.length = M) := hM
  have Hm : Hid (of.length = m) := hm'
  have Hn : Hid (v.length = n) := hn'
  have Hk : Hid (l.length = k) := hk'
  rw [hm'] at ho2 HZ HW ⊢
  rw [hn'] at hv2 HV HW ⊢
  rw [hM] at hp2 HP ⊢
  rw [hk'] at hk2 HK ⊢
  clear hM hm' hn' hk' hps he hw hk
  go_enter Try.func5, Try.ntmps5
  go_upto_region 1 with fail
  obtain ⟨w1, hw1⟩ : ∃ x, w.alloc (.cells #[.slice bo m oc, .slice va n vc] 41) = x := ⟨_, rfl⟩
  rw [hw1]
  have E1 : Hid (EqB w1 w.heap.size (.slice bo m oc) (.slice va n vc)) := by rw [← hw1]; exact EqB.new _ _ _ _
  have X1 : Hid (Below w.heap.size w w1) := by rw [← hw1]; exact below_alloc _ _
  have hs1 : w1.heap.size = w.heap.size + 1 := by rw [← hw1]; simp
  clear hw1
  obtain ⟨w2, hw2⟩ : ∃ x, w1.alloc (.cells #[.slice ka k kc] 39) = x := ⟨_, rfl⟩
  have K2 : Hid (w2.cell? ⟨w.heap.size + 1, 0, none⟩ = some (.slice ka k kc)) := by rw [← hw2, ← hs1]; unfold Hid; simp
  have X12 : Hid (Below w1.heap.size w1 w2) := by rw [← hw2]; exact below_alloc _ _
  rw [hw2]
  clear hw2
  have X2 : Hid (Below w.heap.size w w2) := on_below X1.out X12.out
  have E2 : Hid (EqB w2 w.heap.size (.slice bo m oc) (.slice va n vc)) := E1.out.below X12.out
  obtain ⟨q, hq⟩ : ∃ x, w.heap.size + 1 = x := ⟨_, rfl⟩
  rw [hq] at K2 ⊢
  clear hq hs1 E1 X1 X12
  go_wp2_with fail
  refine (speaks15_any _).mono ?_
  rintro e w3 ⟨rfl, hb⟩
  have X23 : Hid (Below w2.heap.size w2 w3) := hb
  have X3 : Hid (Below w.heap.size w w3) := on_below X2.out hb
  have BX : Hid (∀ W, Below w3.heap.size w3 W → EqB W w.heap.size (.slice bo m oc) (.slice va n vc)) := fun W hW => E2.out.below (on_below X23.out hW)
  have KX : Hid (∀ W, Below w3.heap.size w3 W → W.cell? ⟨q, 0, none⟩ = some (.slice ka k kc)) := fun W hW => ((on_below X23.out hW).cell (cell_block_lt K2.out)).trans K2.out
  obtain ⟨c0, c1⟩ := BX.out w3 (Below.refl _ _)
  have k0 := KX.out w3 (Below.refl _ _)
  clear hb X23 X2 E2 K2
  have HWL : Hid (∀ e ∈ [(⟨.slice bo m oc, .slice va n vc, of, v⟩ : Qe)], QeW e) := by
    intro e he
    have e1 : e = _ := List.mem_singleton.1 he
    rw [e1]
    exact HW.out
  have QW : Hid (QeP w3 ⟨.slice bo m oc, .slice va n vc, of, v⟩) := ⟨HZ.out.below X3.out, HV.out.below X3.out⟩
  go_wp2_with fail
  refine (big15_any _ [⟨.slice bo m oc, .slice va n vc, of, v⟩] _ (Qs.lit1 w3 ⟨.slice bo m oc, .slice va n vc, of, v⟩ _ rfl QW.out) HWL.out).mono ?_
  rintro e w4 ⟨⟨r, rfl, hbig⟩, hb⟩
  have X34 : Hid (Below w3.heap.size w3 w4) := on_below (below_alloc _ _) hb
  have X4 : Hid (Below w.heap.size w w4) := on_below X3.out X34.out
  have HB : Hid (r = false → m + 1 ≤ 300 ∧ n ≤ 60) := fun h => by
    have h1 := big_one (hbig h)
    have := Hm.out
    have := Hn.out
    simp only [] at h1
    omega
  have kc0 := KX.out w4 X34.out
  clear hb hbig c0 c1 k0 QW
  cases r with
  | true =>
    clear HB
    go_wp2
    go_ret
    exact ⟨rfl, X4.out⟩
  | false =>
    have HL : Hid (m + 1 ≤ 300 ∧ n ≤ 60) := HB.out rfl
    clear HB
    by_cases hM60 : 60 < M
    · have dM : decide (60 < (M : Int)) = true := decide_eq_true (by omega)
      go_wp2
      go_ret
      exact ⟨rfl, X4.out⟩
    have dM : decide (60 < (M : Int)) = false := decide_eq_false (by omega)
    by_cases hk60 : 60 < k
    · have dk : decide (60 < (k : Int)) = true := decide_eq_true (by omega)
      go_wp2
      go_ret
      exact ⟨rfl, X4.out⟩
    have dk : decide (60 < (k : Int)) = false := decide_eq_false (by omega)
    obtain ⟨c0, c1⟩ := BX.out w4 X34.out
    go_wp2
    clear c0 c1 kc0
    go_loopw [7, 29] (fun lv iv wr => ∃ (i t : Nat) (a : Option Addr) (c : Nat), i ≤ m ∧ iv = .int .i64 i ∧ lv = .slice a t c ∧ Hid (OwnZ w3.heap.size wr (.slice a t c) t (leftZ l (of.take i))) ∧ Hid (Below w3.heap.size w3 wr)) (fun _ iv _ => m - (intOf iv).toNat)
    case atStart => exact ⟨0, 0, none, 0, by omega, rfl, rfl, OwnZ.nil _ _, X34⟩
    case round =>
      clear X34 X4
      obtain ⟨i, t, a, c, hi, rfl, rfl, OO, BB⟩ := hrel
      have kc0 := KX.out wr BB.out
      by_cases hlt : i < m
      · obtain ⟨z, hz⟩ : ∃ z, of[i]? = some z := ⟨_, List.getElem?_eq_getElem (by rw [Hm.out]; exact hlt)⟩
        have HZ' : Zs w (.slice bo m oc) of := HZ.out
        obtain ⟨b1, off, rfl, ci⟩ := zs_at HZ' (on_below X3.out BB.out) hz
        have NX : Hid (leftZ l (of.take (i + 1)) = leftZ l (of.take i) ++ (if z ∈ l then [] else [z])) := leftZ_take hz
        have ML : Hid (t ≤ i) := by have h1 := OO.out.len; have h2 := leftZ_le l of i; unfold Hid; omega
        clear hz HZ'
        go_wp2_with fail
        refine (rhas_any z _ l wr (HK.out.below (on_below X3.out BB.out))).mono ?_
        rintro e w' ⟨rfl, rfl⟩
        by_cases hzl : z ∈ l
        · have O4 : Hid (OwnZ w3.heap.size w' (.slice a t c) t (leftZ l (of.take (i + 1)))) := by
            have h1 := NX.out
            rw [if_pos hzl, List.append_nil] at h1
            rw [h1]
            exact OO.out
          have d : decide (z ∈ l) = true := decide_eq_true hzl
          clear NX OO
          go_wp2
          go_roundw
          case rel => exact ⟨i + 1, t, a, c, by omega, by go_num, rfl, O4, BB⟩
          case measure => simp [intOf]; omega
        · have NY : Hid (leftZ l (of.take (i + 1)) = leftZ l (of.take i) ++ [z]) := by
            have h1 := NX.out
            rw [if_neg hzl] at h1
            exact h1
          have d : decide (z ∈ l) = false := decide_eq_false hzl
          have OA : Hid (OwnZ w3.heap.size (w'.alloc (.cells #[.int .i64 z] 3)) (.slice a t c) t (leftZ l (of.take i))) := OO.out.alloc _
          have BA : Hid (Below w3.heap.size w3 (w'.alloc (.cells #[.int .i64 z] 3))) := BB.out.alloc BB.out.size _
          have hti : t + 1 ≤ 1000000000 := by have := ML.out; have := HL.out.1; omega
          clear NX OO BB
          go_wp2_with (at_builtin; refine wpList_addZ _ rfl (.tmp 37) (.tmp 39) rfl w3.heap.size (.slice a t c) t _ rfl OA.out _ 1 [z] rfl (zs_one _ _ _) hti BA.out.size ?_; intro a4 k4 w4 ho4 hg4 hat4 hnc4 hcm4)
          have O4 : Hid (OwnZ w3.heap.size w4 (.slice a4 (t + 1) k4) (t + 1) (leftZ l (of.take (i + 1)))) := by rw [NY.out]; exact ho4
          have B4 : Hid (Below w3.heap.size w3 w4) := below_added BA.out OA.out (Nat.le_refl _) BA.out.size hg4
          clear ho4 hg4 hat4 OA BA NY
          go_roundw
          case rel => exact ⟨i + 1, t + 1, a4, k4, by omega, by go_num, rfl, O4, B4⟩
          case measure => simp [intOf]; omega
      · obtain rfl : m = i := by omega
        obtain ⟨L, hL⟩ : ∃ L, leftZ l of = L := ⟨_, rfl⟩
        have R : Hid (OwnZ w3.heap.size wr (.slice a t c) t L) := by
          have h1 := OO.out
          rw [List.take_of_length_le (by rw [Hm.out]; exact Nat.le_refl _), hL] at h1
          exact h1
        have HLL : Hid (leftZ l of = L) := hL
        have EB := BX.out wr BB.out
        have EL := EB.load
        obtain ⟨c0, c1⟩ := EB
        obtain ⟨w5, hw5⟩ : ∃ x, x = wr := ⟨_, rfl⟩
        subst hw5
        have hmf : ∀ (fn : Fn) (first cap : Array Value) (w : World), (Instr.makeFunc fn first cap).run Try.prog w = .ok (.func fn first cap) w := fun _ _ _ _ => rfl
        clear OO hL
        go_wp2_with fail
        refine (qleft_any _ _ of l q _ w5 (HZ.out.below (on_below X3.out BB.out)) kc0 (HK.out.below (on_below X3.out BB.out)) (by rw [Hm.out]; have := HL.out.1; omega)).mono ?_
        rintro e w6 ⟨a6, m6, c6, rfl, ho, hb⟩
        rw [HLL.out] at ho
        have X6 : Hid (Below w.heap.size w w6) := on_below (on_below X3.out BB.out) hb
        have X36 : Hid (Below w3.heap.size w3 w6) := on_below BB.out hb
        have O6 : Hid (Zs w6 (.slice a6 m6 c6) L) := ho.zs
        have R6 : Hid (Zs w6 (.slice a t c) L) := R.out.zs.below hb
        have BX6 : Hid (∀ W, Below w6.heap.size w6 W → EqB W w.heap.size (.slice bo m oc) (.slice va n vc)) := fun W hW => BX.out W (on_below X36.out hW)
        obtain ⟨r, hr⟩ : ∃ r : Bool, (r = true ↔ HoldsP of v ls) := by
          by_cases hh : HoldsP of v ls
          · exact ⟨true, by simp [hh]⟩
          · exact ⟨false, by simp [hh]⟩
        have HR : Hid (r = true ↔ HoldsP of v ls) := hr
        have C2 : Hid (∀ W, Below w6.heap.size w6 W → Calls Try.prog 29 #[.agg #[.slice bo m oc, .slice va n vc], .slice ao M pc] W fun e w' => ∃ v, e = .returned v ∧ IsV (.bool r) v w' ∧ Below W.heap.size W w') := by
          intro W hW
          have XW := on_below X6.out hW
          refine (qholds_any _ _ _ of v vs ls W (HZ.out.below XW) (HV.out.below XW) (by rw [HM.out]; exact HP.out.below XW) (HPS.out.below XW) (by rw [Hm.out]; have := HL.out.1; omega) (by rw [Hn.out]; have := HL.out.2; omega)).mono ?_
          rintro e w' ⟨⟨r', rfl, h1⟩, hb⟩
          refine ⟨_, rfl, ?_, hb⟩
          have : r' = r := by rw [Bool.eq_iff_iff]; exact h1.trans HR.out.symm
          rw [this]
          rfl
        have C8 : Hid (∀ W, Below w6.heap.size w6 W → Calls Try.prog 30 #[.slice bo m oc, .slice va n vc, .slice ao M pc] W fun e w' => ∃ v, e = .returned v ∧ IsV (.bool r) v w' ∧ Below W.heap.size W w') := by
          intro W hW
          have XW := on_below X6.out hW
          refine (rholds_any _ _ _ of v vs ls W (HZ.out.below XW) (HV.out.below XW) (by rw [HM.out]; exact HP.out.below XW) (HPS.out.below XW) (by rw [Hm.out]; have := HL.out.1; omega) (by rw [Hn.out]; have := HL.out.2; omega)).mono ?_
          rintro e w' ⟨⟨r', rfl, h1⟩, hb⟩
          refine ⟨_, rfl, ?_, hb⟩
          have : r' = r := by rw [Bool.eq_iff_iff]; exact h1.trans HR.out.symm
          rw [this]
          rfl
        have C13 : Hid (∀ W, Below w6.heap.size w6 W → Calls Try.prog 23 #[.slice a6 m6 c6, .slice a t c] W fun e w' => ∃ v, e = .returned v ∧ IsV (.int .i64 1) v w' ∧ Below W.heap.size W w') := by
          intro W hW
          refine (same9_any _ _ L L W (O6.out.below hW) (R6.out.below hW)).mono ?_
          rintro e w' ⟨rfl, hb⟩
          exact ⟨_, rfl, by rw [sameI_self]; rfl, hb⟩
        clear ho hb hr HR O6 R6 R EL c0 c1 kc0 X36 BX KX BB hmf HLL HP HPS HK HZ HV HW HL X3
        go_upto_region 13 with fail
        refine wp_region_any (by kernel_rfl) ?_
        obtain ⟨gs, hgs⟩ : ∃ gs : List (Value → World → Prop), gs = [IsV (.agg #[.slice bo m oc, .slice va n vc]), IsV (Value.slice ao M pc), IsV (.bool r), IsV (.pointer (some ⟨w.heap.size, 0, none⟩)), IsV (.slice bo m oc), IsV (.pointer (some ⟨w.heap.size, 1, none⟩)), IsV (.slice va n vc), IsV (Value.slice ao M pc), IsV (.bool r), IsV (.bool true), IsV (.bool true), IsV (Value.slice a6 m6 c6), IsV (Value.slice a t c), IsV (Value.int IntKind.i64 (1 : Int)), IsV (.bool true), IsV (.bool true), IsV (.bool true)] := ⟨_, rfl⟩
        have g0 : Hid (gs[0]? = some (IsV (.agg #[.slice bo m oc, .slice va n vc]))) := by unfold Hid; rw [hgs]; rfl
        have g1 : Hid (gs[1]? = some (IsV (Value.slice ao M pc))) := by unfold Hid; rw [hgs]; rfl
        have g2 : Hid (gs[2]? = some (IsV (.bool r))) := by unfold Hid; rw [hgs]; rfl
        have g3 : Hid (gs[3]? = some (IsV (.pointer (some ⟨w.heap.size, 0, none⟩)))) := by unfold Hid; rw [hgs]; rfl
        have g4 : Hid (gs[4]? = some (IsV (.slice bo m oc))) := by unfold Hid; rw [hgs]; rfl
        have g5 : Hid (gs[5]? = some (IsV (.pointer (some ⟨w.heap.size, 1, none⟩)))) := by unfold Hid; rw [hgs]; rfl
        have g6 : Hid (gs[6]? = some (IsV (.slice va n vc))) := by unfold Hid; rw [hgs]; rfl
        have g7 : Hid (gs[7]? = some (IsV (Value.slice ao M pc))) := by unfold Hid; rw [hgs]; rfl
        have g8 : Hid (gs[8]? = some (IsV (.bool r))) := by unfold Hid; rw [hgs]; rfl
        have g9 : Hid (gs[9]? = some (IsV (.bool true))) := by unfold Hid; rw [hgs]; rfl
        have g10 : Hid (gs[10]? = some (IsV (.bool true))) := by unfold Hid; rw [hgs]; rfl
        have g11 : Hid (gs[11]? = some (IsV (Value.slice a6 m6 c6))) := by unfold Hid; rw [hgs]; rfl
        have g12 : Hid (gs[12]? = some (IsV (Value.slice a t c))) := by unfold Hid; rw [hgs]; rfl
        have g13 : Hid (gs[13]? = some (IsV (Value.int IntKind.i64 (1 : Int)))) := by unfold Hid; rw [hgs]; rfl
        have g14 : Hid (gs[14]? = some (IsV (.bool true))) := by unfold Hid; rw [hgs]; rfl
        have g15 : Hid (gs[15]? = some (IsV (.bool true))) := by unfold Hid; rw [hgs]; rfl
        have g16 : Hid (gs[16]? = some (IsV (.bool true))) := by unfold Hid; rw [hgs]; rfl
        have gk : Hid (∀ p ∈ gs, Stays p) := by
          unfold Hid
          rw [hgs]
          simp only [List.forall_mem_cons]
          exact ⟨stays_v _, stays_v _, stays_v _, stays_v _, stays_v _, stays_v _, stays_v _, stays_v _, stays_v _, stays_v _, stays_v _, stays_v _, stays_v _, stays_v _, stays_v _, stays_v _, stays_v _, by simp⟩
        clear hgs
        refine wpAny_inv (fun listed ac W => ∃ xv : Nat → Value, ac = ⟨#[Value.agg #[Value.slice bo m oc, Value.slice va n vc], Value.slice ao M pc, Value.slice ka k kc, Value.pointer (some { block := w.heap.size, off := 0 }), undef, Value.pointer (some { block := q, off := 0 }), xv 16, Value.slice a t c, undef, u9, Value.slice a6 m6 c6, Value.bool true, Value.bool false, Value.agg #[Value.slice bo m oc, Value.slice va n vc], Value.slice (some { block := w3.heap.size, off := 0 }) 1 1, Value.bool false, Value.bool false, Value.slice ao M pc, Value.int IntKind.i64 ↑M, Value.bool false, Value.bool false, Value.bool false, Value.slice ka k kc, Value.int IntKind.i64 ↑k, Value.bool false, Value.bool false, Value.pointer (some { block := w.heap.size, off := 0 }), Value.slice bo m oc, Value.int IntKind.i64 ↑m, Value.int IntKind.i64 ↑m, Value.bool false, u31, u32, u33, u34, u35, u36, u37, u38, u39, u40, u41, Value.agg #[Value.slice bo m oc, Value.slice va n vc], Value.func (Fn.func 28) #[] #[Value.pointer (some { block := q, off := 0 })], Value.slice a6 m6 c6, xv 0, xv 1, xv 2, xv 3, xv 4, xv 5, xv 6, xv 7, xv 8, xv 9, xv 10, xv 11, xv 12, xv 13, xv 14, xv 15], []⟩ ∧ Below w6.heap.size w6 W ∧ Lst gs listed xv W) (by kernel_rfl) ?_ ?_ _ _ _ _ (by kernel_rfl) (of_decide_eq_true (by kernel_rfl)) ⟨fun j => if j = 16 then Value.bool false else undef, rfl, below0 _, Lst.start _ _ _ _⟩
        · go_light
          rintro listed ac W ⟨xv, rfl, hb, hG⟩ i hi hd
          have hin : i < 17 := hi
          clear hi
          have hcase : i = 0 ∨ i = 1 ∨ i = 2 ∨ i = 3 ∨ i = 4 ∨ i = 5 ∨ i = 6 ∨ i = 7 ∨ i = 8 ∨ i = 9 ∨ i = 10 ∨ i = 11 ∨ i = 12 ∨ i = 13 ∨ i = 14 ∨ i = 15 ∨ i = 16 := by omega
          rcases hcase with rfl | rfl | rfl | rfl | rfl | rfl | rfl | rfl | rfl | rfl | rfl | rfl | rfl | rfl | rfl | rfl | rfl
          · refine wpOp_step rfl (fun K' hK => ?_)
            obtain ⟨c0, c1⟩ := BX6.out W hb
            clear hd hin
            go_simp
            exact hK _ _ ⟨updV xv 0 (.agg #[.slice bo m oc, .slice va n vc]), by simp [updV], hb, hG.same gk.out g0.out _ rfl⟩
          · refine wpOp_step rfl (fun K' hK => ?_)
            clear hd hin
            go_simp
            exact hK _ _ ⟨updV xv 1 (Value.slice ao M pc), by simp [updV], hb, hG.same gk.out g1.out _ rfl⟩
          · refine wpOp_step rfl (fun K' hK => ?_)
            simp [Region.binds] at hd
            have e0 : xv 0 = .agg #[.slice bo m oc, .slice va n vc] := hG.get g0.out (by simp [hd])
            have e1 : xv 1 = Value.slice ao M pc := hG.get g1.out (by simp [hd])
            clear hd hin
            go_simp
            refine (C2.out W hb).mono ?_
            rintro e w' ⟨v, rfl, hv, hb'⟩
            go_wp2_with fail
            exact ⟨updV xv 2 v, by simp [updV, e0, e1], hb.trans (hb'.mono hb.size), hG.step gk.out hb' g2.out v hv⟩
          · refine wpOp_step rfl (fun K' hK => ?_)
            clear hd hin
            go_simp
            exact hK _ _ ⟨updV xv 3 (.pointer (some ⟨w.heap.size, 0, none⟩)), by simp [updV], hb, hG.same gk.out g3.out _ rfl⟩
          · refine wpOp_step rfl (fun K' hK => ?_)
            simp [Region.binds] at hd
            have e3 : xv 3 = .pointer (some ⟨w.heap.size, 0, none⟩) := hG.get g3.out (by simp [hd])
            obtain ⟨c0, c1⟩ := BX6.out W hb
            clear hd hin
            go_simp
            exact hK _ _ ⟨updV xv 4 (.slice bo m oc), by simp [updV, e3], hb, hG.same gk.out g4.out _ rfl⟩
          · refine wpOp_step rfl (fun K' hK => ?_)
            clear hd hin
            go_simp
            exact hK _ _ ⟨updV xv 5 (.pointer (some ⟨w.heap.size, 1, none⟩)), by simp [updV], hb, hG.same gk.out g5.out _ rfl⟩
          · refine wpOp_step rfl (fun K' hK => ?_)
            simp [Region.binds] at hd
            have e5 : xv 5 = .pointer (some ⟨w.heap.size, 1, none⟩) := hG.get g5.out (by simp [hd])
            obtain ⟨c0, c1⟩ := BX6.out W hb
            clear hd hin
            go_simp
            exact hK _ _ ⟨updV xv 6 (.slice va n vc), by simp [updV, e5], hb, hG.same gk.out g6.out _ rfl⟩
          · refine wpOp_step rfl (fun K' hK => ?_)
            clear hd hin
            go_simp
            exact hK _ _ ⟨updV xv 7 (Value.slice ao M pc), by simp [updV], hb, hG.same gk.out g7.out _ rfl⟩
          · refine wpOp_step rfl (fun K' hK => ?_)
            simp [Region.binds] at hd
            have e4 : xv 4 = .slice bo m oc := hG.get g4.out (by simp [hd])
            have e6 : xv 6 = .slice va n vc := hG.get g6.out (by simp [hd])
            have e7 : xv 7 = Value.slice ao M pc := hG.get g7.out (by simp [hd])
            clear hd hin
            go_simp
            refine (C8.out W hb).mono ?_
            rintro e w' ⟨v, rfl, hv, hb'⟩
            go_wp2_with fail
            exact ⟨updV xv 8 v, by simp [updV, e4, e6, e7], hb.trans (hb'.mono hb.size), hG.step gk.out hb' g8.out v hv⟩
          · refine wpOp_step rfl (fun K' hK => ?_)
            simp [Region.binds] at hd
            have e2 : xv 2 = .bool r := hG.get g2.out (by simp [hd])
            have e8 : xv 8 = .bool r := hG.get g8.out (by simp [hd])
            clear hd hin
            go_simp
            exact hK _ _ ⟨updV xv 9 (.bool true), by simp [updV, e2, e8], hb, hG.same gk.out g9.out _ rfl⟩
          · refine wpOp_step rfl (fun K' hK => ?_)
            simp [Region.binds] at hd
            have e9 : xv 9 = .bool true := hG.get g9.out (by simp [hd])
            clear hd hin
            go_simp
            exact hK _ _ ⟨updV xv 10 (.bool true), by simp [updV, e9], hb, hG.same gk.out g10.out _ rfl⟩
          · refine wpOp_step rfl (fun K' hK => ?_)
            simp [Region.binds] at hd
            have e10 : xv 10 = .bool true := hG.get g10.out (by simp [hd])
            clear hd hin
            go_simp
            exact hK _ _ ⟨updV xv 11 (Value.slice a6 m6 c6), by simp [updV, e10], hb, hG.same gk.out g11.out _ rfl⟩
          · refine wpOp_step rfl (fun K' hK => ?_)
            simp [Region.binds] at hd
            have e10 : xv 10 = .bool true := hG.get g10.out (by simp [hd])
            clear hd hin
            go_simp
            exact hK _ _ ⟨updV xv 12 (Value.slice a t c), by simp [updV, e10], hb, hG.same gk.out g12.out _ rfl⟩
          · refine wpOp_step rfl (fun K' hK => ?_)
            simp [Region.binds] at hd
            have e11 : xv 11 = Value.slice a6 m6 c6 := hG.get g11.out (by simp [hd])
            have e12 : xv 12 = Value.slice a t c := hG.get g12.out (by simp [hd])
            have e10 : xv 10 = .bool true := hG.get g10.out (by simp [hd])
            clear hd hin
            go_simp
            refine (C13.out W hb).mono ?_
            rintro e w' ⟨v, rfl, hv, hb'⟩
            go_wp2_with fail
            exact ⟨updV xv 13 v, by simp [updV, e11, e12, e10], hb.trans (hb'.mono hb.size), hG.step gk.out hb' g13.out v hv⟩
          · refine wpOp_step rfl (fun K' hK => ?_)
            simp [Region.binds] at hd
            have e13 : xv 13 = Value.int IntKind.i64 (1 : Int) := hG.get g13.out (by simp [hd])
            have e10 : xv 10 = .bool true := hG.get g10.out (by simp [hd])
            clear hd hin
            go_simp
            exact hK _ _ ⟨updV xv 14 (.bool true), by simp [updV, e13, e10], hb, hG.same gk.out g14.out _ rfl⟩
          · refine wpOp_step rfl (fun K' hK => ?_)
            simp [Region.binds] at hd
            have e10 : xv 10 = .bool true := hG.get g10.out (by simp [hd])
            have e14 : xv 14 = .bool true := hG.get g14.out (by simp [hd])
            clear hd hin
            go_simp
            exact hK _ _ ⟨updV xv 15 (.bool true), by simp [updV, e10, e14], hb, hG.same gk.out g15.out _ rfl⟩
          · refine wpOp_step rfl (fun K' hK => ?_)
            simp [Region.binds] at hd
            have e15 : xv 15 = .bool true := hG.get g15.out (by simp [hd])
            clear hd hin
            go_simp
            exact hK _ _ ⟨updV xv 16 (.bool true), by simp [updV, e15], hb, hG.same gk.out g16.out _ rfl⟩
        · rintro listed ac W ⟨xv, rfl, hb, hG⟩ hall
          have e16 : xv 16 = .bool true := hG.get g16.out (hall 16 (by decide))
          have XW : Hid (Below w6.heap.size w6 W) := hb
          clear hall hG hb gk g0 g1 g2 g3 g4 g5 g6 g7 g8 g9 g10 g11 g12 g13 g14 g15 g16
          rw [e16]
          clear e16
          have B9 : Hid (Below w.heap.size w W) := on_below X6.out XW.out
          clear XW BX6 C2 C8 C13
          go_wp2
          go_ret
          exact ⟨rfl, B9.out⟩

theorem equationHolds_law (e : Qe) (pv : Value) (vs : List Value) (ls : List (List UInt8)) (kv : Value) (l : List Int) (w : World) (he : QeP w e) (hw : QeW e) (hp : Sl 1 w pv vs.length vs) (hps : Parts w vs ls) (hk : Zs w kv l) (_ : ∀ z ∈ l, (Lit.int .i64 z).wf = true) :
    Calls Try.prog 5 #[.agg #[e.ov, e.vv], pv, kv] w fun e w' => e = .returned (.bool true) ∧ Below w.heap.size w w' := equationHolds_walk e.ov e.vv pv kv e.of e.va vs ls l w he hw hp hps hk

end Go.Proofs.Ytkcijbejngnalaa
