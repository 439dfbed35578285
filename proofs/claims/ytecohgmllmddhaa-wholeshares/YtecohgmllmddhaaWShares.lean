/-
  WholeShares.
-/
import Derived.Test.YtecohgmllmddhaaDegF
import Derived.Test.YtecohgmllmddhaaRngS
import Derived.Test.YtecohgmllmddhaaShC
import Derived.Maps.Own
import Derived.Maps.OwnOps
import Derived.Maps.Views
import Derived.Deep.CutRange
namespace Go.Proofs.Ytecohgmllmddhaa
open Go.RowKit Go.Maps
set_option linter.unusedVariables false

theorem Try.lawInt : Keyed Try.prog 3 := int_keyed Try.underlying3
theorem Try.zeroInt (w : World) : (zeroValue 3).run Try.prog w = .ok (.int .i64 0) w := by kernel_rfl

theorem may_four : May 9 1 1 ((500 : Nat) : Int) ((4 : Nat) : Int) := ⟨by omega, by omega, by omega, by omega, by omega, by decide⟩
theorem mayD_four : MayD 4 500 := ⟨by decide, by decide, by decide, by decide, by decide⟩
theorem below41 : belowN 4 500 1 = 3074457345618258602 := by decide
theorem below42 : belowN 4 500 2 = 13322648497679120611 := by decide
theorem below43 : belowN 4 500 3 = 16738712215032741281 := by decide

theorem dg_at (y : Nat) : DegAt 4 500 y (dg y) := by
  have key : ∀ i, 1 ≤ i → i < 4 → i = 1 ∨ i = 2 ∨ i = 3 := fun i h1 h2 => by omega
  unfold dg
  by_cases h1 : 3074457345618258602 ≤ y
  · rw [if_pos h1]
    by_cases h2 : 13322648497679120611 ≤ y
    · rw [if_pos h2]
      by_cases h3 : 16738712215032741281 ≤ y
      · rw [if_pos h3]
        refine ⟨by decide, by decide, fun i a b => ?_, fun h => absurd h (by decide)⟩
        rcases key i a b with rfl | rfl | rfl
        · rw [below41]; exact h1
        · rw [below42]; exact h2
        · rw [below43]; exact h3
      · rw [if_neg h3]
        refine ⟨by decide, by decide, fun i a b => ?_, fun _ => by rw [below43]; exact Nat.lt_of_not_le h3⟩
        rcases key i a (by omega) with rfl | rfl | rfl
        · rw [below41]; exact h1
        · rw [below42]; exact h2
        · omega
    · rw [if_neg h2]
      refine ⟨by decide, by decide, fun i a b => ?_, fun _ => by rw [below42]; exact Nat.lt_of_not_le h2⟩
      obtain rfl : i = 1 := by omega
      rw [below41]; exact h1
  · rw [if_neg h1]
    exact ⟨by decide, by decide, fun i a b => by omega, fun _ => by rw [below41]; exact Nat.lt_of_not_le h1⟩

theorem wf_small {n : Nat} (h : n ≤ 100000) : (Lit.int .i64 (n : Int)).wf = true := by
  simp [Lit.wf, IntKind.min, IntKind.max, IntKind.bits, IntKind.signed]
  omega

/-- The map: how often each degree was drawn. -/
structure CntI (g : Nat → Nat) (w : World) (mb k : Nat) (D : DataW Unit) : Prop where
  own : w.ownsMap Try.prog 3 (plainElem Try.prog 3) mb k D
  isM : IsMap D
  at_ : ∀ d : Nat, D.atKey (.int .i64 (d : Int)) (.lit (.int .i64 0)) = .lit (.int .i64 (cntG g d k : Nat))

theorem cntI_start (g : Nat → Nat) (w : World) : CntI g (w.alloc (.map #[] 0)) w.heap.size 0 (.map []) := ⟨World.ownsMap_made _ _ _ _, isMap_empty, fun d => rfl⟩

theorem CntI.kept {g : Nat → Nat} {w w' : World} {mb k : Nat} {D : DataW Unit} (h : CntI g w mb k D) (hk : w'.heap[mb]? = w.heap[mb]?) : CntI g w' mb k D := by
  obtain ⟨es, clock, h1, h2⟩ := h.own
  exact ⟨⟨es, clock, hk.trans h1, h2⟩, h.isM, h.at_⟩

theorem CntI.below {g : Nat → Nat} {w w' : World} {mb k : Nat} {D : DataW Unit} (h : CntI g w mb k D) (hb : Below w.heap.size w w') : CntI g w' mb k D := h.kept (hb.block mb h.own.lt)

theorem CntI.put {g : Nat → Nat} {w w' : World} {mb k : Nat} {D : DataW Unit} (h : CntI g w mb k D) {d : Nat} (hd : g k = d) (h' : w'.ownsMap Try.prog 3 (plainElem Try.prog 3) mb (k + 1) (D.put (.int .i64 (d : Int)) (.lit (.int .i64 ((cntG g d k + 1 : Nat) : Int))))) : CntI g w' mb (k + 1) (D.put (.int .i64 (d : Int)) (.lit (.int .i64 ((cntG g d k + 1 : Nat) : Int)))) := by
  refine ⟨h', h.isM.put _ _, fun e => ?_⟩
  by_cases he : e = d
  · subst he
    rw [atKey_put_same h.isM (by simp [WideAt.IsKeyLit]), cntG_same hd]
  · rw [atKey_put_other (fun q => he (by injection q with _ q; omega)), h.at_ e, cntG_other (fun q => he (by rw [← hd, q]))]

theorem lit_inj {a b : Int} (h : (DataW.lit (.int .i64 a) : DataW Unit) = .lit (.int .i64 b)) : a = b := by
  injection h with h
  injection h

theorem CntI.look {g : Nat → Nat} {w : World} {mb k : Nat} {D : DataW Unit} (h : CntI g w mb k D) (d : Nat) (hd : d ≤ 100000) : (Instr.lookup 75 (.map (some mb)) (.int .i64 (d : Int)) false).run Try.prog w = .ok (.int .i64 (cntG g d k : Nat)) w := by
  obtain ⟨c, hrun, hat, -⟩ := h.own.lookup_int Try.lawInt Try.underlying75 Try.underlying3 (Try.zeroInt _) (keyOf_int_mk Try.underlying3 (wf_small hd))
  rw [hrun, lit_inj (hat.symm.trans (h.at_ d))]

/-- What the second loop keeps. -/
structure Sh2 (w : World) (g : Nat → Nat) (b0 mb : Nat) (W : World) : Prop where
  hp : Five W b0 9 1 1 ((500 : Nat) : Int) ((4 : Nat) : Int)
  hb : Below w.heap.size w W
  hm : ∃ D, CntI g W mb 8000 D

theorem Sh2.below {w W W' : World} {g : Nat → Nat} {b0 mb : Nat} (h : Sh2 w g b0 mb W) (hb : Below W.heap.size W W') : Sh2 w g b0 mb W' := by
  obtain ⟨D, hD⟩ := h.hm
  exact ⟨h.hp.below hb, h.hb.trans (hb.mono h.hb.size), D, hD.below hb⟩

theorem Sh2.look {w W : World} {g : Nat → Nat} {b0 mb : Nat} (h : Sh2 w g b0 mb W) (d : Nat) (hd : d ≤ 100000) : (Instr.lookup 75 (.map (some mb)) (.int .i64 (d : Int)) false).run Try.prog W = .ok (.int .i64 (cntG g d 8000 : Nat)) W := by
  obtain ⟨D, hD⟩ := h.hm
  exact hD.look d hd

def lastA (j : Nat) : Nat := if j = 1 then 0 else if j = 2 then 3074457345618258602 else if j = 3 then 13322648497679120611 else 16738712215032741281

theorem xor_max : bits BinOp.xor IntKind.u64 (if IntKind.u64.signed = true then -1 else IntKind.u64.max) ((16738712215032741281 : Nat) : Int) = ((1708031858676810334 : Nat) : Int) := by decide +kernel

/-- All that a round keeps. -/
structure ShI (w : World) (g : Nat → Nat) (b0 a r mb s : Nat) (k : Nat) (W : World) : Prop where
  hr : IsRand W r s
  hd : IsDT W a 4 500
  hp : Five W b0 9 1 1 ((500 : Nat) : Int) ((4 : Nat) : Int)
  hb : Below w.heap.size w W
  hm : ∃ D, CntI g W mb k D

theorem us_two (w : World) (t : TypeId) (b x y : Nat) (hb : b = w.heap.size) (hx : x < 18446744073709551616) (hy : y < 18446744073709551616) : Us (w.alloc (.cells #[.int .u64 (x : Int), .int .u64 (y : Int)] t)) (.slice (some ⟨b, 0, none⟩) 2 2) [x, y] := ⟨Sl.lit w [uv x, uv y] t b 2 hb rfl (by simp), by
  intro z hz
  simp at hz
  rcases hz with rfl | rfl
  · exact hx
  · exact hy⟩

theorem Five.kept' {W W' : World} {b : Nat} {N B Q E F : Int} (h : Five W b N B Q E F) (hk : W'.heap[b]? = W.heap[b]?) : Five W' b N B Q E F := by
  obtain ⟨h0, h1, h2, h3, h4⟩ := h
  exact ⟨(World.cell?_of_block (a := ⟨b, 0, none⟩) hk).trans h0, (World.cell?_of_block (a := ⟨b, 1, none⟩) hk).trans h1, (World.cell?_of_block (a := ⟨b, 2, none⟩) hk).trans h2, (World.cell?_of_block (a := ⟨b, 3, none⟩) hk).trans h3, (World.cell?_of_block (a := ⟨b, 4, none⟩) hk).trans h4⟩

set_option maxRecDepth 100000 in
set_option maxHeartbeats 2000000 in
theorem wholeShares_core (seed x s0 : Nat) (g : Nat → Nat) (w : World) (hx : seed % 64 = x) (hseed : seedTo 0 [x, 77] = s0) (hg : ∀ k, g k = dg (mix (iterG addS (k + 1) s0))) (h4 : ∀ k, Four (g k))
    (hc : (959 ≤ cntG g 1 8000 ∧ cntG g 1 8000 ≤ 1706) ∧ (3293 ≤ cntG g 2 8000 ∧ cntG g 2 8000 ≤ 5595) ∧ (1070 ≤ cntG g 3 8000 ∧ cntG g 3 8000 ≤ 1891) ∧ (515 ≤ cntG g 4 8000 ∧ cntG g 4 8000 ≤ 965)) :
    Calls Try.prog 12 #[.int .u64 (seed : Nat)] w fun e w' => e = .returned (.bool true) ∧ Below w.heap.size w w' := by
  have hmm := @run_makeMap Try.prog
  have hxl : x < 64 := by omega
  have e1 : (seed : Int) % 64 = (x : Int) := by omega
  have HX : Hid (x < 64) := hxl
  have HSeed : Hid (seedTo 0 [x, 77] = s0) := hseed
  have HKK : Hid _ := hc
  have HG : Hid (∀ k, g k = dg (mix (iterG addS (k + 1) s0))) := hg
  have HS : Hid (cntG g 1 8000 + cntG g 2 8000 + cntG g 3 8000 + cntG g 4 8000 = 8000) := cntG_sum _ h4 8000
  have H4 : Hid (∀ k, Four (g k)) := h4
  clear hx hxl hc hg h4 hseed
  go_enter Try.func12, Try.ntmps12
  go_wp2_with fail
  refine (dnew_yes 9 1 1 500 4 _ may_four).mono ?_
  rintro e w1 ⟨a, ha, rfl, hd1, hb1⟩
  have F1 : Hid (Five w1 w.heap.size 9 1 1 ((500 : Nat) : Int) ((4 : Nat) : Int)) := (five_new w _ 9 1 1 _ _).below hb1
  have B1 : Hid (Below w.heap.size w w1) := below_mid (below_alloc _ _) hb1
  have D1 : Hid (IsDT w1 a 4 500) := hd1
  have N1 : Hid (w.heap.size < a ∧ a < w1.heap.size) := ⟨by simp at ha; omega, cell_block_lt hd1.c0⟩
  clear ha hd1 hb1
  go_wp2_with fail
  refine (rnew_any _ [x, 77] _ (us_two _ _ _ x 77 rfl (by have := HX.out; omega) (by decide))).mono ?_
  rintro e w2 ⟨rfl, hr2, hb2, hz2⟩
  have B2 : Hid (Below w.heap.size w w2) := below_mid (below_mid B1.out (below_alloc _ _)) hb2
  have F2 : Hid (Five w2 w.heap.size 9 1 1 ((500 : Nat) : Int) ((4 : Nat) : Int)) := (F1.out.below (below_alloc _ _)).below hb2
  have D2 : Hid (IsDT w2 a 4 500) := (D1.out.below (below_alloc _ _)).below hb2
  have hr2' : IsRand w2 (w1.alloc (.cells #[.int .u64 (x : Int), .int .u64 ((77 : Nat) : Int)] 22)).heap.size s0 := by rw [← HSeed.out]; exact hr2
  have N2 : Hid (w.heap.size < a ∧ a < (w1.alloc (.cells #[.int .u64 (x : Int), .int .u64 ((77 : Nat) : Int)] 22)).heap.size ∧ (w1.alloc (.cells #[.int .u64 (x : Int), .int .u64 ((77 : Nat) : Int)] 22)).heap.size < w2.heap.size) := ⟨N1.out.1, by have := N1.out.2; simp; omega, cell_block_lt hr2'.cell⟩
  obtain ⟨r, hr⟩ : ∃ r, (w1.alloc (.cells #[.int .u64 (x : Int), .int .u64 ((77 : Nat) : Int)] 22)).heap.size = r := ⟨_, rfl⟩
  rw [hr] at hr2' N2 ⊢
  have R2 : Hid (IsRand w2 r s0) := hr2'
  clear hr2 hr2' hb2 hz2 B1 F1 D1 N1 hr HX HSeed
  have I2 : Hid (ShI w g w.heap.size a r w2.heap.size s0 0 (w2.alloc (.map #[] 0))) := ⟨R2.out.below (below_alloc _ _), D2.out.below (below_alloc _ _), F2.out.below (below_alloc _ _), below_mid B2.out (below_alloc _ _), _, cntI_start g w2⟩
  have NM : Hid (r < w2.heap.size) := N2.out.2.2
  clear B2 F2 D2 R2
  go_wp2
  generalize w2.heap.size = mb at *
  go_loopw [31] (fun i wr => ∃ (k s : Nat), k ≤ 8000 ∧ i = .int .i64 k ∧ Hid (s = iterG addS k s0) ∧ Hid (ShI w g w.heap.size a r mb s k wr)) (fun i _ => 8000 - (intOf i).toNat)
  case atStart => exact ⟨0, s0, by omega, rfl, rfl, I2⟩
  case round =>
    obtain ⟨k, s, hk, rfl, HSt, I⟩ := hrel
    clear I2
    by_cases hlt : k < 8000
    · have HN : Hid (∀ W, IsRand W r s → Calls Try.prog 24 #[.pointer (some ⟨r, 0, none⟩)] W fun e w' => e = .returned (.int .u64 (mix (addS s) : Nat)) ∧ IsRand w' r (addS s) ∧ KeepsBut (fun k => k = r) W w' ∧ w'.heap.size = W.heap.size) := fun W h => rnd_next r s W h
      have HT2 : Hid (addS s = iterG addS (k + 1) s0) := by unfold Hid; rw [iterG_last, ← HSt.out]
      have HD : Hid (g k = dg (mix (addS s))) := by unfold Hid; rw [HG.out k, HT2.out]
      have HF : Hid (Four (dg (mix (addS s)))) := by unfold Hid; rw [← HD.out]; exact H4.out k
      have HO : Hid (∀ W, IsDT W a 4 500 → Calls Try.prog 33 #[.pointer (some ⟨a, 0, none⟩), .int .u64 (mix (addS s) : Nat)] W fun e w' => e = .returned (.int .i64 (dg (mix (addS s)) : Nat)) ∧ Below W.heap.size W w') := fun W hW => dof_at (dg_at _) a W hW mayD_four mix_lt
      generalize dg (mix (addS s)) = d at *
      generalize mix (addS s) = y at *
      generalize addS s = t at *
      go_wp2_with fail
      refine (HN.out _ I.out.hr).mono ?_
      rintro e w3 ⟨rfl, hr3, hk3, hz3⟩
      obtain ⟨D, hD⟩ := I.out.hm
      have C3 : Hid (CntI g w3 mb k D) := hD.kept (hk3.block mb hD.own.lt (by have := N2.out.2.2; have := NM.out; omega))
      have R3 : Hid (IsRand w3 r t) := hr3
      have D3 : Hid (IsDT w3 a 4 500) := I.out.hd.keeps hk3 (by have := N2.out.2.1; omega)
      have F3 : Hid (Five w3 w.heap.size 9 1 1 ((500 : Nat) : Int) ((4 : Nat) : Int)) := I.out.hp.kept' (hk3.block _ (cell_block_lt I.out.hp.1) (by have := N2.out; omega))
      have B3 : Hid (Below w.heap.size w w3) := I.out.hb.trans (hk3.below I.out.hb.size (fun k e => by have := N2.out; omega))
      clear hr3 hk3 hz3 hD HN I
      go_wp2_with fail
      refine (HO.out _ D3.out).mono ?_
      rintro e w4 ⟨rfl, hb4⟩
      have C4 : Hid (CntI g w4 mb k D) := C3.out.below hb4
      have R4 : Hid (IsRand w4 r t) := R3.out.below hb4
      have D4 : Hid (IsDT w4 a 4 500) := D3.out.below hb4
      have F4 : Hid (Five w4 w.heap.size 9 1 1 ((500 : Nat) : Int) ((4 : Nat) : Int)) := F3.out.below hb4
      have B4 : Hid (Below w.heap.size w w4) := below_mid B3.out hb4
      clear hb4 C3 R3 D3 F3 B3 HO
      have hkey : keyOf Try.prog 3 (.int .i64 (d : Int)) = some (.int .i64 (d : Int)) := keyOf_int_mk Try.underlying3 (wf_small (by rcases HF.out with h | h | h | h <;> omega))
      have hcl := cntG_le g d k
      have hat4 := C4.out.at_ d
      have HPut : Hid (∀ w', w'.ownsMap Try.prog 3 (plainElem Try.prog 3) mb (k + 1) (D.put (.int .i64 (d : Int)) (.lit (.int .i64 ((cntG g d k : Int) + 1)))) → ∃ D', CntI g w' mb (k + 1) D') := fun w' h => ⟨_, C4.out.put HD.out h⟩
      generalize cntG g d k = c0 at *
      have hown := C4.out.own
      have HH : Hid (D.atKey (.int .i64 (d : Int)) (.lit (.int .i64 0)) = .lit (.int .i64 (c0 : Int))) := hat4
      clear hat4
      have wfc : (Lit.int .i64 ((c0 : Int) + 1)).wf = true := wf_small (n := c0 + 1) (by omega)
      go_wp2_with (first
        | (at_lookup; refine wpList_lookup_own_int _ rfl _ _ 75 rfl 3 3 .i64 Try.lawInt Try.underlying75 Try.underlying3 (Try.zeroInt _) mb k D rfl hown _ _ rfl hkey ?_; intro c hat hwc; obtain rfl : c = (c0 : Int) := lit_inj (hat.symm.trans HH.out); clear hat hwc)
        | (at_mapUpdate; refine wpList_mapUpdate_own _ rfl _ _ _ 75 rfl 3 3 Try.lawInt Try.underlying75 _ mb k D rfl hown (by unfold maxLen; omega) _ _ _ rfl rfl hkey _ [] (plainElem_int Try.underlying3 wfc) ?_; intro w5 hown5 hgrow5))
      obtain ⟨D5, C5⟩ := HPut.out w5 hown5
      have K5 : ∀ q, q < w4.heap.size → q ≠ mb → w5.heap[q]? = w4.heap[q]? := fun q hq hne => hgrow5.block q hq (by simpa using hne)
      have I5 : Hid (ShI w g w.heap.size a r mb t (k + 1) w5) := by
        have n1 := N2.out
        have n2 := NM.out
        refine ⟨R4.out.kept (K5 r (cell_block_lt R4.out.cell) (by omega)), D4.out.kept (K5 a (cell_block_lt D4.out.c0) (by omega)), F4.out.kept' (K5 _ (cell_block_lt F4.out.1) (by omega)), B4.out.grown hgrow5 B4.out.size (fun j hj => by cases hj; omega), D5, C5⟩
      clear hown hown5 hgrow5 C4 R4 D4 F4 B4 C5 K5 HPut HH
      go_roundw
      case rel => exact ⟨k + 1, t, by omega, by go_num, HT2, I5⟩
      case measure => simp [intOf]; omega
    · obtain rfl : k = 8000 := by omega
      have J : Hid (Sh2 w g w.heap.size mb wr) := ⟨I.out.hp, I.out.hb, I.out.hm⟩
      have HL : Hid (∀ W, Sh2 w g w.heap.size mb W → ∀ d : Nat, d ≤ 100000 → (Instr.lookup 75 (.map (some mb)) (.int .i64 (d : Int)) false).run Try.prog W = .ok (.int .i64 (cntG g d 8000 : Nat)) W) := fun W h d hd => h.look d hd
      clear I HSt HG H4 hk N2 NM hlt e1
      go_wp2
      go_loopw [10, 9] (fun iv lv wr => ∃ (j : Nat), iv = .int .i64 (j : Nat) ∧ 1 ≤ j ∧ j ≤ 5 ∧ lv = .int .u64 (lastA j : Nat) ∧ Hid (Sh2 w g w.heap.size mb wr)) (fun iv _ _ => 6 - (intOf iv).toNat)
      case atStart => exact ⟨1, rfl, by omega, by omega, rfl, J⟩
      case round =>
        obtain ⟨j, rfl, hj1, hj2, rfl, J⟩ := hrel
        obtain ⟨c0, c1, c2, c3, c4⟩ := J.out.hp
        have hcase : j = 1 ∨ j = 2 ∨ j = 3 ∨ j = 4 ∨ j = 5 := by omega
        rcases hcase with rfl | rfl | rfl | rfl | rfl
        · obtain ⟨L, hL⟩ : ∃ n, lastA 1 = n := ⟨_, rfl⟩
          obtain ⟨M, hM⟩ : ∃ n, belowN 4 500 1 = n := ⟨_, rfl⟩
          obtain ⟨S, hS⟩ : ∃ n : Nat, n = 3074457345618258602 := ⟨_, rfl⟩
          have HM : Hid (lastA 2 = M) := hM ▸ below41.symm
          have hMv : M = 3074457345618258602 := hM ▸ below41
          have hLv : L = 0 := hL.symm
          have f1 : IntKind.u64.wrap ((M : Int) - (L : Int)) = (S : Int) := u64w_of (by rw [hMv, hLv, hS]; decide) (by rw [hS]; decide)
          have HB : Hid (∀ W, Calls Try.prog 32 #[.agg #[.int .i64 9, .int .i64 1, .int .i64 1, .int .i64 ((500 : Nat) : Int), .int .i64 ((4 : Nat) : Int)], .int .i64 ((1 : Nat) : Int)] W fun e w' => e = .returned (.int .u64 (M : Nat)) ∧ Below W.heap.size W w') := by
            intro W
            rw [← hM]
            exact rdbelow_any 9 1 1 4 500 1 W mayD_four (by decide) (by decide)
          obtain ⟨A, hA⟩ : ∃ n : Nat, n = 715827882 := ⟨_, rfl⟩
          obtain ⟨V, hV⟩ : ∃ n : Nat, n = 5726623056000 := ⟨_, rfl⟩
          have f2 : (S : Int) / 4294967296 = (A : Int) := by rw [hS, hA]; decide
          have f3 : IntKind.u64.wrap ((A : Int) * 8000) = (V : Int) := u64w_of (by rw [hA, hV]; decide) (by rw [hV]; decide)
          have f4 : (V : Int) / 4294967296 = 1333 := by rw [hV]; decide
          have hlook : ∀ W, Sh2 w g w.heap.size mb W → (Instr.lookup 75 (.map (some mb)) (.int .i64 1) false).run Try.prog W = .ok (.int .i64 (cntG g 1 8000 : Nat)) W := fun W hW => HL.out W hW 1 (by decide)
          obtain ⟨q1, q2⟩ := HKK.out.1
          generalize cntG g 1 8000 = c at hlook q1 q2
          have t1 : ¬ (c : Int) < 959 := by omega
          have t2 : ¬ (c : Int) > 1706 := by omega
          clear q1 q2 hA hV hS
          rw [hL]
          clear hMv hLv hL hM
          go_wp2_with fail
          refine (HB.out _).mono ?_
          rintro e w7 ⟨rfl, hb7⟩
          have J7 : Hid (Sh2 w g w.heap.size mb w7) := J.out.below hb7
          clear hb7 J c0 c1 c2 c3 c4
          have hlk := hlook w7 J7.out
          obtain ⟨c0, c1, c2, c3, c4⟩ := J7.out.hp
          go_wp2_with fail
          refine (HB.out _).mono ?_
          rintro e w8 ⟨rfl, hb8⟩
          have J8 : Hid (Sh2 w g w.heap.size mb w8) := J7.out.below hb8
          clear hb8 J7 c0 c1 c2 c3 c4 hlk
          go_wp2
          refine ⟨?_, ?_⟩
          · (repeat apply Exists.intro)
            refine ⟨?_, rfl⟩
            exact ⟨2, rfl, by omega, by omega, by rw [HM.out], J8⟩
          · simp [intOf]
        · obtain ⟨L, hL⟩ : ∃ n, lastA 2 = n := ⟨_, rfl⟩
          obtain ⟨M, hM⟩ : ∃ n, belowN 4 500 2 = n := ⟨_, rfl⟩
          obtain ⟨S, hS⟩ : ∃ n : Nat, n = 10248191152060862009 := ⟨_, rfl⟩
          have HM : Hid (lastA 3 = M) := hM ▸ below42.symm
          have hMv : M = 13322648497679120611 := hM ▸ below42
          have hLv : L = 3074457345618258602 := hL.symm
          have f1 : IntKind.u64.wrap ((M : Int) - (L : Int)) = (S : Int) := u64w_of (by rw [hMv, hLv, hS]; decide) (by rw [hS]; decide)
          have HB : Hid (∀ W, Calls Try.prog 32 #[.agg #[.int .i64 9, .int .i64 1, .int .i64 1, .int .i64 ((500 : Nat) : Int), .int .i64 ((4 : Nat) : Int)], .int .i64 ((2 : Nat) : Int)] W fun e w' => e = .returned (.int .u64 (M : Nat)) ∧ Below W.heap.size W w') := by
            intro W
            rw [← hM]
            exact rdbelow_any 9 1 1 4 500 2 W mayD_four (by decide) (by decide)
          obtain ⟨A, hA⟩ : ∃ n : Nat, n = 2386092942 := ⟨_, rfl⟩
          obtain ⟨V, hV⟩ : ∃ n : Nat, n = 19088743536000 := ⟨_, rfl⟩
          have f2 : (S : Int) / 4294967296 = (A : Int) := by rw [hS, hA]; decide
          have f3 : IntKind.u64.wrap ((A : Int) * 8000) = (V : Int) := u64w_of (by rw [hA, hV]; decide) (by rw [hV]; decide)
          have f4 : (V : Int) / 4294967296 = 4444 := by rw [hV]; decide
          have hlook : ∀ W, Sh2 w g w.heap.size mb W → (Instr.lookup 75 (.map (some mb)) (.int .i64 2) false).run Try.prog W = .ok (.int .i64 (cntG g 2 8000 : Nat)) W := fun W hW => HL.out W hW 2 (by decide)
          obtain ⟨q1, q2⟩ := HKK.out.2.1
          generalize cntG g 2 8000 = c at hlook q1 q2
          have t1 : ¬ (c : Int) < 3293 := by omega
          have t2 : ¬ (c : Int) > 5595 := by omega
          clear q1 q2 hA hV hS
          rw [hL]
          clear hMv hLv hL hM
          go_wp2_with fail
          refine (HB.out _).mono ?_
          rintro e w7 ⟨rfl, hb7⟩
          have J7 : Hid (Sh2 w g w.heap.size mb w7) := J.out.below hb7
          clear hb7 J c0 c1 c2 c3 c4
          have hlk := hlook w7 J7.out
          obtain ⟨c0, c1, c2, c3, c4⟩ := J7.out.hp
          go_wp2_with fail
          refine (HB.out _).mono ?_
          rintro e w8 ⟨rfl, hb8⟩
          have J8 : Hid (Sh2 w g w.heap.size mb w8) := J7.out.below hb8
          clear hb8 J7 c0 c1 c2 c3 c4 hlk
          go_wp2
          refine ⟨?_, ?_⟩
          · (repeat apply Exists.intro)
            refine ⟨?_, rfl⟩
            exact ⟨3, rfl, by omega, by omega, by rw [HM.out], J8⟩
          · simp [intOf]
        · obtain ⟨L, hL⟩ : ∃ n, lastA 3 = n := ⟨_, rfl⟩
          obtain ⟨M, hM⟩ : ∃ n, belowN 4 500 3 = n := ⟨_, rfl⟩
          obtain ⟨S, hS⟩ : ∃ n : Nat, n = 3416063717353620670 := ⟨_, rfl⟩
          have HM : Hid (lastA 4 = M) := hM ▸ below43.symm
          have hMv : M = 16738712215032741281 := hM ▸ below43
          have hLv : L = 13322648497679120611 := hL.symm
          have f1 : IntKind.u64.wrap ((M : Int) - (L : Int)) = (S : Int) := u64w_of (by rw [hMv, hLv, hS]; decide) (by rw [hS]; decide)
          have HB : Hid (∀ W, Calls Try.prog 32 #[.agg #[.int .i64 9, .int .i64 1, .int .i64 1, .int .i64 ((500 : Nat) : Int), .int .i64 ((4 : Nat) : Int)], .int .i64 ((3 : Nat) : Int)] W fun e w' => e = .returned (.int .u64 (M : Nat)) ∧ Below W.heap.size W w') := by
            intro W
            rw [← hM]
            exact rdbelow_any 9 1 1 4 500 3 W mayD_four (by decide) (by decide)
          obtain ⟨A, hA⟩ : ∃ n : Nat, n = 795364314 := ⟨_, rfl⟩
          obtain ⟨V, hV⟩ : ∃ n : Nat, n = 6362914512000 := ⟨_, rfl⟩
          have f2 : (S : Int) / 4294967296 = (A : Int) := by rw [hS, hA]; decide
          have f3 : IntKind.u64.wrap ((A : Int) * 8000) = (V : Int) := u64w_of (by rw [hA, hV]; decide) (by rw [hV]; decide)
          have f4 : (V : Int) / 4294967296 = 1481 := by rw [hV]; decide
          have hlook : ∀ W, Sh2 w g w.heap.size mb W → (Instr.lookup 75 (.map (some mb)) (.int .i64 3) false).run Try.prog W = .ok (.int .i64 (cntG g 3 8000 : Nat)) W := fun W hW => HL.out W hW 3 (by decide)
          obtain ⟨q1, q2⟩ := HKK.out.2.2.1
          generalize cntG g 3 8000 = c at hlook q1 q2
          have t1 : ¬ (c : Int) < 1070 := by omega
          have t2 : ¬ (c : Int) > 1891 := by omega
          clear q1 q2 hA hV hS
          rw [hL]
          clear hMv hLv hL hM
          go_wp2_with fail
          refine (HB.out _).mono ?_
          rintro e w7 ⟨rfl, hb7⟩
          have J7 : Hid (Sh2 w g w.heap.size mb w7) := J.out.below hb7
          clear hb7 J c0 c1 c2 c3 c4
          have hlk := hlook w7 J7.out
          obtain ⟨c0, c1, c2, c3, c4⟩ := J7.out.hp
          go_wp2_with fail
          refine (HB.out _).mono ?_
          rintro e w8 ⟨rfl, hb8⟩
          have J8 : Hid (Sh2 w g w.heap.size mb w8) := J7.out.below hb8
          clear hb8 J7 c0 c1 c2 c3 c4 hlk
          go_wp2
          refine ⟨?_, ?_⟩
          · (repeat apply Exists.intro)
            refine ⟨?_, rfl⟩
            exact ⟨4, rfl, by omega, by omega, by rw [HM.out], J8⟩
          · simp [intOf]
        · obtain ⟨L, hL⟩ : ∃ n, lastA 4 = n := ⟨_, rfl⟩
          obtain ⟨S, hS⟩ : ∃ n : Nat, n = 1708031858676810334 := ⟨_, rfl⟩
          have hLv : L = 16738712215032741281 := hL.symm
          have HM : Hid (lastA 5 = L) := hLv.symm
          have f1 : bits BinOp.xor IntKind.u64 (if IntKind.u64.signed = true then -1 else IntKind.u64.max) (L : Int) = (S : Int) := by rw [hLv, hS]; exact xor_max
          obtain ⟨A, hA⟩ : ∃ n : Nat, n = 397682157 := ⟨_, rfl⟩
          obtain ⟨V, hV⟩ : ∃ n : Nat, n = 3181457256000 := ⟨_, rfl⟩
          have f2 : (S : Int) / 4294967296 = (A : Int) := by rw [hS, hA]; decide
          have f3 : IntKind.u64.wrap ((A : Int) * 8000) = (V : Int) := u64w_of (by rw [hA, hV]; decide) (by rw [hV]; decide)
          have f4 : (V : Int) / 4294967296 = 740 := by rw [hV]; decide
          have hlook : ∀ W, Sh2 w g w.heap.size mb W → (Instr.lookup 75 (.map (some mb)) (.int .i64 4) false).run Try.prog W = .ok (.int .i64 (cntG g 4 8000 : Nat)) W := fun W hW => HL.out W hW 4 (by decide)
          obtain ⟨q1, q2⟩ := HKK.out.2.2.2
          generalize cntG g 4 8000 = c at hlook q1 q2
          have t1 : ¬ (c : Int) < 515 := by omega
          have t2 : ¬ (c : Int) > 965 := by omega
          clear q1 q2 hA hV hS
          have hlk := hlook wr J.out
          rw [hL]
          clear hLv hL c0 c1 c2 c3 c4
          go_wp2
          go_roundw
          case rel => exact ⟨5, rfl, by omega, by omega, by rw [HM.out], J⟩
          case measure => simp [intOf]
        · have k1 : (Instr.lookup 75 (.map (some mb)) (.int .i64 1) false).run Try.prog wr = .ok (.int .i64 (cntG g 1 8000 : Nat)) wr := HL.out wr J.out 1 (by decide)
          have k2 : (Instr.lookup 75 (.map (some mb)) (.int .i64 2) false).run Try.prog wr = .ok (.int .i64 (cntG g 2 8000 : Nat)) wr := HL.out wr J.out 2 (by decide)
          have k3 : (Instr.lookup 75 (.map (some mb)) (.int .i64 3) false).run Try.prog wr = .ok (.int .i64 (cntG g 3 8000 : Nat)) wr := HL.out wr J.out 3 (by decide)
          have k4 : (Instr.lookup 75 (.map (some mb)) (.int .i64 4) false).run Try.prog wr = .ok (.int .i64 (cntG g 4 8000 : Nat)) wr := HL.out wr J.out 4 (by decide)
          have hsum := HS.out
          generalize cntG g 1 8000 = x1 at *
          generalize cntG g 2 8000 = x2 at *
          generalize cntG g 3 8000 = x3 at *
          generalize cntG g 4 8000 = x4 at *
          have y1 : (x1 : Int) + (x2 : Int) + (x3 : Int) + (x4 : Int) = 8000 := by omega
          have z1 : x1 ≤ 8000 := by omega
          have z2 : x2 ≤ 8000 := by omega
          have z3 : x3 ≤ 8000 := by omega
          have z4 : x4 ≤ 8000 := by omega
          clear hsum HS HKK HL c0 c1 c2 c3 c4
          go_wp2
          go_ret
          exact ⟨rfl, J.out.hb⟩

theorem seed_start (x : Nat) : seedTo 0 [x, 77] = startF x := by
  unfold seedTo startF
  rw [List.foldl_cons, List.foldl_cons, List.foldl_nil]
theorem drawD_is (s0 k : Nat) : drawD s0 k = dg (mix (iterG addS (k + 1) s0)) := rfl
theorem startF_lt (x : Nat) : startF x < 18446744073709551616 := mix_lt

/-- WholeShares. -/
theorem wholeShares_walk (seed : Int) (w : World) (hs : (Lit.int .u64 seed).wf = true) :
    Calls Try.prog 12 #[.int .u64 seed] w fun e w' => e = .returned (.bool true) ∧ Below w.heap.size w w' := by
  obtain ⟨n, rfl, hn⟩ := u64_nat hs
  exact wholeShares_core n (n % 64) (startF (n % 64)) (drawD (startF (n % 64))) w rfl (seed_start _) (drawD_is _) (drawD_four _) (check_is (chk_any (n % 64) (Nat.mod_lt _ (by decide))) (startF_lt _))

end Go.Proofs.Ytecohgmllmddhaa
