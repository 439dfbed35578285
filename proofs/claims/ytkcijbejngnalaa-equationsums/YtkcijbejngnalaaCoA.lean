/-
  compose: Check.
-/
import Derived.Test.YtkcijbejngnalaaZBlk
import Derived.Test.YtkcijbejngnalaaZSmp
namespace Go.Proofs.Ytkcijbejngnalaa
open Go.RowKit
set_option linter.unusedVariables false

theorem sl_nil (w : World) : Sl 1 w (.slice none 0 0) ([] : List Value).length [] := ⟨rfl, none, 0, rfl, by simp, by simp [maxLen], fun _ => rfl, .inl rfl⟩
theorem parts_nil (w : World) : Parts w [] [] := ⟨rfl, fun i v p hv => by simp at hv⟩

set_option maxRecDepth 100000 in
set_option maxHeartbeats 1000000 in
/-- Check where all are there, as long: a new block. -/
theorem check_yes (n : Nat) (pv ov : Value) (vs : List Value) (ls : List (List UInt8)) (of : List Int) (w : World) (hn : n ≤ 16777216) (hp : Sl 1 w pv vs.length vs) (hps : Parts w vs ls) (ho : Zs w ov of) (hok : OkOf n ls of) :
    Calls Try.prog 45 #[.int .i64 n, pv, ov] w fun e w' => e = .returned (.tuple #[.slice (some ⟨w.heap.size, 0, none⟩) n n, .bool true]) ∧ Blk w' w.heap.size [] (chkD n ls of) [] ∧ Below w.heap.size w w' := by
  have HP : Hid (Sl 1 w pv vs.length vs) := hp
  obtain ⟨-, ao, pc, rfl, hp2, hp3, -, -⟩ := hp
  have HO : Hid (Zs w ov of) := ho
  obtain ⟨-, bo, oc, rfl, ho2, ho3, -, -⟩ := ho
  unfold maxLen at hp3 ho3
  have HPS : Hid (Parts w vs ls) := hps
  have HK : Hid (OkOf n ls of) := hok
  obtain ⟨M, hM⟩ : ∃ M, vs.length = M := ⟨_, rfl⟩
  obtain ⟨m, hm⟩ : ∃ m, of.length = m := ⟨_, rfl⟩
  have HM : Hid (vs.length = M) := hM
  have Hm : Hid (of.length = m) := hm
  have HL : Hid (ls.length = M) := by have := hps.1; unfold Hid; omega
  rw [hM] at HP hp2 ⊢
  rw [hm] at ho2 ⊢
  clear hM hm hps hok
  obtain ⟨q, hq⟩ : ∃ q, w.heap.size = q := ⟨_, rfl⟩
  have CS : Hid (Calls Try.prog 54 #[.int .i64 n, .slice none 0 0] w fun e w' => e = .returned (.tuple #[.slice (some ⟨q, 0, none⟩) n n, .bool true]) ∧ Blk w' q [] (zeros n) [] ∧ Below q w w') := by
    have := sum_yes n (.slice none 0 0) [] [] w hn (sl_nil w) (parts_nil w) rfl
    rw [hq] at this
    exact this
  have HQ : Hid (w.heap.size = q) := hq
  rw [hq]
  clear hq
  go_enter Try.func45, Try.ntmps45
  go_wp2_with fail
  refine CS.out.mono ?_
  rintro e w1 ⟨rfl, hb1, hx1⟩
  have B1 : Hid (Blk w1 q [] (zeros n) []) := hb1
  have X1 : Hid (Below q w w1) := hx1
  clear hb1 hx1 CS
  go_wp2
  go_loopw [21] (fun iv wr => ∃ i : Nat, i ≤ m ∧ iv = .int .i64 i ∧ Hid (Blk wr q [] (chkD n ls (of.take i)) []) ∧ Hid (Below q w wr)) (fun iv _ => m - (intOf iv).toNat)
  case atStart => exact ⟨0, by omega, rfl, B1, X1⟩
  case round =>
    obtain ⟨i, hi, rfl, B2, X2⟩ := hrel
    clear B1 X1
    by_cases hlt : i < m
    · have hio : i < of.length := by rw [Hm.out]; exact hlt
      obtain ⟨k, x, hk, hx, hxn⟩ := HK.out of[i] (List.getElem_mem hio)
      have hkl : k < ls.length := (List.getElem?_eq_some_iff.1 hx).1
      have hkM : k < M := by rw [← HL.out]; exact hkl
      have hkv : k < vs.length := by rw [HM.out]; exact hkM
      have XB : Hid (Below w.heap.size w wr) := by unfold Hid; rw [HQ.out]; exact X2.out
      have HO2 : Zs wr (.slice bo m oc) of := by have := HO.out.below XB.out; rw [Hm.out] at this; exact this
      have ci : ∃ b off, bo = some ⟨b, off, none⟩ ∧ wr.cell? ⟨b, off + i, none⟩ = some (.int .i64 (k : Int)) := by
        obtain ⟨_, a', c', hv, _, _, _, h5⟩ := HO2
        injection hv with e1 e2 e3
        subst e1
        rcases h5 with h0 | ⟨b, off, e, hc⟩
        · omega
        · refine ⟨b, off, e, hc i _ ?_⟩
          rw [map_z_at of i hio, hk]
      have ck : ∃ b off, ao = some ⟨b, off, none⟩ ∧ wr.cell? ⟨b, off + k, none⟩ = some vs[k] := by
        have hpw : Sl 1 wr (.slice ao M pc) M vs := HP.out.below XB.out
        obtain ⟨_, a', c', hv, _, _, _, h5⟩ := hpw
        injection hv with e1 e2 e3
        subst e1
        rcases h5 with h0 | ⟨b, off, e, hc⟩
        · omega
        · exact ⟨b, off, e, hc k _ (List.getElem?_eq_getElem hkv)⟩
      obtain ⟨b, off, rfl, ci⟩ := ci
      obtain ⟨b2, off2, rfl, ck⟩ := ck
      have BV : Hid (Bs w vs[k] x) := HPS.out.2 k _ _ (List.getElem?_eq_getElem hkv) hx
      have OV : Hid (Off q vs[k]) := BV.out.off_new (by rw [HQ.out]; exact Nat.le_refl _)
      have BW : Hid (Bs wr vs[k] x) := BV.out.below XB.out
      have NX : Hid (chkD n ls (of.take (i + 1)) = xorL (chkD n ls (of.take i)) x) := chkD_next hio hk hx
      have LX : Hid (x.length = n ∧ (chkD n ls (of.take i)).length = n) := ⟨hxn, chkD_length (HK.out.take i)⟩
      have h0 : ¬ (k : Int) < 0 := by omega
      have h1 : ¬ (k : Int) ≥ (M : Int) := by omega
      clear hk hx hxn hkl HO2 BV hio
      obtain ⟨va, vc, hv⟩ : ∃ va vc, vs[k] = .slice va n vc := by
        obtain ⟨-, va, vc, hv, -, -, -, -⟩ := BW.out
        exact ⟨va, vc, by rw [hv, LX.out.1]⟩
      rw [hv] at ck OV BW
      clear hv
      go_wp2_with fail
      refine (xor_top q n [] [] _ x _ wr B2.out (by rw [LX.out.2]; exact Nat.le_refl _) (by unfold maxLen; omega) BW.out OV.out (by rw [LX.out.1, LX.out.2]) n 0 _ LX.out.2.symm rfl rfl).mono ?_
      rintro e w2 ⟨rfl, hb2, hg2, hs2⟩
      have B3 : Hid (Blk w2 q [] (chkD n ls (of.take (i + 1))) []) := by unfold Hid; rw [NX.out]; exact hb2
      have X3 : Hid (Below q w w2) := below_grown X2.out hg2 (by have := X2.out.size; have := HQ.out; omega) (Nat.le_refl _)
      clear hb2 hg2 hs2 ci ck BW NX LX B2 X2 XB
      go_wp2
      go_roundw
      case rel => exact ⟨i + 1, by omega, by go_num, B3, X3⟩
      case measure => simp [intOf]; omega
    · obtain rfl : i = m := by omega
      have R : Hid (Blk wr q [] (chkD n ls of) [] ∧ Below q w wr) := ⟨by have := B2.out; rw [List.take_of_length_le (by rw [Hm.out]; omega)] at this; exact this, X2.out⟩
      clear B2 X2
      go_wp2
      go_ret2
      exact ⟨rfl, R.out⟩

set_option maxRecDepth 100000 in
set_option maxHeartbeats 1000000 in
/-- Check where one isn't there, or isn't as long: none. -/
theorem check_bad (n : Nat) (pv ov : Value) (vs : List Value) (ls : List (List UInt8)) (of : List Int) (w : World) (hn : n ≤ 16777216) (hp : Sl 1 w pv vs.length vs) (hps : Parts w vs ls) (ho : Zs w ov of) (hok : ¬ OkOf n ls of) :
    Calls Try.prog 45 #[.int .i64 n, pv, ov] w fun e w' => e = .returned (.tuple #[.slice none 0 0, .bool false]) ∧ Below w.heap.size w w' := by
  have HP : Hid (Sl 1 w pv vs.length vs) := hp
  obtain ⟨-, ao, pc, rfl, hp2, hp3, -, -⟩ := hp
  have HO : Hid (Zs w ov of) := ho
  obtain ⟨-, bo, oc, rfl, ho2, ho3, -, -⟩ := ho
  unfold maxLen at hp3 ho3
  have HPS : Hid (Parts w vs ls) := hps
  obtain ⟨J, hJ, hJ1, hJ2⟩ := first_bad hok
  have HK : Hid (OkOf n ls (of.take J)) := hJ1
  have HJ2 : Hid (¬ OkAt n ls of[J]) := hJ2
  have hJm : J < of.length := hJ
  obtain ⟨M, hM⟩ : ∃ M, vs.length = M := ⟨_, rfl⟩
  obtain ⟨m, hm⟩ : ∃ m, of.length = m := ⟨_, rfl⟩
  have HM : Hid (vs.length = M) := hM
  have Hm : Hid (of.length = m) := hm
  have HL : Hid (ls.length = M) := by have := hps.1; unfold Hid; omega
  rw [hM] at HP hp2 ⊢
  rw [hm] at ho2 hJm ⊢
  clear hM hm hps hok hJ1 hJ2
  obtain ⟨q, hq⟩ : ∃ q, w.heap.size = q := ⟨_, rfl⟩
  have CS : Hid (Calls Try.prog 54 #[.int .i64 n, .slice none 0 0] w fun e w' => e = .returned (.tuple #[.slice (some ⟨q, 0, none⟩) n n, .bool true]) ∧ Blk w' q [] (zeros n) [] ∧ Below q w w') := by
    have := sum_yes n (.slice none 0 0) [] [] w hn (sl_nil w) (parts_nil w) rfl
    rw [hq] at this
    exact this
  have HQ : Hid (w.heap.size = q) := hq
  rw [hq]
  clear hq
  go_enter Try.func45, Try.ntmps45
  go_wp2_with fail
  refine CS.out.mono ?_
  rintro e w1 ⟨rfl, hb1, hx1⟩
  have B1 : Hid (Blk w1 q [] (zeros n) []) := hb1
  have X1 : Hid (Below q w w1) := hx1
  clear hb1 hx1 CS
  go_wp2
  go_loopw [21] (fun iv wr => ∃ i : Nat, i ≤ J ∧ iv = .int .i64 i ∧ Hid (Blk wr q [] (chkD n ls (of.take i)) []) ∧ Hid (Below q w wr)) (fun iv _ => m - (intOf iv).toNat)
  case atStart => exact ⟨0, by omega, rfl, B1, X1⟩
  case round =>
    obtain ⟨i, hi, rfl, B2, X2⟩ := hrel
    clear B1 X1
    by_cases hlt : i < J
    · have hio : i < of.length := by rw [Hm.out]; omega
      obtain ⟨k, x, hk, hx, hxn⟩ := HK.out of[i] (by rw [List.mem_take_iff_getElem]; exact ⟨i, by rw [Hm.out]; omega, rfl⟩)
      have hkl : k < ls.length := (List.getElem?_eq_some_iff.1 hx).1
      have hkM : k < M := by rw [← HL.out]; exact hkl
      have hkv : k < vs.length := by rw [HM.out]; exact hkM
      have XB : Hid (Below w.heap.size w wr) := by unfold Hid; rw [HQ.out]; exact X2.out
      have HO2 : Zs wr (.slice bo m oc) of := by have := HO.out.below XB.out; rw [Hm.out] at this; exact this
      have ci : ∃ b off, bo = some ⟨b, off, none⟩ ∧ wr.cell? ⟨b, off + i, none⟩ = some (.int .i64 (k : Int)) := by
        obtain ⟨_, a', c', hv, _, _, _, h5⟩ := HO2
        injection hv with e1 e2 e3
        subst e1
        rcases h5 with h0 | ⟨b, off, e, hc⟩
        · omega
        · refine ⟨b, off, e, hc i _ ?_⟩
          rw [map_z_at of i hio, hk]
      have ck : ∃ b off, ao = some ⟨b, off, none⟩ ∧ wr.cell? ⟨b, off + k, none⟩ = some vs[k] := by
        have hpw : Sl 1 wr (.slice ao M pc) M vs := HP.out.below XB.out
        obtain ⟨_, a', c', hv, _, _, _, h5⟩ := hpw
        injection hv with e1 e2 e3
        subst e1
        rcases h5 with h0 | ⟨b, off, e, hc⟩
        · omega
        · exact ⟨b, off, e, hc k _ (List.getElem?_eq_getElem hkv)⟩
      obtain ⟨b, off, rfl, ci⟩ := ci
      obtain ⟨b2, off2, rfl, ck⟩ := ck
      have BV : Hid (Bs w vs[k] x) := HPS.out.2 k _ _ (List.getElem?_eq_getElem hkv) hx
      have OV : Hid (Off q vs[k]) := BV.out.off_new (by rw [HQ.out]; exact Nat.le_refl _)
      have BW : Hid (Bs wr vs[k] x) := BV.out.below XB.out
      have NX : Hid (chkD n ls (of.take (i + 1)) = xorL (chkD n ls (of.take i)) x) := chkD_next hio hk hx
      have LX : Hid (x.length = n ∧ (chkD n ls (of.take i)).length = n) := ⟨hxn, chkD_length (by have := HK.out.take i; rw [List.take_take, Nat.min_eq_left (by omega)] at this; exact this)⟩
      have h0 : ¬ (k : Int) < 0 := by omega
      have h1 : ¬ (k : Int) ≥ (M : Int) := by omega
      clear hk hx hxn hkl HO2 BV hio
      obtain ⟨va, vc, hv⟩ : ∃ va vc, vs[k] = .slice va n vc := by
        obtain ⟨-, va, vc, hv, -, -, -, -⟩ := BW.out
        exact ⟨va, vc, by rw [hv, LX.out.1]⟩
      rw [hv] at ck OV BW
      clear hv
      go_wp2_with fail
      refine (xor_top q n [] [] _ x _ wr B2.out (by rw [LX.out.2]; exact Nat.le_refl _) (by unfold maxLen; omega) BW.out OV.out (by rw [LX.out.1, LX.out.2]) n 0 _ LX.out.2.symm rfl rfl).mono ?_
      rintro e w2 ⟨rfl, hb2, hg2, hs2⟩
      have B3 : Hid (Blk w2 q [] (chkD n ls (of.take (i + 1))) []) := by unfold Hid; rw [NX.out]; exact hb2
      have X3 : Hid (Below q w w2) := below_grown X2.out hg2 (by have := X2.out.size; have := HQ.out; omega) (Nat.le_refl _)
      clear hb2 hg2 hs2 ci ck BW NX LX B2 X2 XB
      go_wp2
      go_roundw
      case rel => exact ⟨i + 1, by omega, by go_num, B3, X3⟩
      case measure => simp [intOf]; omega
    · obtain rfl : i = J := by omega
      have XB : Hid (Below w.heap.size w wr) := by unfold Hid; rw [HQ.out]; exact X2.out
      have HO2 : Zs wr (.slice bo m oc) of := by have := HO.out.below XB.out; rw [Hm.out] at this; exact this
      have ci : ∃ b off, bo = some ⟨b, off, none⟩ ∧ wr.cell? ⟨b, off + i, none⟩ = some (.int .i64 of[i]) := by
        obtain ⟨_, a', c', hv, _, _, _, h5⟩ := HO2
        injection hv with e1 e2 e3
        subst e1
        rcases h5 with h0 | ⟨b, off, e, hc⟩
        · omega
        · exact ⟨b, off, e, hc i _ (map_z_at of i hJ)⟩
      obtain ⟨b, off, rfl, ci⟩ := ci
      clear HO2 B2
      obtain ⟨y, hy⟩ : ∃ y, of[i] = y := ⟨_, rfl⟩
      have NB : Hid (¬ OkAt n ls y) := by unfold Hid; rw [← hy]; exact HJ2.out
      rw [hy] at ci
      clear hy HJ2 HK hJ
      by_cases hy0 : y < 0
      · go_wp2
        go_ret2
        exact ⟨rfl, X2.out⟩
      by_cases hyM : y ≥ (M : Int)
      · go_wp2
        go_ret2
        exact ⟨rfl, X2.out⟩
      obtain ⟨k, rfl⟩ := Int.eq_ofNat_of_zero_le (show 0 ≤ y by omega)
      have hkM : k < M := by omega
      have hkv : k < vs.length := by rw [HM.out]; exact hkM
      have hkl : k < ls.length := by rw [HL.out]; exact hkM
      have ck : ∃ b off, ao = some ⟨b, off, none⟩ ∧ wr.cell? ⟨b, off + k, none⟩ = some vs[k] := by
        have hpw : Sl 1 wr (.slice ao M pc) M vs := HP.out.below XB.out
        obtain ⟨_, a', c', hv, _, _, _, h5⟩ := hpw
        injection hv with e1 e2 e3
        subst e1
        rcases h5 with h0 | ⟨b, off, e, hc⟩
        · omega
        · exact ⟨b, off, e, hc k _ (List.getElem?_eq_getElem hkv)⟩
      obtain ⟨b2, off2, rfl, ck⟩ := ck
      obtain ⟨x, hx⟩ : ∃ x, ls[k] = x := ⟨_, rfl⟩
      have BW : Hid (Bs wr vs[k] x) := by unfold Hid; rw [← hx]; exact (HPS.out.2 k _ _ (List.getElem?_eq_getElem hkv) (List.getElem?_eq_getElem hkl)).below XB.out
      have LX : Hid (x.length ≠ n) := by
        intro e
        exact NB.out ⟨k, x, rfl, by rw [← hx]; exact List.getElem?_eq_getElem hkl, e⟩
      have h0 : ¬ (k : Int) < 0 := by omega
      have h1 : ¬ (k : Int) ≥ (M : Int) := by omega
      obtain ⟨X, hX⟩ : ∃ X, x.length = X := ⟨_, rfl⟩
      obtain ⟨va, vc, hv⟩ : ∃ va vc, vs[k] = .slice va X vc := by
        obtain ⟨-, va, vc, hv, -, -, -, -⟩ := BW.out
        exact ⟨va, vc, by rw [hv, hX]⟩
      rw [hv] at ck BW
      clear hv hX hx hkl hy0 hyM
      go_wp2_with fail
      refine (xor_top_no _ n n x _ wr BW.out LX.out _ rfl).mono ?_
      rintro e w2 ⟨rfl, hb2⟩
      have X3 : Hid (Below q w w2) := X2.out.trans (hb2.mono (by have := X2.out.size; have := HQ.out; omega))
      clear hb2 ci ck BW X2 XB
      go_wp2
      go_ret2
      exact ⟨rfl, X3.out⟩

set_option maxRecDepth 100000 in
set_option maxHeartbeats 1000000 in
/-- Check where the size can't be: none. -/
theorem check_size (n : Int) (pv ov : Value) (M m : Nat) (ao bo : Option Addr) (pc oc : Nat) (w : World) (hp : pv = .slice ao M pc) (ho : ov = .slice bo m oc) (hn : n < 0) :
    Calls Try.prog 45 #[.int .i64 n, pv, ov] w fun e w' => e = .returned (.tuple #[.slice none 0 0, .bool false]) ∧ Below w.heap.size w w' := by
  subst hp; subst ho
  have CS : Hid (Calls Try.prog 54 #[.int .i64 n, .slice none 0 0] w fun e w' => e = .returned (.tuple #[.slice none 0 0, .bool false]) ∧ Below w.heap.size w w') := sum_no n (.slice none 0 0) [] [] w (sl_nil w) (parts_nil w) (.inl hn)
  clear hn
  go_enter Try.func45, Try.ntmps45
  go_wp2_with fail
  refine CS.out.mono ?_
  rintro e w1 ⟨rfl, hx1⟩
  have X1 : Hid (Below w.heap.size w w1) := hx1
  clear hx1 CS
  go_wp2
  go_ret2
  exact ⟨rfl, X1.out⟩

end Go.Proofs.Ytkcijbejngnalaa
