/-
  The statements of layer 15: 'big' and 'speaks'.
-/
import Derived.Test.YtkcijbejngnalaaQF
import Derived.Test.YtkcijbejngnalaaQJ
import Derived.Test.YtkcijbejngnalaaQI
import Derived.Test.YtkcijbejngnalaaLWt
import Derived.Test.YtkcijbejngnalaaCoS
namespace Go.Proofs.Ytkcijbejngnalaa
open Go.RowKit
set_option linter.unusedVariables false

/-- It isn't big only where something holds. -/
def BigP (P : Prop) (e : Ending) : Prop := ∃ b : Bool, e = .returned (.bool b) ∧ (b = false → P)
theorem big_yes {P : Prop} {e : Ending} (h : e = .returned (.bool true)) : BigP P e := ⟨true, h, fun h => by cases h⟩
theorem big_no {P : Prop} {e : Ending} (h : e = .returned (.bool false)) (hp : P) : BigP P e := ⟨false, h, fun _ => hp⟩

set_option maxRecDepth 100000 in
set_option maxHeartbeats 1000000 in
/-- BIG. -/
theorem big15_any (pv : Value) (es : List Qe) (w : World) (hp : Qs w pv es) (hq : ∀ e ∈ es, QeW e) :
    Calls Try.prog 19 #[pv] w fun e w' => BigP ((ofsQ es).length + es.length ≤ 300 ∧ ∀ e ∈ es, e.va.length ≤ 60) e ∧ Below w.heap.size w w' := by
  have HP : Hid (Qs w pv es) := hp
  have HQ : Hid (∀ e ∈ es, QeW e) := hq
  obtain ⟨ao, pc, rfl, hp2, hp3⟩ := hp.shape
  obtain ⟨N, hN⟩ : ∃ N, es.length = N := ⟨_, rfl⟩
  have HN : Hid (es.length = N) := hN
  rw [hN] at hp2 HP ⊢
  clear hN hp hq
  go_enter Try.func19, Try.ntmps19
  go_wp2
  go_loopw [3, 8] (fun nv iv wr => ∃ (i n : Nat), i ≤ N ∧ iv = .int .i64 i ∧ nv = .int .i64 n ∧ n ≤ 300 ∧ i ≤ n ∧ Hid ((ofsQ (es.take i)).length + i = n) ∧ Hid (∀ e ∈ es.take i, e.va.length ≤ 60) ∧ Hid (Below w.heap.size w wr)) (fun _ iv _ => N - (intOf iv).toNat)
  case atStart => exact ⟨0, 0, by omega, rfl, rfl, by omega, by omega, rfl, by simp [Hid], Below.refl _ _⟩
  case round =>
    obtain ⟨i, n, hi, rfl, rfl, hn, hin, HL, HV, BB⟩ := hrel
    by_cases hlt : i < N
    · obtain ⟨e, he⟩ : ∃ e, es[i]? = some e := ⟨_, List.getElem?_eq_getElem (by rw [HN.out]; exact hlt)⟩
      have HPn : Qs w (.slice ao N pc) es := HP.out
      obtain ⟨b, off, rfl, c0, c1⟩ := Qs.at HPn BB.out he
      obtain ⟨hez, heb⟩ := Qs.get HPn BB.out he
      obtain ⟨oa, oc, eo, -, -⟩ := zs_shape hez
      obtain ⟨va, vc, ev, -, -⟩ := bs_shape heb
      obtain ⟨-, hol, hvl⟩ := HQ.out e (List.mem_of_getElem? he)
      rw [eo] at c0
      rw [ev] at c1
      have NX : Hid ((ofsQ (es.take (i + 1))).length + (i + 1) = n + (e.of.length + 1)) := by
        have := HL.out
        unfold Hid
        rw [ofsQ_next he, List.length_append]
        omega
      have VX : Hid (e.va.length ≤ 60 → ∀ x ∈ es.take (i + 1), x.va.length ≤ 60) := by
        intro h x hx
        obtain ⟨hie, e1⟩ := List.getElem?_eq_some_iff.1 he
        rw [List.take_succ_eq_append_getElem hie, e1] at hx
        rcases List.mem_append.1 hx with hx | hx
        · exact HV.out x hx
        · simp at hx
          rw [hx]
          exact h
      clear he HPn hez heb eo ev HL HV
      generalize e.of.length = m at *
      generalize e.va.length = k at *
      go_upto_region 5 with fail
      obtain ⟨w3, hw3⟩ : ∃ x, wr.alloc (.cells #[.slice oa m oc, .slice va k vc] 41) = x := ⟨_, rfl⟩
      have F3 : Hid (EqB w3 wr.heap.size (.slice oa m oc) (.slice va k vc)) := by rw [← hw3]; exact (EqX.new _ _ _).eqb
      have B3 : Hid (Below w.heap.size w w3) := by rw [← hw3]; exact on_below BB.out (below_alloc _ _)
      rw [hw3]
      clear hw3 c0 c1
      obtain ⟨c0, c1⟩ := F3.out
      by_cases hbig : 300 < n + (m + 1)
      · go_wp2
        go_ret
        exact ⟨big_yes rfl, B3.out⟩
      · by_cases hk : 60 < k
        · go_wp2
          go_ret
          exact ⟨big_yes rfl, B3.out⟩
        · have hkI : ¬ (60 : Int) < (k : Int) := by omega
          have hbI : ¬ (300 : Int) < (n : Int) + ((m : Int) + 1) := by omega
          have VY : Hid (∀ x ∈ es.take (i + 1), x.va.length ≤ 60) := VX.out (by omega)
          clear VX
          go_wp2
          go_roundw
          case rel => exact ⟨i + 1, n + (m + 1), by omega, by go_num, by go_num, by omega, by omega, NX, VY, B3⟩
          case measure => simp [intOf]; omega
    · obtain rfl : N = i := by omega
      have eN : es.take N = es := List.take_of_length_le (by rw [HN.out]; exact Nat.le_refl _)
      have R : Hid ((ofsQ es).length + N ≤ 300 ∧ ∀ e ∈ es, e.va.length ≤ 60) := by
        have h1 := HL.out
        have h2 := HV.out
        rw [eN] at h1 h2
        refine ⟨?_, h2⟩
        omega
      clear HL HV eN
      go_wp2
      go_ret
      exact ⟨big_no rfl R.out, BB.out⟩

theorem odd_3132 : oddD [3, 1, 3, 2] = [1, 2] := by
  refine (oddD_of _).unique ⟨by decide, fun x => ?_⟩
  simp only [List.count_cons, List.count_nil]
  by_cases h1 : (1 : Int) = x
  · subst h1; simp
  · by_cases h2 : (2 : Int) = x
    · subst h2; simp
    · by_cases h3 : (3 : Int) = x
      · subst h3; simp
      · simp [h1, h2, h3, Ne.symm h1, Ne.symm h2]
theorem bs_lit1 (w : World) (x : UInt8) (t : TypeId) (q : Nat) (v : Value) (hv : v = bv x) (hq : q = w.heap.size) : Bs (w.alloc (.cells #[v] t)) (.slice (some ⟨q, 0, none⟩) 1 1) [x] := by
  subst hv
  exact Bs.lit w _ t (0, 0) [x] q 1 hq rfl rfl (by simp)
theorem Qs.lit2 (w : World) (a b : Qe) (q : Nat) (hq : q = w.heap.size) (ha : QeP w a) (hb : QeP w b) : Qs (w.alloc (.cells #[a.ov, a.vv, b.ov, b.vv] 41)) (.slice (some ⟨q, 0, none⟩) 2 2) [a, b] := by
  subst hq
  refine ⟨⟨rfl, _, _, rfl, Nat.le_refl _, by simp [maxLen], fun h => by simp at h, .inr ⟨_, _, rfl, fun j u hj => ?_⟩⟩, fun e he => ?_⟩
  · rw [Nat.zero_add, World.cell?_alloc_new]
    have hj4 : j < 4 := by have := (List.getElem?_eq_some_iff.1 hj).1; simpa [Qe.cells] using this
    match j, hj4 with
    | 0, _ => simpa [Qe.cells] using hj
    | 1, _ => simpa [Qe.cells] using hj
    | 2, _ => simpa [Qe.cells] using hj
    | 3, _ => simpa [Qe.cells] using hj
  · have : e = a ∨ e = b := by simpa using he
    rcases this with rfl | rfl
    · exact ha.below (below_alloc _ _)
    · exact hb.below (below_alloc _ _)
theorem holds_123 : HoldsP [1, 2] [3] [[9], [1], [2]] := by
  refine ⟨fun i hi => ?_, by decide⟩
  simp at hi
  rcases hi with rfl | rfl
  · exact ⟨1, [1], rfl, rfl, rfl⟩
  · exact ⟨2, [2], rfl, rfl, rfl⟩
theorem holds_113 : ¬ HoldsP [1, 2] [3] [[9], [1], [1]] := fun h => by
  have := h.2
  revert this
  decide

/-- Three blocks of a byte each, in a row, just laid. -/
theorem lit3b (v : World) (x y z : UInt8) (vx vy vz : Value) (hx : vx = bv x) (hy : vy = bv y) (hz : vz = bv z) : ∃ W, (((v.alloc (.cells #[vx] 5)).alloc (.cells #[vy] 5)).alloc (.cells #[vz] 5)).alloc (.cells #[.slice (some ⟨v.heap.size, 0, none⟩) 1 1, .slice (some ⟨v.heap.size + 1, 0, none⟩) 1 1, .slice (some ⟨v.heap.size + 1 + 1, 0, none⟩) 1 1] 25) = W ∧
    Sl 1 W (.slice (some ⟨v.heap.size + 1 + 1 + 1, 0, none⟩) 3 3) [Value.slice (some ⟨v.heap.size, 0, none⟩) 1 1, Value.slice (some ⟨v.heap.size + 1, 0, none⟩) 1 1, Value.slice (some ⟨v.heap.size + 1 + 1, 0, none⟩) 1 1].length [Value.slice (some ⟨v.heap.size, 0, none⟩) 1 1, Value.slice (some ⟨v.heap.size + 1, 0, none⟩) 1 1, Value.slice (some ⟨v.heap.size + 1 + 1, 0, none⟩) 1 1] ∧
    Parts W [Value.slice (some ⟨v.heap.size, 0, none⟩) 1 1, Value.slice (some ⟨v.heap.size + 1, 0, none⟩) 1 1, Value.slice (some ⟨v.heap.size + 1 + 1, 0, none⟩) 1 1] [[x], [y], [z]] ∧ Below v.heap.size v W := by
  have z1 := bs_lit1 v x 5 _ _ hx rfl
  obtain ⟨w1, hw1⟩ : ∃ u, v.alloc (.cells #[vx] 5) = u := ⟨_, rfl⟩
  have s1 : w1.heap.size = v.heap.size + 1 := by rw [← hw1]; simp
  have x1 : Below v.heap.size v w1 := by rw [← hw1]; exact below_alloc _ _
  have z2 := bs_lit1 w1 y 5 _ _ hy rfl
  obtain ⟨w2, hw2⟩ : ∃ u, w1.alloc (.cells #[vy] 5) = u := ⟨_, rfl⟩
  have s2 : w2.heap.size = v.heap.size + 1 + 1 := by rw [← hw2]; simp [s1]
  have x2 : Below w1.heap.size w1 w2 := by rw [← hw2]; exact below_alloc _ _
  have z3 := bs_lit1 w2 z 5 _ _ hz rfl
  obtain ⟨w3, hw3⟩ : ∃ u, w2.alloc (.cells #[vz] 5) = u := ⟨_, rfl⟩
  have s3 : w3.heap.size = v.heap.size + 1 + 1 + 1 := by rw [← hw3]; simp [s2]
  have x3 : Below w2.heap.size w2 w3 := by rw [← hw3]; exact below_alloc _ _
  rw [hw1, hw2, hw3]
  rw [hw1] at z1
  rw [hw2, s1] at z2
  rw [hw3, s2] at z3
  refine ⟨_, rfl, Sl.lit w3 [_, _, _] 25 _ 3 s3.symm rfl (by simp), ?_, on_below (on_below (on_below x1 x2) x3) (below_alloc _ _)⟩
  have x4 := below_alloc w3 (.cells #[.slice (some ⟨v.heap.size, 0, none⟩) 1 1, .slice (some ⟨v.heap.size + 1, 0, none⟩) 1 1, .slice (some ⟨v.heap.size + 1 + 1, 0, none⟩) 1 1] 25)
  exact parts_three (z1.below (on_below (on_below x2 x3) x4)) (z2.below (on_below x3 x4)) (z3.below x4)

set_option maxRecDepth 100000 in
set_option maxHeartbeats 2000000 in
theorem speaks15_any (w : World) : Calls Try.prog 18 #[] w fun e w' => e = .returned (.bool true) ∧ Below w.heap.size w w' := by
  have W5 : Hid (∃ (W : World) (a b : Qe), (((((w.alloc (.cells #[.int .i64 3, .int .i64 1] 3)).alloc (.cells #[.int .u8 5] 5)).alloc (.cells #[.int .i64 3, .int .i64 2] 3)).alloc (.cells #[.int .u8 6] 5)).alloc (.cells #[.slice (some ⟨w.heap.size, 0, none⟩) 2 2, .slice (some ⟨w.heap.size + 1, 0, none⟩) 1 1, .slice (some ⟨w.heap.size + 1 + 1, 0, none⟩) 2 2, .slice (some ⟨w.heap.size + 1 + 1 + 1, 0, none⟩) 1 1] 41)) = W ∧ Qs W (.slice (some ⟨w.heap.size + 1 + 1 + 1 + 1, 0, none⟩) 2 2) [a, b] ∧ a.of = [3, 1] ∧ b.of = [3, 2] ∧ a.va = [5] ∧ b.va = [6] ∧ Below w.heap.size w W) := by
    have z1 := zs_lit2 w 3 1 3 _ rfl
    obtain ⟨w1, hw1⟩ : ∃ x, w.alloc (.cells #[.int .i64 3, .int .i64 1] 3) = x := ⟨_, rfl⟩
    have s1 : w1.heap.size = w.heap.size + 1 := by rw [← hw1]; simp
    have x1 : Below w.heap.size w w1 := by rw [← hw1]; exact below_alloc _ _
    have z2 := bs_lit1 w1 5 5 _ _ (show Value.int .u8 5 = bv 5 from rfl) rfl
    obtain ⟨w2, hw2⟩ : ∃ x, w1.alloc (.cells #[.int .u8 5] 5) = x := ⟨_, rfl⟩
    have s2 : w2.heap.size = w.heap.size + 1 + 1 := by rw [← hw2]; simp [s1]
    have x2 : Below w1.heap.size w1 w2 := by rw [← hw2]; exact below_alloc _ _
    have z3 := zs_lit2 w2 3 2 3 _ rfl
    obtain ⟨w3, hw3⟩ : ∃ x, w2.alloc (.cells #[.int .i64 3, .int .i64 2] 3) = x := ⟨_, rfl⟩
    have s3 : w3.heap.size = w.heap.size + 1 + 1 + 1 := by rw [← hw3]; simp [s2]
    have x3 : Below w2.heap.size w2 w3 := by rw [← hw3]; exact below_alloc _ _
    have z4 := bs_lit1 w3 6 5 _ _ (show Value.int .u8 6 = bv 6 from rfl) rfl
    obtain ⟨w4, hw4⟩ : ∃ x, w3.alloc (.cells #[.int .u8 6] 5) = x := ⟨_, rfl⟩
    have s4 : w4.heap.size = w.heap.size + 1 + 1 + 1 + 1 := by rw [← hw4]; simp [s3]
    have x4 : Below w3.heap.size w3 w4 := by rw [← hw4]; exact below_alloc _ _
    rw [hw1, hw2, hw3, hw4]
    rw [hw1] at z1
    rw [hw2, s1] at z2
    rw [hw3, s2] at z3
    rw [hw4, s3] at z4
    refine ⟨_, ⟨.slice (some ⟨w.heap.size, 0, none⟩) 2 2, .slice (some ⟨w.heap.size + 1, 0, none⟩) 1 1, [3, 1], [5]⟩, ⟨.slice (some ⟨w.heap.size + 1 + 1, 0, none⟩) 2 2, .slice (some ⟨w.heap.size + 1 + 1 + 1, 0, none⟩) 1 1, [3, 2], [6]⟩, rfl, ?_, rfl, rfl, rfl, rfl, ?_⟩
    · refine Qs.lit2 w4 _ _ _ s4.symm ⟨z1.below (on_below (on_below x2 x3) x4), z2.below (on_below x3 x4)⟩ ⟨z3.below x4, z4⟩
    · exact on_below (on_below (on_below (on_below x1 x2) x3) x4) (below_alloc _ _)
  obtain ⟨W, qa, qb, hW, hQ, ho1, ho2, hv1, hv2, hX⟩ := W5.out
  have QQ : Hid (Qs W (.slice (some ⟨w.heap.size + 1 + 1 + 1 + 1, 0, none⟩) 2 2) [qa, qb]) := hQ
  have E1 : Hid (ofsQ [qa, qb] = [3, 1, 3, 2]) := by simp [Hid, ofsQ, ho1, ho2]
  have E2 : Hid (vasQ [qa, qb] = [[5], [6]]) := by simp [Hid, vasQ, hv1, hv2]
  have X0 : Hid (Below w.heap.size w W) := hX
  clear W5 hQ ho1 ho2 hv1 hv2 hX
  go_enter Try.func18, Try.ntmps18
  go_wp2_with fail
  clear hW
  refine (qadd_any 1 _ [qa, qb] W QQ.out (by rw [E1.out]; decide) (by simp)).mono ?_
  rintro e w1 ⟨h1, hb⟩
  have AO : AddOk 1 [qa, qb] := ⟨by decide, by decide, by rw [E2.out]; rfl⟩
  obtain ⟨a, m, c, q, rfl, hz, hk, hq⟩ : ∃ a m c q, e = .returned (.tuple #[.agg #[.slice a m c, .slice (some ⟨q, 0, none⟩) 1 1], .bool true]) ∧ Zs w1 (.slice a m c) [1, 2] ∧ Bs w1 (.slice (some ⟨q, 0, none⟩) 1 1) [3] ∧ m = 2 := by
    rcases h1 with ⟨-, a, m, c, q, he, ho, hk, -⟩ | ⟨hn, -⟩
    · rw [E1.out, odd_3132] at ho
      rw [E2.out] at hk
      have hl := ho.len
      exact ⟨a, m, c, q, he, ho.zs, hk.bs0 1 1 rfl (Nat.le_refl _) (by unfold maxLen; decide), by simpa using hl.symm⟩
    · exact absurd AO hn
  subst hq
  have X1 : Hid (Below w.heap.size w w1) := on_below X0.out hb
  have Z1 : Hid (QeP w1 ⟨.slice a 2 c, .slice (some ⟨q, 0, none⟩) 1 1, [1, 2], [3]⟩) := ⟨hz, hk⟩
  clear AO hz hk hb h1 X0 QQ E1 E2
  go_upto_region 2 with fail
  obtain ⟨w2, hw2⟩ : ∃ x, w1.alloc (.cells #[.slice a 2 c, .slice (some ⟨q, 0, none⟩) 1 1] 41) = x := ⟨_, rfl⟩
  have E2 : Hid (EqB w2 w1.heap.size (.slice a 2 c) (.slice (some ⟨q, 0, none⟩) 1 1)) := by rw [← hw2]; exact (EqX.new _ _ _).eqb
  have B2 : Hid (Below w.heap.size w w2) := by rw [← hw2]; exact on_below X1.out (below_alloc _ _)
  have Z2 : Hid (QeP w2 ⟨.slice a 2 c, .slice (some ⟨q, 0, none⟩) 1 1, [1, 2], [3]⟩) := by rw [← hw2]; exact Z1.out.below (below_alloc _ _)
  rw [hw2]
  clear hw2 X1 Z1
  obtain ⟨b0, hb0⟩ : ∃ x, w1.heap.size = x := ⟨_, rfl⟩
  rw [hb0] at E2 ⊢
  clear hb0
  obtain ⟨c0, c1⟩ := E2.out
  have hsz := cell_block_lt c0
  obtain ⟨W3, hW3, hz3, hb3, hx3⟩ : ∃ W, (w2.alloc (.cells #[.int .i64 1, .int .i64 2] 3)).alloc (.cells #[.int .u8 3] 5) = W ∧ Zs W (.slice (some ⟨w2.heap.size, 0, none⟩) 2 2) [1, 2] ∧ Bs W (.slice (some ⟨w2.heap.size + 1, 0, none⟩) 1 1) [3] ∧ Below w2.heap.size w2 W := by
    refine ⟨_, rfl, (zs_lit2 w2 1 2 3 _ rfl).below (below_alloc _ _), ?_, on_below (below_alloc _ _) (below_alloc _ _)⟩
    have := bs_lit1 (w2.alloc (.cells #[.int .i64 1, .int .i64 2] 3)) 3 5 _ _ (show Value.int .u8 3 = bv 3 from rfl) rfl
    simpa using this
  have Q3 : Hid (QeP W3 ⟨.slice (some ⟨w2.heap.size, 0, none⟩) 2 2, .slice (some ⟨w2.heap.size + 1, 0, none⟩) 1 1, [1, 2], [3]⟩) := ⟨hz3, hb3⟩
  have X3 : Hid (Below w2.heap.size w2 W3) := hx3
  clear hz3 hb3 hx3
  go_wp2_with fail
  clear hW3
  refine (qsame_any ⟨.slice a 2 c, .slice (some ⟨q, 0, none⟩) 1 1, [1, 2], [3]⟩ ⟨.slice (some ⟨w2.heap.size, 0, none⟩) 2 2, .slice (some ⟨w2.heap.size + 1, 0, none⟩) 1 1, [1, 2], [3]⟩ W3 (Z2.out.below X3.out) Q3.out).mono ?_
  rintro e w4 ⟨⟨r, rfl, hr⟩, hb⟩
  obtain rfl : r = true := hr.2 ⟨rfl, rfl⟩
  have X4 : Hid (Below w2.heap.size w2 w4) := on_below X3.out hb
  have B4 : Hid (Below w.heap.size w w4) := on_below B2.out X4.out
  have E4 : Hid (EqB w4 b0 (.slice a 2 c) (.slice (some ⟨q, 0, none⟩) 1 1)) := E2.out.below X4.out
  have Z4 : Hid (QeP w4 ⟨.slice a 2 c, .slice (some ⟨q, 0, none⟩) 1 1, [1, 2], [3]⟩) := Z2.out.below X4.out
  clear hr hb X3 X4 B2 E2 Z2 Q3 c0 c1 hsz
  obtain ⟨c0, c1⟩ := E4.out
  have hsz := cell_block_lt c0
  obtain ⟨W5, hW5, hs5, hp5, hx5⟩ := lit3b w4 9 1 2 (.int .u8 9) (.int .u8 1) (.int .u8 2) rfl rfl rfl
  have S5 : Hid (Sl 1 W5 (.slice (some ⟨w4.heap.size + 1 + 1 + 1, 0, none⟩) 3 3) [Value.slice (some ⟨w4.heap.size, 0, none⟩) 1 1, Value.slice (some ⟨w4.heap.size + 1, 0, none⟩) 1 1, Value.slice (some ⟨w4.heap.size + 1 + 1, 0, none⟩) 1 1].length [Value.slice (some ⟨w4.heap.size, 0, none⟩) 1 1, Value.slice (some ⟨w4.heap.size + 1, 0, none⟩) 1 1, Value.slice (some ⟨w4.heap.size + 1 + 1, 0, none⟩) 1 1]) := hs5
  have P5 : Hid (Parts W5 [Value.slice (some ⟨w4.heap.size, 0, none⟩) 1 1, Value.slice (some ⟨w4.heap.size + 1, 0, none⟩) 1 1, Value.slice (some ⟨w4.heap.size + 1 + 1, 0, none⟩) 1 1] [[9], [1], [2]]) := hp5
  have X5 : Hid (Below w4.heap.size w4 W5) := hx5
  clear hs5 hp5 hx5
  go_wp2_with fail
  clear hW5
  refine (qholds_any _ _ _ [1, 2] [3] _ _ W5 (Z4.out.below X5.out).1 (Z4.out.below X5.out).2 S5.out P5.out (by simp) (by simp)).mono ?_
  rintro e w6 ⟨⟨r, rfl, hr⟩, hb⟩
  obtain rfl : r = true := hr.2 holds_123
  have X6 : Hid (Below w4.heap.size w4 w6) := on_below X5.out hb
  have B6 : Hid (Below w.heap.size w w6) := on_below B4.out X6.out
  have E6 : Hid (EqB w6 b0 (.slice a 2 c) (.slice (some ⟨q, 0, none⟩) 1 1)) := E4.out.below X6.out
  have Z6 : Hid (QeP w6 ⟨.slice a 2 c, .slice (some ⟨q, 0, none⟩) 1 1, [1, 2], [3]⟩) := Z4.out.below X6.out
  clear hr hb X5 X6 B4 E4 Z4 S5 P5 c0 c1 hsz
  obtain ⟨c0, c1⟩ := E6.out
  have hsz := cell_block_lt c0
  obtain ⟨W7, hW7, hs7, hp7, hx7⟩ := lit3b w6 9 1 1 (.int .u8 9) (.int .u8 1) (.int .u8 1) rfl rfl rfl
  have S7 : Hid (Sl 1 W7 (.slice (some ⟨w6.heap.size + 1 + 1 + 1, 0, none⟩) 3 3) [Value.slice (some ⟨w6.heap.size, 0, none⟩) 1 1, Value.slice (some ⟨w6.heap.size + 1, 0, none⟩) 1 1, Value.slice (some ⟨w6.heap.size + 1 + 1, 0, none⟩) 1 1].length [Value.slice (some ⟨w6.heap.size, 0, none⟩) 1 1, Value.slice (some ⟨w6.heap.size + 1, 0, none⟩) 1 1, Value.slice (some ⟨w6.heap.size + 1 + 1, 0, none⟩) 1 1]) := hs7
  have P7 : Hid (Parts W7 [Value.slice (some ⟨w6.heap.size, 0, none⟩) 1 1, Value.slice (some ⟨w6.heap.size + 1, 0, none⟩) 1 1, Value.slice (some ⟨w6.heap.size + 1 + 1, 0, none⟩) 1 1] [[9], [1], [1]]) := hp7
  have X7 : Hid (Below w6.heap.size w6 W7) := hx7
  clear hs7 hp7 hx7
  go_wp2_with fail
  clear hW7
  refine (qholds_any _ _ _ [1, 2] [3] _ _ W7 (Z6.out.below X7.out).1 (Z6.out.below X7.out).2 S7.out P7.out (by simp) (by simp)).mono ?_
  rintro e w8 ⟨⟨r, rfl, hr⟩, hb⟩
  obtain rfl : r = false := by
    cases r with
    | false => rfl
    | true => exact absurd (hr.1 rfl) holds_113
  have B8 : Hid (Below w.heap.size w w8) := on_below B6.out (on_below X7.out hb)
  clear hr hb X7 B6 E6 Z6 S7 P7 c0 c1 hsz
  go_wp2
  go_ret
  exact ⟨rfl, B8.out⟩

end Go.Proofs.Ytkcijbejngnalaa
