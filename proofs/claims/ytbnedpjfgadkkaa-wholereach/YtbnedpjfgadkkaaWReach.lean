/-
  WholeReach.
-/
import Derived.Test.YtbnedpjfgadkkaaWrA
import Derived.Test.YtbnedpjfgadkkaaSegA
import Derived.Test.YtbnedpjfgadkkaaLStruct
import Derived.Maps.Own
import Derived.Maps.OwnOps
import Derived.Maps.OwnSet
import Derived.Maps.Views
import Derived.Carry
import Derived.OpenShut
namespace Go.Proofs.Ytbnedpjfgadkkaa
open Go.RowKit Go.Maps
set_option linter.unusedVariables false

theorem may_nbW {N B Q E F : Int} (h : May N B Q E F) : ∃ n b : Nat, N = n ∧ B = b ∧ 1 ≤ n ∧ n ≤ 1048576 ∧ 1 ≤ b ∧ b ≤ 65535 := by
  obtain ⟨h1, h2, -⟩ := h
  exact ⟨N.toNat, B.toNat, by omega, by omega, by omega, by omega, by omega, by omega⟩

theorem Try.keyInt : Keyed Try.prog 3 := int_keyed Try.underlying3
theorem Try.noughtInt (w : World) : (zeroValue 3).run Try.prog w = .ok (.int .i64 0) w := by kernel_rfl

/-- A number among some, once. -/
def addI (L : List Int) (x : Int) : List Int := if x ∈ L then L else L ++ [x]
theorem mem_addI (L : List Int) (x y : Int) : y ∈ addI L x ↔ y ∈ L ∨ y = x := by
  unfold addI
  split
  · rename_i h
    exact ⟨fun k => .inl k, fun k => by rcases k with k | rfl <;> assumption⟩
  · simp

/-- The map: which blocks were seen. -/
structure SeenI (w : World) (mb n : Nat) (D : DataW Unit) (L : List Int) : Prop where
  own : w.ownsMap Try.prog 3 (plainElem Try.prog 3) mb n D
  tidy : Tidy D
  key : ∀ x : Int, Maps.has D (.int .i64 x) = decide (x ∈ L)
  size : Maps.size D = L.length
  nodup : L.Nodup

theorem seen_start (w : World) : SeenI (w.alloc (.map #[] 0)) w.heap.size 0 (.map []) [] := ⟨World.ownsMap_made _ _ _ _, tidy_empty, fun x => by simp [Maps.has], rfl, List.nodup_nil⟩

theorem SeenI.kept {w w' : World} {mb n : Nat} {D : DataW Unit} {L : List Int} (h : SeenI w mb n D L) (hk : w'.heap[mb]? = w.heap[mb]?) : SeenI w' mb n D L := by
  obtain ⟨es, clock, h1, h2⟩ := h.own
  exact ⟨⟨es, clock, hk.trans h1, h2⟩, h.tidy, h.key, h.size, h.nodup⟩
theorem SeenI.below {w w' : World} {mb n : Nat} {D : DataW Unit} {L : List Int} (h : SeenI w mb n D L) (hb : Below w.heap.size w w') : SeenI w' mb n D L := h.kept (hb.block mb h.own.lt)

theorem SeenI.put {w w' : World} {mb n : Nat} {D : DataW Unit} {L : List Int} (h : SeenI w mb n D L) {x : Int} {d : DataW Unit} (h' : w'.ownsMap Try.prog 3 (plainElem Try.prog 3) mb (n + 1) (D.put (.int .i64 x) d)) :
    SeenI w' mb (n + 1) (D.put (.int .i64 x) d) (addI L x) := by
  have hk : WideAt.IsKeyLit (.int .i64 x) := by simp [WideAt.IsKeyLit]
  refine ⟨h', h.tidy.put hk d, fun y => ?_, ?_, ?_⟩
  · by_cases e : y = x
    · subst e
      rw [has_put_same h.tidy.isMap hk]
      symm
      rw [decide_eq_true_iff, mem_addI]
      exact .inr rfl
    · rw [has_put_other (fun q => e (by injection q)), h.key y]
      congr 1
      rw [mem_addI]
      exact propext ⟨fun k => .inl k, fun k => k.resolve_right e⟩
  · rw [size_put h.tidy, h.key x, h.size]
    unfold addI
    by_cases hm : x ∈ L
    · rw [if_pos hm, decide_eq_true hm]; rfl
    · rw [if_neg hm, decide_eq_false hm]; simp
  · unfold addI
    split
    · exact h.nodup
    · rename_i hm
      rw [List.nodup_append]
      exact ⟨h.nodup, by simp, fun a ha b hb e => by simp at hb; subst hb; subst e; exact hm ha⟩

theorem all_seen {L : List Int} {A : Nat} (hn : L.Nodup) (h1 : ∀ x ∈ L, 0 ≤ x ∧ x < (A : Int)) (h2 : ∀ b : Nat, b < A → (b : Int) ∈ L) : L.length = A := by
  have hp : L.Perm ((List.range A).map fun i : Nat => (i : Int)) := by
    rw [List.perm_ext_iff_of_nodup hn]
    · intro x
      rw [List.mem_map]
      constructor
      · intro hx
        have := h1 x hx
        exact ⟨x.toNat, List.mem_range.2 (by omega), by omega⟩
      · rintro ⟨i, hi, rfl⟩
        exact h2 i (List.mem_range.1 hi)
    · exact List.Pairwise.map (fun i : Nat => (i : Int)) (fun a b h e => h (by omega)) List.nodup_range
  rw [hp.length_eq]
  simp

theorem used_at {B n j : Nat} (hB : 1 ≤ B) : j * B < n ↔ j < (n + B - 1) / B := by
  have e : j < (n + B - 1) / B ↔ (j + 1) * B ≤ n + B - 1 := by
    rw [← Nat.le_div_iff_mul_le hB]
    exact Iff.rfl
  rw [e, Nat.succ_mul]
  omega

theorem aux_small {N Q E : Int} (hN : 1 ≤ N ∧ N ≤ 20) (hQ : 1 ≤ Q ∧ Q ≤ 3) (hE : 1 ≤ E ∧ E ≤ 1000) : aux N Q E ≤ 33 := by
  have h1 : 55 * Q * E ≤ 165 * 1000 := Int.mul_le_mul (by omega) hE.2 (by omega) (by omega)
  have h2 : 0 ≤ 55 * Q * E := Int.mul_nonneg (by omega) (by omega)
  have h3 : 55 * Q * E * N ≤ 165000 * 20 := Int.mul_le_mul (by omega) hN.2 (by omega) (by omega)
  unfold aux
  omega

theorem IsSrc.keeps {w w' : World} {a t F E S A mb : Nat} (h : IsSrc w a t F E S A) (hk : KeepsBut (fun x => x = mb) w w') (ha : a ≠ mb) (ht : t ≠ mb) : IsSrc w' a t F E S A := by
  have k1 := hk.block a (cell_block_lt h.c0) ha
  exact ⟨(World.cell?_of_block (a := ⟨a, 0, none⟩) k1).trans h.c0, (World.cell?_of_block (a := ⟨a, 1, none⟩) k1).trans h.c1, (World.cell?_of_block (a := ⟨a, 2, none⟩) k1).trans h.c2, h.dt.keeps hk ht⟩

set_option maxRecDepth 100000 in
set_option maxHeartbeats 8000000 in
theorem wholeReach_walk (N B Q E F : Int) (sn : Nat) (ov : Value) (lo : List UInt8) (w : World) (hsn : sn < 18446744073709551616) (ho : Bs w ov lo) :
    Calls Try.prog 10 #[.agg #[.int .i64 N, .int .i64 B, .int .i64 Q, .int .i64 E, .int .i64 F], .int .u64 (sn : Int), ov] w fun e w' => e = .returned (.bool true) ∧ Below w.heap.size w w' := by
  have HO : Hid (Bs w ov lo) := ho
  obtain ⟨-, ao, cap, rfl, h2, h3, -, -⟩ := ho
  unfold maxLen at h3
  obtain ⟨n, hn⟩ : ∃ n, lo.length = n := ⟨_, rfl⟩
  rw [hn] at h2 HO ⊢
  have Hn : Hid (lo.length = n) := hn
  clear hn
  obtain ⟨k0, l0, hc0⟩ := chk_is 1000 7 2 1 (F := 2) (by decide)
  have hk0 := (hc0.many (by decide)).1
  have CB0 : Hid (∀ a t W, IsSrc W a t 2 1000 7 2 → Calls Try.prog 15 #[.pointer (some ⟨a, 0, none⟩), .int .u64 1] W fun e w' => ∃ b c, e = .returned (.slice b k0 c) ∧ Below W.heap.size W w') := by
    intro a t W h
    refine (iblocks_chk hc0 a t W h mayD_21000 (by decide) (by decide) (by decide)).mono ?_
    rintro e w' ⟨b, c, rfl, -, hb⟩
    exact ⟨b, c, rfl, hb⟩
  have kk0 : ¬ (k0 : Int) < 1 := by omega
  have CM : Hid (∀ W, Calls Try.prog 13 #[.agg #[.int .i64 N, .int .i64 B, .int .i64 Q, .int .i64 E, .int .i64 F]] W fun e w' => e = .returned (.bool (@decide (May N B Q E F) (decMay N B Q E F))) ∧ Below W.heap.size W w') := fun W => rmay_any N B Q E F W
  obtain ⟨S, hS⟩ : ∃ S, sn % 16 = S := ⟨_, rfl⟩
  have hS16 : S < 16 := by omega
  have e16 : (sn : Int) % 16 = (S : Int) := by omega
  clear hc0 hS
  go_enter Try.func10, Try.ntmps10
  go_wp2_with fail
  refine (inew_112 _).mono ?_
  rintro e w1 ⟨a0, t0, rfl, -, hs0, hb⟩
  have B1 : Hid (Below w.heap.size w w1) := below_on (below_alloc _ _) hb
  have P1 : Hid (Five w1 w.heap.size N B Q E F) := (five_new w _ _ _ _ _ _).below hb
  have S1 : Hid (IsSrc w1 a0 t0 2 1000 7 2) := hs0
  clear hb hs0
  go_wp2_with fail
  refine (CB0.out a0 t0 w1 S1.out).mono ?_
  rintro e w2 ⟨b2, k2, rfl, hb⟩
  have B2 : Hid (Below w.heap.size w w2) := below_on B1.out hb
  have P2 : Hid (Five w2 w.heap.size N B Q E F) := P1.out.below hb
  clear hb CB0 S1 B1 P1
  obtain ⟨c0, c1, c2, c3, c4⟩ := P2.out
  go_wp2_with fail
  refine (CM.out _).mono ?_
  rintro e w3 ⟨rfl, hb⟩
  have B3 : Hid (Below w.heap.size w w3) := below_on B2.out hb
  have P3 : Hid (Five w3 w.heap.size N B Q E F) := P2.out.below hb
  clear hb CM c0 c1 c2 c3 c4 P2 B2
  obtain ⟨c0, c1, c2, c3, c4⟩ := P3.out
  by_cases hM : May N B Q E F
  · rw [@decide_eq_true _ (decMay _ _ _ _ _) hM]
    obtain ⟨N, B, rfl, rfl, n1, n2, b1, b2'⟩ := may_nbW hM
    obtain ⟨E, F, rfl, rfl, hmd⟩ := may_nat hM
    have HM : Hid (May (N : Int) (B : Int) Q (E : Int) (F : Int)) := hM
    have hQ := hM.2.2.1
    have hE := hM.2.2.2.1
    obtain ⟨A, hA, hA2, hA3⟩ := all_nat hM
    clear hM
    by_cases g1 : N ≤ 20
    · have q1 : ¬ (N : Int) > 20 := by omega
      by_cases g2 : B ≤ 40
      · have q2 : ¬ (B : Int) > 40 := by omega
        by_cases g3 : F ≤ 200
        · have q3 : ¬ (F : Int) > 200 := by omega
          by_cases g4 : Q ≤ 3
          · have q4 : ¬ Q > 3 := by omega
            obtain ⟨P, hP⟩ : ∃ P, N * B = P := ⟨_, rfl⟩
            have hP2 : N * B ≤ 20 * 40 := Nat.mul_le_mul g1 g2
            have hw : IntKind.i64.wrap ((N : Int) * (B : Int)) = (P : Int) := by rw [IntKind.wrap_i64, show (N : Int) * (B : Int) = ((N * B : Nat) : Int) by simp, hP]; omega
            by_cases g5 : n ≤ P
            · have q5 : ¬ (n : Int) > (P : Int) := by omega
              have HLe : Hid (lo.length ≤ N * B) := by unfold Hid; rw [Hn.out, hP]; exact g5
              have hA53 : A ≤ 53 := by
                have := aux_small (N := N) (Q := Q) (E := E) (by omega) ⟨hQ.1, g4⟩ hE
                omega
              have hnP : n ≤ 800 := by omega
              have HUse : Hid (n ≤ N * B) := by unfold Hid; rw [hP]; exact g5
              have E1 : Hid (IntKind.i64.wrap ((N : Int) + aux (N : Int) Q (E : Int)) = (A : Int)) := by unfold Hid; rw [hA, IntKind.wrap_i64]; omega
              have CN : Hid (∀ W, Calls Try.prog 12 #[.agg #[.int .i64 (N : Int), .int .i64 (B : Int), .int .i64 Q, .int .i64 (E : Int), .int .i64 (F : Int)], .int .u64 (S : Int)] W fun e w' => ∃ a t, e = .returned (.tuple #[.pointer (some ⟨a, 0, none⟩), .int .i64 0]) ∧ W.heap.size ≤ a ∧ IsSrc w' a t F E S A ∧ Below W.heap.size W w') := fun W => inew_yes N B Q E F S A W HM.out hA
              have CS : Hid (∀ W, Below w.heap.size w W → Calls Try.prog 19 #[.agg #[.int .i64 (N : Int), .int .i64 (B : Int), .int .i64 Q, .int .i64 (E : Int), .int .i64 (F : Int)], .slice ao n cap] W fun e w' => ∃ q, e = .returned (.tuple #[.slice (some ⟨q, 0, none⟩) N N, .int .i64 0]) ∧ Below W.heap.size W w') := by
                intro W hW
                refine (split_yes N B Q E F _ lo W HM.out (HO.out.below hW) HLe.out).mono ?_
                rintro e w' ⟨q, qs, rfl, -, hb⟩
                exact ⟨q, rfl, hb⟩
              have CA : Hid (∀ W, Calls Try.prog 17 #[.agg #[.int .i64 (N : Int), .int .i64 (B : Int), .int .i64 Q, .int .i64 (E : Int), .int .i64 (F : Int)]] W fun e w' => ∃ v, e = .returned v ∧ IsV (.int .i64 (aux (N : Int) Q (E : Int))) v w' ∧ Below W.heap.size W w') := by
                intro W
                refine (raux_any N B Q E F W HM.out.1 HM.out.2.2.1 HM.out.2.2.2.1).mono ?_
                rintro e w' ⟨rfl, hb⟩
                exact ⟨_, rfl, rfl, hb⟩
              have CI : Hid (∀ id, id < 4000 → ∃ k l, Chk F E S A id k l ∧ ∀ W a t, IsSrc W a t F E S A → Calls Try.prog 15 #[.pointer (some ⟨a, 0, none⟩), .int .u64 (id : Int)] W fun e w' => ∃ b c, e = .returned (.slice b k c) ∧ OwnZ W.heap.size w' (.slice b k c) k l ∧ Below W.heap.size W w') := by
                intro id hid
                obtain ⟨k, l, hch⟩ := chk_is E S A id hmd.f2
                exact ⟨k, l, hch, fun W a t h => iblocks_chk hch a t W h hmd hA3 (by omega) (by omega)⟩
              have HRe : Hid (∀ b, b < A → ∃ id, id < 4000 ∧ ∀ k l, Chk F E S A id k l → (b : Int) ∈ l) := fun b hb => reach_is hmd hS16 hA2 hA53 hb
              clear hA hP hP2 HLe hmd hQ hE n2 b2' hA3
              generalize aux (N : Int) Q (E : Int) = X at *
              go_wp2_with fail
              refine (CN.out _).mono ?_
              rintro e w4 ⟨a, t, rfl, -, hs, hb⟩
              have B4 : Hid (Below w.heap.size w w4) := below_on B3.out hb
              have P4 : Hid (Five w4 w.heap.size N B Q E F) := P3.out.below hb
              have S4 : Hid (IsSrc w4 a t F E S A) := hs
              clear hb hs CN c0 c1 c2 c3 c4 P3 B3
              obtain ⟨c0, c1, c2, c3, c4⟩ := P4.out
              go_wp2_with fail
              refine (CS.out _ B4.out).mono ?_
              rintro e w5 ⟨q, rfl, hb⟩
              have B5 : Hid (Below w.heap.size w w5) := below_on B4.out hb
              have P5 : Hid (Five w5 w.heap.size N B Q E F) := P4.out.below hb
              have S5 : Hid (IsSrc w5 a t F E S A) := S4.out.below hb
              clear hb CS c0 c1 c2 c3 c4 P4 B4 S4
              have c0 := P5.out.1
              have kN : ((N : Int) != (N : Int)) = false := by simp
              have hmm := @run_makeMap Try.prog
              go_upto_region 11 with fail
              clear hmm c0
              have M6 : Hid (SeenI (w5.alloc (.map #[] 0)) w5.heap.size 0 (.map []) []) := seen_start w5
              have B6 : Hid (Below w.heap.size w (w5.alloc (.map #[] 0))) := below_on B5.out (below_alloc _ _)
              have P6 : Hid (Five (w5.alloc (.map #[] 0)) w.heap.size N B Q E F) := P5.out.below (below_alloc _ _)
              have S6 : Hid (IsSrc (w5.alloc (.map #[] 0)) a t F E S A) := S5.out.below (below_alloc _ _)
              have N6 : Hid (a ≠ w5.heap.size ∧ t ≠ w5.heap.size ∧ w.heap.size ≠ w5.heap.size ∧ w.heap.size ≤ w5.heap.size) := by
                have h1 := cell_block_lt S5.out.c0
                have h2 := cell_block_lt S5.out.dt.c0
                have h3 := cell_block_lt P5.out.1
                simp only at h1 h2 h3
                unfold Hid
                omega
              generalize w5.alloc (.map #[] 0) = w6 at *
              generalize w5.heap.size = mb at *
              clear B5 P5 S5
              go_wp2
              go_loopw [98] (fun iv wr => ∃ (i m : Nat) (D : DataW Unit) (L : List Int), i ≤ 4000 ∧ m ≤ i * 53 ∧ iv = .int .u64 (i : Int) ∧ Hid (SeenI wr mb m D L) ∧ Hid (KeepsBut (fun x => x = mb) w6 wr) ∧ Hid (∀ x ∈ L, 0 ≤ x ∧ x < (A : Int)) ∧ Hid (∀ id, id < i → ∀ k l, Chk F E S A id k l → ∀ x ∈ l, x ∈ L)) (fun iv _ => 4000 - (intOf iv).toNat)
              case atStart => exact ⟨0, 0, _, [], by omega, by omega, rfl, M6, KeepsBut.refl _ _, by unfold Hid; simp, fun id h => absurd h (by omega)⟩
              case round =>
                obtain ⟨i, m, D, L, hi, hm, rfl, M, KB, HA, HS⟩ := hrel
                clear M6
                by_cases hlt : i < 4000
                · obtain ⟨k, l, hch, CBi⟩ := CI.out i hlt
                  have HC : Hid (Chk F E S A i k l) := hch
                  have hk := hch.many (by omega)
                  have CIi : Hid (Calls Try.prog 15 #[.pointer (some ⟨a, 0, none⟩), .int .u64 (i : Int)] wr fun e w' => ∃ b c, e = .returned (.slice b k c) ∧ OwnZ wr.heap.size w' (.slice b k c) k l ∧ Below wr.heap.size wr w') := CBi wr a t (S6.out.keeps KB.out N6.out.1 N6.out.2.1)
                  have HLl : Hid (l.length = k) := hch.len
                  have HU : Hid (∀ k' l', Chk F E S A i k' l' → l' = l) := by
                    rintro k' l' ⟨s0, s1, u, d, t', a1, a2, a3, a4, a5, a6⟩
                    obtain ⟨s0', s1', u', d', t'', b1, b2, b3, b4, b5, b6⟩ := hch
                    rw [a1] at b1
                    subst b1
                    rw [a2] at b2
                    subst b2
                    rw [a3] at b3
                    subst b3
                    have := a4.uniq b4
                    subst this
                    rw [a6] at b6
                    injection b6
                  clear hch CBi
                  go_wp2_with fail
                  refine CIi.out.mono ?_
                  rintro e w7 ⟨b, c, rfl, ho, hb⟩
                  obtain ⟨lb, lc, el, hlb, hlc, hlm⟩ := owned_shape ho hk.1
                  injection el with e1 _ e3
                  subst e1; subst e3
                  unfold maxLen at hlm
                  have O7 : Hid (Zs w7 (.slice (some ⟨lb, 0, none⟩) k c) l) := ho.zs
                  have M7 : Hid (SeenI w7 mb m D L) := M.out.below hb
                  have K7 : Hid (KeepsBut (fun x => x = mb) w6 w7) := KB.out.trans (KeepsBut.ofBelow hb)
                  have HLB : Hid (lb ≠ mb) := by have := M.out.own.lt; unfold Hid; omega
                  clear hb ho CIi M KB hlb
                  go_wp2
                  go_loopw [105] (fun jv wr => ∃ (j m' : Nat) (D' : DataW Unit) (L' : List Int), j ≤ k ∧ m' ≤ m + j ∧ jv = .int .i64 (j : Int) ∧ Hid (SeenI wr mb m' D' L') ∧ Hid (KeepsBut (fun x => x = mb) w7 wr) ∧ Hid (∀ x ∈ L', 0 ≤ x ∧ x < (A : Int)) ∧ Hid (∀ x ∈ L, x ∈ L') ∧ Hid (∀ x ∈ l.take j, x ∈ L')) (fun jv _ => k - (intOf jv).toNat)
                  case atStart => exact ⟨0, m, D, L, by omega, by omega, rfl, M7, KeepsBut.refl _ _, HA, fun x hx => hx, by unfold Hid; simp⟩
                  case round =>
                    obtain ⟨j, m', D', L', hj, hm', rfl, M8, K8, HA8, HL8, HT8⟩ := hrel
                    clear M7
                    by_cases hjk : j < k
                    · have hjl : j < l.length := by rw [HLl.out]; exact hjk
                      have cx : wr.cell? ⟨lb, j, none⟩ = some (.int .i64 l[j]) := by
                        obtain ⟨_, a', c', hv, _, _, _, h5⟩ := O7.out
                        injection hv with e1 e2 e3
                        rcases h5 with h0 | ⟨b', off, e4, hc⟩
                        · omega
                        · rw [← e1] at e4
                          injection e4 with e4
                          injection e4 with e4 e5 _
                          subst e4; subst e5
                          have h6 := hc j _ (map_z_at l j hjl)
                          rw [Nat.zero_add] at h6
                          exact (World.cell?_of_block (a := ⟨lb, j, none⟩) (K8.out.block lb (cell_block_lt h6) HLB.out)).trans h6
                      have hx := HC.out.mem (List.getElem_mem hjl)
                      have HT9 : Hid (∀ L'' : List Int, (∀ x ∈ L', x ∈ L'') → l[j] ∈ L'' → ∀ x ∈ l.take (j + 1), x ∈ L'') := by
                        intro L'' h1 h2 x hx
                        rw [List.take_succ_eq_append_getElem hjl, List.mem_append] at hx
                        rcases hx with hx | hx
                        · exact h1 x (HT8.out x hx)
                        · rw [List.mem_singleton.1 hx]; exact h2
                      generalize l[j] = x at *
                      have hkey : keyOf Try.prog 3 (.int .i64 x) = some (.int .i64 x) := keyOf_int_mk Try.underlying3 (by simp [Lit.wf, IntKind.min, IntKind.max, IntKind.bits, IntKind.signed]; omega)
                      have hown := M8.out.own
                      have hm8 : m' < maxLen := by unfold maxLen; omega
                      have HPut : Hid (∀ w' d, w'.ownsMap Try.prog 3 (plainElem Try.prog 3) mb (m' + 1) (D'.put (.int .i64 x) d) → SeenI w' mb (m' + 1) (D'.put (.int .i64 x) d) (addI L' x)) := fun w' d h => M8.out.put h
                      go_wp2_with (first
                        | (at_lookup; refine wpList_lookup_own_int _ rfl _ _ 52 rfl 3 3 .i64 Try.keyInt Try.underlying52 Try.underlying3 (Try.noughtInt _) mb m' D' rfl hown _ _ rfl hkey ?_; intro z hat hwz; obtain ⟨z1, hz1⟩ : ∃ z1, IntKind.i64.wrap (z + 1) = z1 := ⟨_, rfl⟩; have wfz : (Lit.int .i64 z1).wf = true := by { rw [← hz1]; exact wf_wrap _ _ }; clear hat hwz)
                        | (at_mapUpdate; refine wpList_mapUpdate_own _ rfl _ _ _ 52 rfl 3 3 Try.keyInt Try.underlying52 _ mb m' D' rfl hown hm8 _ _ _ rfl rfl hkey _ [] (plainElem_int Try.underlying3 wfz) ?_; intro w9 hown9 hgrow9))
                      have M9 : Hid (∃ D9, SeenI w9 mb (m' + 1) D9 (addI L' x)) := ⟨_, HPut.out w9 _ hown9⟩
                      have K9 : Hid (KeepsBut (fun x => x = mb) w7 w9) := K8.out.trans (KeepsBut.ofGrown hgrow9 rfl)
                      have HA9 : Hid (∀ y ∈ addI L' x, 0 ≤ y ∧ y < (A : Int)) := by
                        intro y hy
                        rcases (mem_addI L' x y).1 hy with h | rfl
                        · exact HA8.out y h
                        · exact hx
                      have HL9 : Hid (∀ y ∈ L, y ∈ addI L' x) := fun y hy => (mem_addI L' x y).2 (.inl (HL8.out y hy))
                      have HT10 : Hid (∀ y ∈ l.take (j + 1), y ∈ addI L' x) := HT9.out _ (fun y hy => (mem_addI L' x y).2 (.inl hy)) ((mem_addI L' x x).2 (.inr rfl))
                      obtain ⟨D9, M10⟩ := M9.out
                      have M11 : Hid (SeenI w9 mb (m' + 1) D9 (addI L' x)) := M10
                      clear hown hown9 hgrow9 M8 K8 HA8 HL8 HT8 HT9 HPut M9 M10 cx hkey hx wfz hz1
                      go_roundw
                      case rel => exact ⟨j + 1, m' + 1, D9, _, by omega, by omega, by go_num, M11, K9, HA9, HL9, HT10⟩
                      case measure => simp [intOf]; omega
                    · have HS9 : Hid (∀ id, id < i + 1 → ∀ k l, Chk F E S A id k l → ∀ x ∈ l, x ∈ L') := by
                        intro id hid k' l' hc x hx
                        by_cases e : id = i
                        · subst e
                          rw [HU.out k' l' hc] at hx
                          exact HT8.out x (by rw [List.take_of_length_le (by rw [HLl.out]; omega)]; exact hx)
                        · exact HL8.out x (HS.out id (by omega) k' l' hc x hx)
                      have K10 : Hid (KeepsBut (fun x => x = mb) w6 wr) := K7.out.trans K8.out
                      have hm10 : m' ≤ (i + 1) * 53 := by omega
                      go_wp2
                      go_roundw
                      case rel => exact ⟨i + 1, m', D', L', by omega, hm10, by go_num, M8, K10, HA8, HS9⟩
                      case measure => simp [intOf]; omega
                · obtain rfl : i = 4000 := by omega
                  have HLen : Hid (L.length = A) := by
                    refine all_seen M.out.nodup HA.out (fun b hb => ?_)
                    obtain ⟨id, hid, hl⟩ := HRe.out b hb
                    obtain ⟨k, l, hch, -⟩ := CI.out id hid
                    exact HS.out id hid k l hch _ (hl k l hch)
                  have P7 : Hid (Five wr w.heap.size N B Q E F) := P6.out.kept (KB.out.block _ (cell_block_lt P6.out.1) N6.out.2.2.1)
                  have B7 : Hid (Below w.heap.size w wr) := B6.out.trans (KB.out.below B6.out.size (fun x e => by rw [e]; exact N6.out.2.2.2))
                  have c1 := P7.out.2.1
                  obtain ⟨U, hU⟩ : ∃ U, (n + B - 1) / B = U := ⟨_, rfl⟩
                  have HUj : Hid (∀ j, j * B < n ↔ j < U) := by intro j; rw [← hU]; exact used_at b1
                  have HUN : U ≤ N := by
                    by_cases h : U ≤ N
                    · exact h
                    · have := (HUj.out N).2 (by omega)
                      have := HUse.out
                      omega
                  have hU2 : Int.tdiv ((n : Int) + (B : Int) - 1) (B : Int) = (U : Int) := by
                    rw [← hU, show (n : Int) + (B : Int) - 1 = ((n + B - 1 : Nat) : Int) by omega]
                    simp
                  have HUq : Hid (Int.tdiv ((n : Int) + (B : Int) - 1) (B : Int) = (U : Int)) := hU2
                  clear hU hU2 HS HA S6 P6 B6 CI HRe
                  go_wp2
                  go_loop [15, 117] (fun uv jv => ∃ (j u : Nat), j ≤ N ∧ jv = .int .i64 (j : Int) ∧ uv = .int .i64 (u : Int) ∧ u = min j U) (fun _ jv => N - (intOf jv).toNat)
                  case atStart => exact ⟨0, 0, by omega, rfl, rfl, by omega⟩
                  case round =>
                    obtain ⟨j, u, hj, rfl, rfl, hu⟩ := hrel
                    by_cases hjN : j < N
                    · have hjB : j * B ≤ 20 * 40 := Nat.mul_le_mul (show j ≤ 20 by omega) g2
                      have hwj : IntKind.i64.wrap ((j : Int) * (B : Int)) = ((j * B : Nat) : Int) := by rw [IntKind.wrap_i64]; simp; omega
                      have hju := HUj.out j
                      generalize j * B = jB at *
                      by_cases hjn : jB < n
                      · have kj : (jB : Int) < (n : Int) := by omega
                        have hjU : j < U := hju.1 hjn
                        clear hju
                        go_wp2
                        go_round
                        case rel => exact ⟨j + 1, u + 1, by omega, by go_num, by go_num, by omega⟩
                        case measure => simp [intOf]; omega
                      · have kj : ¬ (jB : Int) < (n : Int) := by omega
                        have hjU : ¬ j < U := fun h => hjn (hju.2 h)
                        clear hju
                        go_wp2
                        go_round
                        case rel => exact ⟨j + 1, u, by omega, by go_num, rfl, by omega⟩
                        case measure => simp [intOf]; omega
                    · obtain rfl : u = U := by omega
                      have BX : Hid (∀ W, Below wr.heap.size wr W → Five W w.heap.size N B Q E F) := fun W hW => P7.out.below hW
                      have LN : Hid (∀ W, Below wr.heap.size wr W → ∀ ty, (Builtin.len_ #[52] ty #[.map (some mb)]).run Try.prog W = .ok (.int .i64 (A : Int)) W) := by
                        intro W hW ty
                        have h := (M.out.below hW).own.len Try.underlying52 ty
                        rw [M.out.size, HLen.out] at h
                        exact h
                      have CA7 : Hid (∀ W, Below wr.heap.size wr W → Calls Try.prog 17 #[.agg #[.int .i64 (N : Int), .int .i64 (B : Int), .int .i64 Q, .int .i64 (E : Int), .int .i64 (F : Int)]] W fun e w' => ∃ v, e = .returned v ∧ IsV (.int .i64 X) v w' ∧ Below W.heap.size W w') := fun W _ => CA.out W
                      have hB0 : ((B : Int) == 0) = false := by simp; omega
                      have hjN2 : ¬ (j : Int) < (N : Int) := by omega
                      clear c1 M KB HLen CA hu
                      go_upto_region 27 with fail
                      refine wp_region_any (by kernel_rfl) ?_
                      obtain ⟨gs, hgs⟩ : ∃ gs : List (Value → World → Prop), gs = [IsV (Value.map (some mb)), IsV (.int .i64 (A : Int)), IsV (.pointer (some ⟨w.heap.size, 0, none⟩)), IsV (.int .i64 (N : Int)), IsV (.agg #[.int .i64 (N : Int), .int .i64 (B : Int), .int .i64 Q, .int .i64 (E : Int), .int .i64 (F : Int)]), IsV (.int .i64 X), IsV (.int .i64 (A : Int)), IsV (.bool true), IsV (.bool true), IsV (Value.int IntKind.i64 ↑u), IsV (Value.slice ao n cap), IsV (.int .i64 (n : Int)), IsV (.pointer (some ⟨w.heap.size, 1, none⟩)), IsV (.int .i64 (B : Int)), IsV (.int .i64 ((n : Int) + (B : Int))), IsV (.int .i64 (((n : Int) + (B : Int)) - 1)), IsV (.pointer (some ⟨w.heap.size, 1, none⟩)), IsV (.int .i64 (B : Int)), IsV (.int .i64 (u : Int)), IsV (.bool true), IsV (.bool true), IsV (.bool true)] := ⟨_, rfl⟩
                      have g0 : Hid (gs[0]? = some (IsV (Value.map (some mb)))) := by unfold Hid; rw [hgs]; rfl
                      have g1 : Hid (gs[1]? = some (IsV (.int .i64 (A : Int)))) := by unfold Hid; rw [hgs]; rfl
                      have g2 : Hid (gs[2]? = some (IsV (.pointer (some ⟨w.heap.size, 0, none⟩)))) := by unfold Hid; rw [hgs]; rfl
                      have g3 : Hid (gs[3]? = some (IsV (.int .i64 (N : Int)))) := by unfold Hid; rw [hgs]; rfl
                      have g4 : Hid (gs[4]? = some (IsV (.agg #[.int .i64 (N : Int), .int .i64 (B : Int), .int .i64 Q, .int .i64 (E : Int), .int .i64 (F : Int)]))) := by unfold Hid; rw [hgs]; rfl
                      have g5 : Hid (gs[5]? = some (IsV (.int .i64 X))) := by unfold Hid; rw [hgs]; rfl
                      have g6 : Hid (gs[6]? = some (IsV (.int .i64 (A : Int)))) := by unfold Hid; rw [hgs]; rfl
                      have g7 : Hid (gs[7]? = some (IsV (.bool true))) := by unfold Hid; rw [hgs]; rfl
                      have g8 : Hid (gs[8]? = some (IsV (.bool true))) := by unfold Hid; rw [hgs]; rfl
                      have g9 : Hid (gs[9]? = some (IsV (Value.int IntKind.i64 ↑u))) := by unfold Hid; rw [hgs]; rfl
                      have g10 : Hid (gs[10]? = some (IsV (Value.slice ao n cap))) := by unfold Hid; rw [hgs]; rfl
                      have g11 : Hid (gs[11]? = some (IsV (.int .i64 (n : Int)))) := by unfold Hid; rw [hgs]; rfl
                      have g12 : Hid (gs[12]? = some (IsV (.pointer (some ⟨w.heap.size, 1, none⟩)))) := by unfold Hid; rw [hgs]; rfl
                      have g13 : Hid (gs[13]? = some (IsV (.int .i64 (B : Int)))) := by unfold Hid; rw [hgs]; rfl
                      have g14 : Hid (gs[14]? = some (IsV (.int .i64 ((n : Int) + (B : Int))))) := by unfold Hid; rw [hgs]; rfl
                      have g15 : Hid (gs[15]? = some (IsV (.int .i64 (((n : Int) + (B : Int)) - 1)))) := by unfold Hid; rw [hgs]; rfl
                      have g16 : Hid (gs[16]? = some (IsV (.pointer (some ⟨w.heap.size, 1, none⟩)))) := by unfold Hid; rw [hgs]; rfl
                      have g17 : Hid (gs[17]? = some (IsV (.int .i64 (B : Int)))) := by unfold Hid; rw [hgs]; rfl
                      have g18 : Hid (gs[18]? = some (IsV (.int .i64 (u : Int)))) := by unfold Hid; rw [hgs]; rfl
                      have g19 : Hid (gs[19]? = some (IsV (.bool true))) := by unfold Hid; rw [hgs]; rfl
                      have g20 : Hid (gs[20]? = some (IsV (.bool true))) := by unfold Hid; rw [hgs]; rfl
                      have g21 : Hid (gs[21]? = some (IsV (.bool true))) := by unfold Hid; rw [hgs]; rfl
                      have gk : Hid (∀ p ∈ gs, Stays p) := by
                        unfold Hid
                        rw [hgs]
                        simp only [List.forall_mem_cons]
                        exact ⟨stays_v _, stays_v _, stays_v _, stays_v _, stays_v _, stays_v _, stays_v _, stays_v _, stays_v _, stays_v _, stays_v _, stays_v _, stays_v _, stays_v _, stays_v _, stays_v _, stays_v _, stays_v _, stays_v _, stays_v _, stays_v _, stays_v _, by simp⟩
                      clear hgs
                      refine wpAny_inv (fun listed ac W => ∃ xv : Nat → Value, ac = ⟨#[Value.agg #[Value.int IntKind.i64 ↑N, Value.int IntKind.i64 ↑B, Value.int IntKind.i64 Q, Value.int IntKind.i64 ↑E, Value.int IntKind.i64 ↑F], Value.int IntKind.u64 ↑sn, Value.slice ao n cap, Value.pointer (some { block := w.heap.size, off := 0 }), undef, undef, xv 21, Value.pointer (some { block := a, off := 0 }), Value.int IntKind.i64 (0 : Int), Value.slice (some { block := q, off := 0 }) N N, Value.int IntKind.i64 (0 : Int), Value.map (some mb), u12, undef, u14, Value.int IntKind.i64 ↑u, u16, Value.tuple #[Value.pointer (some { block := a0, off := 0 }), Value.int IntKind.i64 (0 : Int)], Value.agg #[Value.int IntKind.i64 (1 : Int), Value.int IntKind.i64 (1 : Int), Value.int IntKind.i64 (1 : Int), Value.int IntKind.i64 (1000 : Int), Value.int IntKind.i64 (2 : Int)], Value.tuple #[Value.pointer (some { block := a0, off := 0 }), Value.int IntKind.i64 (0 : Int)], Value.pointer (some { block := a0, off := 0 }), Value.int IntKind.i64 (0 : Int), Value.int IntKind.i64 (0 : Int), Value.bool false, Value.bool false, Value.pointer (some { block := a0, off := 0 }), Value.bool false, Value.bool false, Value.bool false, Value.pointer (some { block := a0, off := 0 }), Value.slice b2 k0 k2, Value.int IntKind.i64 ↑k0, Value.bool (decide (↑k0 < (1 : Int))), Value.bool (decide (↑k0 < (1 : Int))), Value.agg #[Value.int IntKind.i64 ↑N, Value.int IntKind.i64 ↑B, Value.int IntKind.i64 Q, Value.int IntKind.i64 ↑E, Value.int IntKind.i64 ↑F], Value.bool true, Value.bool false, Value.bool false, Value.pointer (some { block := w.heap.size, off := 0 }), Value.int IntKind.i64 ↑N, Value.bool (decide ((20 : Int) < ↑N)), Value.bool (decide ((20 : Int) < ↑N)), Value.bool (decide ((20 : Int) < ↑N)), Value.pointer (some { block := w.heap.size, off := 1 }), Value.int IntKind.i64 ↑B, Value.bool (decide ((40 : Int) < ↑B)), Value.bool (decide ((20 : Int) < ↑N) || decide ((40 : Int) < ↑B)), Value.bool (decide ((20 : Int) < ↑N) || decide ((40 : Int) < ↑B)), Value.pointer (some { block := w.heap.size, off := 4 }), Value.int IntKind.i64 ↑F, Value.bool (decide ((200 : Int) < ↑F)), Value.bool (decide ((20 : Int) < ↑N) || decide ((40 : Int) < ↑B) || decide ((200 : Int) < ↑F)), Value.bool (decide ((20 : Int) < ↑N) || decide ((40 : Int) < ↑B) || decide ((200 : Int) < ↑F)), Value.pointer (some { block := w.heap.size, off := 2 }), Value.int IntKind.i64 Q, Value.bool (decide ((3 : Int) < Q)), Value.bool (decide ((20 : Int) < ↑N) || decide ((40 : Int) < ↑B) || decide ((200 : Int) < ↑F) || decide ((3 : Int) < Q)), Value.bool (decide ((20 : Int) < ↑N) || decide ((40 : Int) < ↑B) || decide ((200 : Int) < ↑F) || decide ((3 : Int) < Q)), Value.slice ao n cap, Value.int IntKind.i64 ↑n, Value.pointer (some { block := w.heap.size, off := 0 }), Value.int IntKind.i64 ↑N, Value.pointer (some { block := w.heap.size, off := 1 }), Value.int IntKind.i64 ↑B, Value.int IntKind.i64 ↑P, Value.bool false, Value.bool (decide ((20 : Int) < ↑N) || decide ((40 : Int) < ↑B) || decide ((200 : Int) < ↑F) || decide ((3 : Int) < Q)), Value.tuple #[Value.pointer (some { block := a, off := 0 }), Value.int IntKind.i64 (0 : Int)], Value.agg #[Value.int IntKind.i64 ↑N, Value.int IntKind.i64 ↑B, Value.int IntKind.i64 Q, Value.int IntKind.i64 ↑E, Value.int IntKind.i64 ↑F], Value.int IntKind.u64 ↑sn, Value.int IntKind.u64 ↑S, Value.tuple #[Value.pointer (some { block := a, off := 0 }), Value.int IntKind.i64 (0 : Int)], Value.pointer (some { block := a, off := 0 }), Value.int IntKind.i64 (0 : Int), Value.tuple #[Value.slice (some { block := q, off := 0 }) N N, Value.int IntKind.i64 (0 : Int)], Value.agg #[Value.int IntKind.i64 ↑N, Value.int IntKind.i64 ↑B, Value.int IntKind.i64 Q, Value.int IntKind.i64 ↑E, Value.int IntKind.i64 ↑F], Value.slice ao n cap, Value.tuple #[Value.slice (some { block := q, off := 0 }) N N, Value.int IntKind.i64 (0 : Int)], Value.slice (some { block := q, off := 0 }) N N, Value.int IntKind.i64 (0 : Int), Value.int IntKind.i64 (0 : Int), Value.bool false, Value.bool false, Value.int IntKind.i64 (0 : Int), Value.bool false, Value.bool false, Value.bool false, Value.pointer (some { block := a, off := 0 }), Value.bool false, Value.bool false, Value.bool false, Value.slice (some { block := q, off := 0 }) N N, Value.int IntKind.i64 ↑N, Value.pointer (some { block := w.heap.size, off := 0 }), Value.int IntKind.i64 ↑N, Value.bool false, Value.bool false, Value.map (some mb), Value.int IntKind.u64 ↑4000, Value.bool false, u100, u101, u102, u103, u104, u105, u106, u107, u108, u109, u110, u111, u112, u113, u114, Value.slice (some { block := q, off := 0 }) N N, Value.int IntKind.i64 ↑N, Value.int IntKind.i64 ↑j, Value.bool false, u119, u120, u121, u122, u123, u124, u125, u126, u127, u128, u129, xv 0, xv 1, xv 2, xv 3, xv 4, xv 5, xv 6, xv 7, xv 8, xv 9, xv 10, xv 11, xv 12, xv 13, xv 14, xv 15, xv 16, xv 17, xv 18, xv 19, xv 20], []⟩ ∧ Below wr.heap.size wr W ∧ Lst gs listed xv W) (by kernel_rfl) ?_ ?_ _ _ _ _ (by kernel_rfl) (of_decide_eq_true (by kernel_rfl)) ⟨fun j => if j = 21 then Value.bool false else undef, rfl, below0 _, Lst.start _ _ _ _⟩
                      · rintro listed ac W ⟨xv, rfl, hb, hG⟩ i hi hd
                        have hin : i < 22 := hi
                        clear hi
                        have hcase : i = 0 ∨ i = 1 ∨ i = 2 ∨ i = 3 ∨ i = 4 ∨ i = 5 ∨ i = 6 ∨ i = 7 ∨ i = 8 ∨ i = 9 ∨ i = 10 ∨ i = 11 ∨ i = 12 ∨ i = 13 ∨ i = 14 ∨ i = 15 ∨ i = 16 ∨ i = 17 ∨ i = 18 ∨ i = 19 ∨ i = 20 ∨ i = 21 := by omega
                        rcases hcase with rfl | rfl | rfl | rfl | rfl | rfl | rfl | rfl | rfl | rfl | rfl | rfl | rfl | rfl | rfl | rfl | rfl | rfl | rfl | rfl | rfl | rfl
                        · refine wpOp_step rfl (fun K' hK => ?_)
                          clear hd hin
                          go_simp
                          exact hK _ _ ⟨updV xv 0 (Value.map (some mb)), by simp [updV], hb, hG.same gk.out g0.out _ rfl⟩
                        · refine wpOp_step rfl (fun K' hK => ?_)
                          simp [Region.binds] at hd
                          have e0 : xv 0 = Value.map (some mb) := hG.get g0.out (by simp [hd])
                          have hlen := LN.out W hb
                          clear hd hin
                          go_simp
                          exact hK _ _ ⟨updV xv 1 (.int .i64 (A : Int)), by simp [updV, e0], hb, hG.same gk.out g1.out _ rfl⟩
                        · refine wpOp_step rfl (fun K' hK => ?_)
                          clear hd hin
                          go_simp
                          exact hK _ _ ⟨updV xv 2 (.pointer (some ⟨w.heap.size, 0, none⟩)), by simp [updV], hb, hG.same gk.out g2.out _ rfl⟩
                        · refine wpOp_step rfl (fun K' hK => ?_)
                          simp [Region.binds] at hd
                          have e2 : xv 2 = .pointer (some ⟨w.heap.size, 0, none⟩) := hG.get g2.out (by simp [hd])
                          obtain ⟨c0, c1, c2, c3, c4⟩ := BX.out W hb
                          clear hd hin
                          go_simp
                          exact hK _ _ ⟨updV xv 3 (.int .i64 (N : Int)), by simp [updV, e2], hb, hG.same gk.out g3.out _ rfl⟩
                        · refine wpOp_step rfl (fun K' hK => ?_)
                          obtain ⟨c0, c1, c2, c3, c4⟩ := BX.out W hb
                          clear hd hin
                          go_simp
                          exact hK _ _ ⟨updV xv 4 (.agg #[.int .i64 (N : Int), .int .i64 (B : Int), .int .i64 Q, .int .i64 (E : Int), .int .i64 (F : Int)]), by simp [updV], hb, hG.same gk.out g4.out _ rfl⟩
                        · refine wpOp_step rfl (fun K' hK => ?_)
                          simp [Region.binds] at hd
                          have e4 : xv 4 = .agg #[.int .i64 (N : Int), .int .i64 (B : Int), .int .i64 Q, .int .i64 (E : Int), .int .i64 (F : Int)] := hG.get g4.out (by simp [hd])
                          clear hd hin
                          go_simp
                          refine (CA7.out W hb).mono ?_
                          rintro e w' ⟨v, rfl, hv, hb'⟩
                          go_wp2_with fail
                          exact ⟨updV xv 5 v, by simp [updV, e4], hb.trans (hb'.mono hb.size), hG.step gk.out hb' g5.out v hv⟩
                        · refine wpOp_step rfl (fun K' hK => ?_)
                          simp [Region.binds] at hd
                          have e3 : xv 3 = .int .i64 (N : Int) := hG.get g3.out (by simp [hd])
                          have e5 : xv 5 = .int .i64 X := hG.get g5.out (by simp [hd])
                          have wr := E1.out
                          clear hd hin
                          go_simp
                          exact hK _ _ ⟨updV xv 6 (.int .i64 (A : Int)), by simp [updV, e3, e5], hb, hG.same gk.out g6.out _ rfl⟩
                        · refine wpOp_step rfl (fun K' hK => ?_)
                          simp [Region.binds] at hd
                          have e1 : xv 1 = .int .i64 (A : Int) := hG.get g1.out (by simp [hd])
                          have e6 : xv 6 = .int .i64 (A : Int) := hG.get g6.out (by simp [hd])
                          clear hd hin
                          go_simp
                          exact hK _ _ ⟨updV xv 7 (.bool true), by simp [updV, e1, e6], hb, hG.same gk.out g7.out _ rfl⟩
                        · refine wpOp_step rfl (fun K' hK => ?_)
                          simp [Region.binds] at hd
                          have e7 : xv 7 = .bool true := hG.get g7.out (by simp [hd])
                          clear hd hin
                          go_simp
                          exact hK _ _ ⟨updV xv 8 (.bool true), by simp [updV, e7], hb, hG.same gk.out g8.out _ rfl⟩
                        · refine wpOp_step rfl (fun K' hK => ?_)
                          simp [Region.binds] at hd
                          have e8 : xv 8 = .bool true := hG.get g8.out (by simp [hd])
                          clear hd hin
                          go_simp
                          exact hK _ _ ⟨updV xv 9 (Value.int IntKind.i64 ↑u), by simp [updV, e8], hb, hG.same gk.out g9.out _ rfl⟩
                        · refine wpOp_step rfl (fun K' hK => ?_)
                          simp [Region.binds] at hd
                          have e8 : xv 8 = .bool true := hG.get g8.out (by simp [hd])
                          clear hd hin
                          go_simp
                          exact hK _ _ ⟨updV xv 10 (Value.slice ao n cap), by simp [updV, e8], hb, hG.same gk.out g10.out _ rfl⟩
                        · refine wpOp_step rfl (fun K' hK => ?_)
                          simp [Region.binds] at hd
                          have e10 : xv 10 = Value.slice ao n cap := hG.get g10.out (by simp [hd])
                          have e8 : xv 8 = .bool true := hG.get g8.out (by simp [hd])
                          clear hd hin
                          go_simp
                          exact hK _ _ ⟨updV xv 11 (.int .i64 (n : Int)), by simp [updV, e10, e8], hb, hG.same gk.out g11.out _ rfl⟩
                        · refine wpOp_step rfl (fun K' hK => ?_)
                          simp [Region.binds] at hd
                          have e8 : xv 8 = .bool true := hG.get g8.out (by simp [hd])
                          clear hd hin
                          go_simp
                          exact hK _ _ ⟨updV xv 12 (.pointer (some ⟨w.heap.size, 1, none⟩)), by simp [updV, e8], hb, hG.same gk.out g12.out _ rfl⟩
                        · refine wpOp_step rfl (fun K' hK => ?_)
                          simp [Region.binds] at hd
                          have e12 : xv 12 = .pointer (some ⟨w.heap.size, 1, none⟩) := hG.get g12.out (by simp [hd])
                          have e8 : xv 8 = .bool true := hG.get g8.out (by simp [hd])
                          obtain ⟨c0, c1, c2, c3, c4⟩ := BX.out W hb
                          clear hd hin
                          go_simp
                          exact hK _ _ ⟨updV xv 13 (.int .i64 (B : Int)), by simp [updV, e12, e8], hb, hG.same gk.out g13.out _ rfl⟩
                        · refine wpOp_step rfl (fun K' hK => ?_)
                          simp [Region.binds] at hd
                          have e11 : xv 11 = .int .i64 (n : Int) := hG.get g11.out (by simp [hd])
                          have e13 : xv 13 = .int .i64 (B : Int) := hG.get g13.out (by simp [hd])
                          have e8 : xv 8 = .bool true := hG.get g8.out (by simp [hd])
                          have wr : IntKind.i64.wrap ((n : Int) + (B : Int)) = (n : Int) + (B : Int) := by rw [IntKind.wrap_i64]; omega
                          clear hd hin
                          go_simp
                          exact hK _ _ ⟨updV xv 14 (.int .i64 ((n : Int) + (B : Int))), by simp [updV, e11, e13, e8], hb, hG.same gk.out g14.out _ rfl⟩
                        · refine wpOp_step rfl (fun K' hK => ?_)
                          simp [Region.binds] at hd
                          have e14 : xv 14 = .int .i64 ((n : Int) + (B : Int)) := hG.get g14.out (by simp [hd])
                          have e8 : xv 8 = .bool true := hG.get g8.out (by simp [hd])
                          have wr : IntKind.i64.wrap (((n : Int) + (B : Int)) - 1) = ((n : Int) + (B : Int)) - 1 := by rw [IntKind.wrap_i64]; omega
                          clear hd hin
                          go_simp
                          exact hK _ _ ⟨updV xv 15 (.int .i64 (((n : Int) + (B : Int)) - 1)), by simp [updV, e14, e8], hb, hG.same gk.out g15.out _ rfl⟩
                        · refine wpOp_step rfl (fun K' hK => ?_)
                          simp [Region.binds] at hd
                          have e8 : xv 8 = .bool true := hG.get g8.out (by simp [hd])
                          clear hd hin
                          go_simp
                          exact hK _ _ ⟨updV xv 16 (.pointer (some ⟨w.heap.size, 1, none⟩)), by simp [updV, e8], hb, hG.same gk.out g16.out _ rfl⟩
                        · refine wpOp_step rfl (fun K' hK => ?_)
                          simp [Region.binds] at hd
                          have e16 : xv 16 = .pointer (some ⟨w.heap.size, 1, none⟩) := hG.get g16.out (by simp [hd])
                          have e8 : xv 8 = .bool true := hG.get g8.out (by simp [hd])
                          obtain ⟨c0, c1, c2, c3, c4⟩ := BX.out W hb
                          clear hd hin
                          go_simp
                          exact hK _ _ ⟨updV xv 17 (.int .i64 (B : Int)), by simp [updV, e16, e8], hb, hG.same gk.out g17.out _ rfl⟩
                        · refine wpOp_step rfl (fun K' hK => ?_)
                          simp [Region.binds] at hd
                          have e15 : xv 15 = .int .i64 (((n : Int) + (B : Int)) - 1) := hG.get g15.out (by simp [hd])
                          have e17 : xv 17 = .int .i64 (B : Int) := hG.get g17.out (by simp [hd])
                          have e8 : xv 8 = .bool true := hG.get g8.out (by simp [hd])
                          have hq := HUq.out
                          have hBz : (B = 0) = False := eq_false (by omega)
                          have wr : IntKind.i64.wrap (u : Int) = (u : Int) := by rw [IntKind.wrap_i64]; omega
                          clear hd hin
                          go_simp
                          exact hK _ _ ⟨updV xv 18 (.int .i64 (u : Int)), by simp [updV, e15, e17, e8], hb, hG.same gk.out g18.out _ rfl⟩
                        · refine wpOp_step rfl (fun K' hK => ?_)
                          simp [Region.binds] at hd
                          have e9 : xv 9 = Value.int IntKind.i64 ↑u := hG.get g9.out (by simp [hd])
                          have e18 : xv 18 = .int .i64 (u : Int) := hG.get g18.out (by simp [hd])
                          have e8 : xv 8 = .bool true := hG.get g8.out (by simp [hd])
                          clear hd hin
                          go_simp
                          exact hK _ _ ⟨updV xv 19 (.bool true), by simp [updV, e9, e18, e8], hb, hG.same gk.out g19.out _ rfl⟩
                        · refine wpOp_step rfl (fun K' hK => ?_)
                          simp [Region.binds] at hd
                          have e8 : xv 8 = .bool true := hG.get g8.out (by simp [hd])
                          have e19 : xv 19 = .bool true := hG.get g19.out (by simp [hd])
                          clear hd hin
                          go_simp
                          exact hK _ _ ⟨updV xv 20 (.bool true), by simp [updV, e8, e19], hb, hG.same gk.out g20.out _ rfl⟩
                        · refine wpOp_step rfl (fun K' hK => ?_)
                          simp [Region.binds] at hd
                          have e20 : xv 20 = .bool true := hG.get g20.out (by simp [hd])
                          clear hd hin
                          go_simp
                          exact hK _ _ ⟨updV xv 21 (.bool true), by simp [updV, e20], hb, hG.same gk.out g21.out _ rfl⟩
                      · rintro listed ac W ⟨xv, rfl, hb, hG⟩ hall
                        have e21 : xv 21 = .bool true := hG.get g21.out (hall 21 (by decide))
                        have XW : Hid (Below wr.heap.size wr W) := hb
                        clear hall hG hb gk g0 g1 g2 g3 g4 g5 g6 g7 g8 g9 g10 g11 g12 g13 g14 g15 g16 g17 g18 g19 g20 g21
                        rw [e21]
                        clear e21
                        have B8 : Hid (Below w.heap.size w W) := below_on B7.out XW.out
                        clear BX LN CA7 XW
                        go_wp2
                        go_ret
                        exact ⟨rfl, B8.out⟩
            · have q5 : (n : Int) > (P : Int) := by omega
              clear hP hP2
              go_wp2
              go_ret
              exact ⟨rfl, B3.out⟩
          · have q4 : Q > 3 := by omega
            go_wp2
            go_ret
            exact ⟨rfl, B3.out⟩
        · have q3 : (F : Int) > 200 := by omega
          go_wp2
          go_ret
          exact ⟨rfl, B3.out⟩
      · have q2 : (B : Int) > 40 := by omega
        go_wp2
        go_ret
        exact ⟨rfl, B3.out⟩
    · have q1 : (N : Int) > 20 := by omega
      go_wp2
      go_ret
      exact ⟨rfl, B3.out⟩
  · rw [@decide_eq_false _ (decMay _ _ _ _ _) hM]
    clear hM
    go_wp2
    go_ret
    exact ⟨rfl, B3.out⟩

theorem wholeReach_law (N B Q E F : Int) (S : Int) (ov : Value) (l : List UInt8) (w : World) (h : Ok .i64 N ∧ Ok .i64 B ∧ Ok .i64 Q ∧ Ok .i64 E ∧ Ok .i64 F) (hS : (Lit.int .u64 S).wf = true) (ho : Bs w ov l) :
    Calls Try.prog 10 #[.agg #[.int .i64 N, .int .i64 B, .int .i64 Q, .int .i64 E, .int .i64 F], .int .u64 S, ov] w fun e w' => e = .returned (.bool true) ∧ Below w.heap.size w w' := by
  simp [Lit.wf, IntKind.min, IntKind.max, IntKind.bits, IntKind.signed] at hS
  obtain ⟨s, rfl⟩ : ∃ s : Nat, S = s := ⟨S.toNat, by omega⟩
  exact wholeReach_walk N B Q E F s ov l w (by omega) ho

end Go.Proofs.Ytbnedpjfgadkkaa
