/-
  segment: Split.
-/
import Derived.Test.YtbnedpjfgadkkaaSegM
import Derived.Test.YtbnedpjfgadkkaaParB
import Derived.Test.YtbnedpjfgadkkaaLPh
import Derived.Deep.Cut
namespace Go.Proofs.Ytbnedpjfgadkkaa
open Go.RowKit
set_option linter.unusedVariables false

theorem on_below {w w1 W : World} (h : Below w.heap.size w w1) (h2 : Below w1.heap.size w1 W) : Below w.heap.size w W := h.trans (h2.mono h.size)

set_option maxRecDepth 100000 in
set_option maxHeartbeats 1000000 in
theorem split_no (N B Q E F : Int) (ov : Value) (w : World) (h : ¬ May N B Q E F) :
    Calls Try.prog 19 #[.agg #[.int .i64 N, .int .i64 B, .int .i64 Q, .int .i64 E, .int .i64 F], ov] w fun e w' => e = .returned (.tuple #[.slice none 0 0, .int .i64 1]) ∧ Below w.heap.size w w' := by
  have CC : Hid (∀ W, Calls Try.prog 34 #[.agg #[.int .i64 N, .int .i64 B, .int .i64 Q, .int .i64 E, .int .i64 F]] W fun e w' => e = .returned (.int .i64 1) ∧ Below W.heap.size W w') := by
    intro W
    have := pcheck_any N B Q E F W
    rw [mayE_no h] at this
    exact this
  clear h
  go_enter Try.func19, Try.ntmps19
  go_wp2_with fail
  refine (CC.out _).mono ?_
  rintro e w1 ⟨rfl, hb⟩
  have HB : Hid (Below w.heap.size w w1) := on_below (below_alloc _ _) hb
  clear hb CC
  go_wp2
  go_ret2
  exact ⟨rfl, HB.out⟩

set_option maxRecDepth 100000 in
set_option maxHeartbeats 1000000 in
theorem split_long (N B : Nat) (Q E F : Int) (ov : Value) (l : List UInt8) (w : World) (h : May (N : Int) (B : Int) Q E F) (ho : Bs w ov l) (hl : ¬ l.length ≤ N * B) :
    Calls Try.prog 19 #[.agg #[.int .i64 (N : Int), .int .i64 (B : Int), .int .i64 Q, .int .i64 E, .int .i64 F], ov] w fun e w' => e = .returned (.tuple #[.slice none 0 0, .int .i64 10]) ∧ Below w.heap.size w w' := by
  have CC : Hid (∀ W, Calls Try.prog 34 #[.agg #[.int .i64 (N : Int), .int .i64 (B : Int), .int .i64 Q, .int .i64 E, .int .i64 F]] W fun e w' => e = .returned (.int .i64 0) ∧ Below W.heap.size W w') := by
    intro W
    have := pcheck_any N B Q E F W
    rw [mayE_yes h] at this
    exact this
  have CM : Hid (∀ W, Calls Try.prog 35 #[.agg #[.int .i64 (N : Int), .int .i64 (B : Int), .int .i64 Q, .int .i64 E, .int .i64 F]] W fun e w' => e = .returned (.int .i64 ((N * B : Nat) : Int)) ∧ Below W.heap.size W w') := by
    intro W
    have := most_any N B Q E F W h.1 h.2.1
    rw [show (N : Int) * (B : Int) = ((N * B : Nat) : Int) by simp] at this
    exact this
  obtain ⟨-, ao, cap, rfl, h2, h3, -, -⟩ := ho
  unfold maxLen at h3
  generalize N * B = P at *
  have hgt : (l.length : Int) > (P : Int) := by omega
  clear h hl
  generalize l.length = n at *
  go_enter Try.func19, Try.ntmps19
  go_wp2_with fail
  refine (CC.out _).mono ?_
  rintro e w1 ⟨rfl, hb⟩
  have B1 : Hid (Below w.heap.size w w1) := on_below (below_alloc _ _) hb
  have P1 : Hid (Five w1 w.heap.size N B Q E F) := (five_new w _ _ _ _ _ _).below hb
  clear hb CC
  obtain ⟨c0, c1, c2, c3, c4⟩ := P1.out
  go_wp2_with fail
  refine (CM.out _).mono ?_
  rintro e w2 ⟨rfl, hb⟩
  have B2 : Hid (Below w.heap.size w w2) := on_below B1.out hb
  clear hb CM c0 c1 c2 c3 c4 P1 B1
  go_wp2
  go_ret2
  exact ⟨rfl, B2.out⟩

theorem drop_copy (l : List UInt8) (i B m : Nat) (hm : (l.drop (i * B)).length = m) : (l.drop (i * B)).drop (min m B) = l.drop ((i + 1) * B) := by
  rw [List.drop_drop, Nat.succ_mul]
  simp only [List.length_drop] at hm
  by_cases h : B ≤ m
  · rw [Nat.min_eq_right h]
  · rw [Nat.min_eq_left (by omega), List.drop_eq_nil_of_le (by omega), List.drop_eq_nil_of_le (by omega)]

theorem Five.kept {W W' : World} {b : Nat} {N B Q E F : Int} (h : Five W b N B Q E F) (hk : W'.heap[b]? = W.heap[b]?) : Five W' b N B Q E F := by
  obtain ⟨d0, d1, d2, d3, d4⟩ := h
  exact ⟨(World.cell?_of_block (a := ⟨b, 0, none⟩) hk).trans d0, (World.cell?_of_block (a := ⟨b, 1, none⟩) hk).trans d1, (World.cell?_of_block (a := ⟨b, 2, none⟩) hk).trans d2, (World.cell?_of_block (a := ⟨b, 3, none⟩) hk).trans d3, (World.cell?_of_block (a := ⟨b, 4, none⟩) hk).trans d4⟩

theorem Blk.other {W W' : World} {q : Nat} {x : List UInt8} (h : Blk W q [] x []) (hk : W'.heap[q]? = W.heap[q]?) : Blk W' q [] x [] := h.kept hk

set_option maxRecDepth 100000 in
set_option maxHeartbeats 4000000 in
/-- SPLIT. -/
theorem split_yes (N B : Nat) (Q E F : Int) (ov : Value) (l : List UInt8) (w : World) (h : May (N : Int) (B : Int) Q E F) (ho : Bs w ov l) (hl : l.length ≤ N * B) :
    Calls Try.prog 19 #[.agg #[.int .i64 (N : Int), .int .i64 (B : Int), .int .i64 Q, .int .i64 E, .int .i64 F], ov] w fun e w' => ∃ q qs, e = .returned (.tuple #[.slice (some ⟨q, 0, none⟩) N N, .int .i64 0]) ∧ Cut w.heap.size w' q B qs (splitD N B l) [] ∧ Below w.heap.size w w' := by
  obtain ⟨i0, hi0, hz0, hz1, hz2⟩ := info_parts Try.infoByte
  obtain ⟨j0, hj0, hy0, hy1, hy2⟩ := info_parts Try.infoBs
  have CC : Hid (∀ W, Calls Try.prog 34 #[.agg #[.int .i64 (N : Int), .int .i64 (B : Int), .int .i64 Q, .int .i64 E, .int .i64 F]] W fun e w' => e = .returned (.int .i64 0) ∧ Below W.heap.size W w') := by
    intro W
    have := pcheck_any N B Q E F W
    rw [mayE_yes h] at this
    exact this
  obtain ⟨P, hP⟩ : ∃ P, N * B = P := ⟨_, rfl⟩
  have CM : Hid (∀ W, Calls Try.prog 35 #[.agg #[.int .i64 (N : Int), .int .i64 (B : Int), .int .i64 Q, .int .i64 E, .int .i64 F]] W fun e w' => e = .returned (.int .i64 (P : Int)) ∧ Below W.heap.size W w') := by
    intro W
    have := most_any N B Q E F W h.1 h.2.1
    rw [show (N : Int) * (B : Int) = ((N * B : Nat) : Int) by simp, hP] at this
    exact this
  have HO : Hid (Bs w ov l) := ho
  obtain ⟨-, ao, cap, rfl, h2, h3, -, -⟩ := ho
  unfold maxLen at h3
  have hN : N ≤ 1048576 := by have := h.1; omega
  have hB1 : 1 ≤ B := by have := h.2.1; omega
  have hB2 : B ≤ 65535 := by have := h.2.1; omega
  obtain ⟨n, hn⟩ : ∃ n, l.length = n := ⟨_, rfl⟩
  rw [hn] at h2 HO ⊢
  have hgt : ¬ (n : Int) > (P : Int) := by omega
  clear h hl hP hn
  go_enter Try.func19, Try.ntmps19
  go_wp2_with fail
  refine (CC.out _).mono ?_
  rintro e w1 ⟨rfl, hb⟩
  have B1 : Hid (Below w.heap.size w w1) := on_below (below_alloc _ _) hb
  have P1 : Hid (Five w1 w.heap.size N B Q E F) := (five_new w _ _ _ _ _ _).below hb
  clear hb CC
  obtain ⟨c0, c1, c2, c3, c4⟩ := P1.out
  go_wp2_with fail
  refine (CM.out _).mono ?_
  rintro e w2 ⟨rfl, hb⟩
  have B2 : Hid (Below w.heap.size w w2) := on_below B1.out hb
  have P2 : Hid (Five w2 w.heap.size N B Q E F) := P1.out.below hb
  clear hb CM c0 c1 c2 c3 c4 P1 B1
  have c0 := P2.out.1
  go_upto_region 7 with (at_make; refine wpList_make_full _ rfl _ _ 41 rfl w2.heap.size 40 j0 (.slice none 0 0) 1 Try.underlying41 hj0 hy0 hy1 _ _ _ _ N rfl rfl rfl rfl (by rw [hy2]; omega) (by unfold maxLen; omega) (Nat.le_refl _) ?_; intro w3 ho3 hg3)
  have X3 : Hid (Below w2.heap.size w2 w3) := below_new hg3
  obtain ⟨q, hq⟩ : ∃ q, w2.heap.size = q := ⟨_, rfl⟩
  have R3 : Hid (w3.heap[q]? = some (.cells (nilB N).toArray 40 (0, 0))) := by unfold Hid; rw [← hq]; exact made_nilB ho3
  have Q3 : Hid (w.heap.size ≤ q) := by unfold Hid; rw [← hq]; exact B2.out.size
  have B3 : Hid (Below w.heap.size w w3) := on_below B2.out X3.out
  have P3 : Hid (Five w3 w.heap.size N B Q E F) := P2.out.below X3.out
  rw [hq]
  clear ho3 hg3 c0 hq X3 P2 B2
  go_wp2
  go_loopw [1, 24] (fun ovv iv wr => ∃ (i m c : Nat) (a : Option Addr) (qs : List Nat), i ≤ N ∧ iv = .int .i64 i ∧ ovv = .slice a m c ∧ m ≤ c ∧ c ≤ 9223372036854775807 ∧ Hid (Bs w (.slice a m c) (l.drop (i * B))) ∧ Hid (Cut w.heap.size wr q B qs (splitD i B l) (nilB (N - i))) ∧ Hid (Below w.heap.size w wr) ∧ Hid (Five wr w.heap.size N B Q E F) ∧ Hid (qs.length = i)) (fun _ iv _ => N - (intOf iv).toNat)
  case atStart => exact ⟨0, n, cap, ao, [], by omega, rfl, rfl, h2, h3, by unfold Hid; simpa using HO.out, by unfold Hid; exact Cut.start (by simpa using R3.out) Q3.out, B3, P3, rfl⟩
  case round =>
    obtain ⟨i, m, c, a, qs, hi, rfl, rfl, hmc, hc, O, C, BB, PP, QL⟩ := hrel
    clear R3 B3 P3 HO
    by_cases hlt : i < N
    · have c1 := PP.out.2.1
      obtain ⟨p, hp⟩ : ∃ p, wr.heap.size = p := ⟨_, rfl⟩
      have hni : nilB (N - i) = (Value.slice none 0 0) :: nilB (N - (i + 1)) := by
        unfold nilB
        rw [show N - i = (N - (i + 1)) + 1 by omega, List.replicate_succ]
      have C' : Hid (Cut w.heap.size wr q B qs (splitD i B l) ((Value.slice none 0 0) :: nilB (N - (i + 1)))) := by unfold Hid; rw [← hni]; exact C.out
      have KC : Hid (wr.cell? ⟨q, i, none⟩ = some (.slice none 0 0)) := C'.out.cell (by rw [List.getElem?_append_right (by simp [QL.out])]; simp [QL.out])
      clear hni C
      go_upto_region 11 with (at_make; refine wpList_make_full _ rfl _ _ 40 rfl wr.heap.size 5 i0 (.int .u8 0) 1 Try.underlying40 hi0 hz0 hz1 _ _ _ _ B rfl rfl rfl rfl (by rw [hz2]; omega) (by unfold maxLen; omega) (Nat.le_refl _) ?_; intro w4 ho4 hg4; have X4 : Hid (Below wr.heap.size wr w4) := below_new hg4; have kc : w4.cell? ⟨q, i, none⟩ = some (.slice none 0 0) := (X4.out.cell (cell_block_lt KC.out)).trans KC.out; have kf : w4.frozen? ⟨q, i, none⟩ = false := (C'.out.below X4.out).fr i)
      have K4 : Hid (Blk w4 wr.heap.size [] (zeros B) []) := made_blk ho4
      rw [hp] at K4
      have SP : Hid (w.heap.size ≤ p) := by unfold Hid; rw [← hp]; exact BB.out.size
      have Qp : Hid (q < p ∧ ∀ r ∈ qs, r < p) := by
        unfold Hid
        rw [← hp]
        refine ⟨C'.out.lt, fun r hr => ?_⟩
        obtain ⟨j, hj⟩ := List.mem_iff_getElem?.1 hr
        obtain ⟨x, _, hx, _⟩ := C'.out.get hj
        exact hx.lt
      have C4 : Hid (Cut w.heap.size w4 q B qs (splitD i B l) ((Value.slice none 0 0) :: nilB (N - (i + 1)))) := C'.out.below X4.out
      have B4 : Hid (Below w.heap.size w w4) := on_below BB.out X4.out
      have P4 : Hid (Five w4 w.heap.size N B Q E F) := PP.out.below X4.out
      obtain ⟨w5, hw5⟩ : ∃ w5, w4.setCell ⟨q, i, none⟩ (.slice (some ⟨p, 0, none⟩) B B) = w5 := ⟨_, rfl⟩
      have S5 : Hid (∀ k, k ≠ q → w5.heap[k]? = w4.heap[k]?) := fun k hk => by rw [← hw5]; exact Below.heap_setCell w4 ⟨q, i, none⟩ _ k hk
      have C5 : Hid (Cut w.heap.size w5 q B (qs ++ [p]) (splitD i B l ++ [zeros B]) (nilB (N - (i + 1)))) := by
        unfold Hid
        rw [← hw5]
        exact C4.out.store K4.out (by simp [zeros]) SP.out i QL.out.symm
      have K5 : Hid (Blk w5 p [] (zeros B) []) := K4.out.kept (S5.out p (C4.out.ne K4.out))
      have B5 : Hid (Below w.heap.size w w5) := by
        unfold Hid
        rw [← hw5]
        exact B4.out.trans ((KeepsBut.setCell (S := fun x => x = q) w4 q i _ rfl).below B4.out.size (fun k e => by rw [e]; exact Q3.out))
      have HQB : Hid (w.heap.size ≠ q) := by
        unfold Hid
        intro e
        have h1 := P4.out.1
        have h2 := C4.out.row
        rw [← e] at h2
        simp only [World.cell?, h2] at h1
        simp only [Option.isSome_none, Bool.false_eq_true, if_false, List.getElem?_toArray] at h1
        cases qs with
        | nil => simp at h1
        | cons x r => simp [slv] at h1
      have P5 : Hid (Five w5 w.heap.size N B Q E F) := by
        exact P4.out.kept (S5.out w.heap.size HQB.out)
      have PQ : Hid (w.heap.size < p) := by
        have := cell_block_lt PP.out.1
        have h1 : w.heap.size < wr.heap.size := this
        unfold Hid
        omega
      have O5 : Hid (Bs w5 (.slice a m c) (l.drop (i * B))) := O.out.below B5.out
      have k5 : w5.cell? ⟨q, i, none⟩ = some (.slice (some ⟨p, 0, none⟩) B B) := C5.out.cell (by rw [List.getElem?_append_left (by simp [QL.out])]; simp [QL.out, slv])
      have ML : Hid ((l.drop (i * B)).length = m) := by
        obtain ⟨_, _, _, hv, _⟩ := O5.out
        injection hv with _ e _
        exact e.symm
      rw [hw5]
      clear hw5 ho4 hg4 kc kf K4 X4 C' KC c1 C4 B4 P4 PP BB S5
      obtain ⟨T, hT⟩ : ∃ T, min m B = T := ⟨_, rfl⟩
      have hTm : T ≤ m := by omega
      obtain ⟨a', s0, O6⟩ : ∃ a', (∀ W, (Instr.slice 40 (.slice a m c) (some (.int .i64 T)) none none).run Try.prog W = .ok (.slice a' (m - T) (c - T)) W) ∧ Hid (Bs w (.slice a' (m - T) (c - T)) (l.drop ((i + 1) * B))) := by
        refine ⟨_, fun W => slice_from W a m c T hTm, ?_⟩
        have := O.out.drop T hTm
        rw [← hT, drop_copy l i B m ML.out] at this
        unfold Hid
        rw [← hT]
        exact this
      have HT : Hid (min m B = T) := hT
      clear hT
      go_wp2_with (refine wpList_copyM _ rfl (.tmp 37) (.tmp 38) rfl (some ⟨p, 0, none⟩) B B p 0 (zeros B) (l.drop (i * B)) _ rfl rfl K5.out O5.out (fun _ => rfl) (by simp [zeros]) T (by rw [ML.out, HT.out]) ?_; intro w6 hk6 hb6 hs6)
      have BK6 : Hid (Blk w6 p [] (blkAt B l i) []) := by
        have e := blkAt_copy B l i
        rw [ML.out, HT.out] at e
        simp only [List.take_zero, List.nil_append, Nat.zero_add] at hk6
        rw [e] at hk6
        exact hk6
      have C6 : Hid (Cut w.heap.size w6 q B (qs ++ [p]) (splitD (i + 1) B l) (nilB (N - (i + 1)))) := by
        unfold Hid
        rw [splitD_next]
        exact C5.out.write BK6.out (blkAt_length _ _ _) (fun k hk => hb6.block k hk) Qp.out.1 Qp.out.2
      have B6 : Hid (Below w.heap.size w w6) := B5.out.trans (hb6.mono SP.out)
      have P6 : Hid (Five w6 w.heap.size N B Q E F) := P5.out.kept (hb6.block _ PQ.out)
      have QL6 : Hid ((qs ++ [p]).length = i + 1) := by unfold Hid; rw [List.length_append, QL.out]; rfl
      clear hk6 hb6 hs6 C5 K5 B5 P5 O5 k5 BK6 QL HQB PQ O
      go_wp2
      go_roundw
      case rel => exact ⟨i + 1, m - T, c - T, a', qs ++ [p], by omega, by go_num, rfl, by omega, by omega, O6, C6, B6, P6, QL6⟩
      case measure => simp [intOf]; omega
    · obtain rfl : i = N := by omega
      have R : Hid (Cut w.heap.size wr q B qs (splitD i B l) [] ∧ Below w.heap.size w wr) := ⟨by have := C.out; rw [Nat.sub_self] at this; exact this, BB.out⟩
      clear C BB PP O
      go_wp2
      go_ret2
      exact ⟨q, qs, rfl, R.out⟩

end Go.Proofs.Ytbnedpjfgadkkaa
