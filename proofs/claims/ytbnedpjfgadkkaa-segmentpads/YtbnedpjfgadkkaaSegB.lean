/-
  segment: allOf, Join.
-/
import Derived.Test.YtbnedpjfgadkkaaSegA
namespace Go.Proofs.Ytbnedpjfgadkkaa
open Go.RowKit
set_option linter.unusedVariables false

set_option maxHeartbeats 400000 in
/-- allOf: it only reads. -/
theorem allOf_any (n : Int) (pv : Value) (vs : List Value) (ls : List (List UInt8)) (w : World) (hp : Sl 1 w pv vs.length vs) (hps : Parts w vs ls) :
    Calls Try.prog 36 #[.int .i64 n, pv] w fun e w' => e = .returned (.bool (ls.all fun l => decide ((l.length : Int) = n))) ∧ w' = w := by
  obtain ⟨_, ao, cap, rfl, h2, h3, _, h5⟩ := hp
  unfold maxLen at h3
  obtain ⟨hlen, hpart⟩ := hps
  obtain ⟨m, hm⟩ : ∃ m, vs.length = m := ⟨_, rfl⟩
  rw [hm] at h2 h5 ⊢
  have Hm : Hid (vs.length = m) := hm
  have Hl : Hid (ls.length = m) := by unfold Hid; omega
  clear hm hlen
  go_enter Try.func36, Try.ntmps36
  go_wp2
  go_loop [9] (fun i => ∃ k : Nat, k ≤ m ∧ i = .int .i64 k ∧ Hid ((ls.all fun l => decide ((l.length : Int) = n)) = (ls.drop k).all fun l => decide ((l.length : Int) = n))) (fun i => m - (intOf i).toNat)
  case atStart => exact ⟨0, by omega, rfl, rfl⟩
  case round =>
    obtain ⟨k, hk, rfl, HE⟩ := hrel
    by_cases hlt : k < m
    · have hkv : k < vs.length := by rw [Hm.out]; exact hlt
      have hkl : k < ls.length := by rw [Hl.out]; exact hlt
      rcases h5 with h0 | ⟨b, off, rfl, hc⟩
      · omega
      have hck := hc k vs[k] (List.getElem?_eq_getElem hkv)
      have hb := hpart k vs[k] ls[k] (List.getElem?_eq_getElem hkv) (List.getElem?_eq_getElem hkl)
      obtain ⟨_, ao', c', hv, g2, g3, _, _⟩ := hb
      rw [hv] at hck
      unfold maxLen at g3
      have HD : Hid (((ls.drop k).all fun l => decide ((l.length : Int) = n)) = (decide ((ls[k].length : Int) = n) && (ls.drop (k + 1)).all fun l => decide ((l.length : Int) = n))) := by
        unfold Hid
        rw [List.drop_eq_getElem_cons hkl, List.all_cons]
      clear hv hc hpart
      generalize ls[k].length = q at *
      by_cases hq : (q : Int) = n
      · have hd : decide ((q : Int) = n) = true := by simp [hq]
        rw [hd] at HD
        clear hd
        have hq' : ((q : Int) != n) = false := by simpa using hq
        go_wp2
        go_round
        case rel => exact ⟨k + 1, by omega, by go_num, by unfold Hid; rw [HE.out, HD.out, Bool.true_and]⟩
        case measure => simp [intOf]; omega
      · have hd : decide ((q : Int) = n) = false := by simp [hq]
        rw [hd] at HD
        clear hd
        have hq' : ((q : Int) != n) = true := by simpa using hq
        go_wp2
        go_ret
        exact ⟨ret_bool (by rw [HE.out, HD.out, Bool.false_and]), rfl⟩
    · go_wp2
      go_ret
      exact ⟨ret_bool (by rw [HE.out, List.drop_eq_nil_of_le (by rw [Hl.out]; omega)]; rfl), rfl⟩

/-- The first n bytes of some, and noughts behind them. -/
def padTo (n : Nat) (x : List UInt8) : List UInt8 := x.take n ++ zeros (n - x.length)
theorem padTo_length (n : Nat) (x : List UInt8) : (padTo n x).length = n := by
  unfold padTo
  simp [zeros]
  omega
theorem padTo_all {n : Nat} {x : List UInt8} (h : n ≤ x.length) : padTo n x = x.take n := by
  unfold padTo
  rw [show n - x.length = 0 by omega]
  simp [zeros]
theorem zeros_drop (n m : Nat) : (zeros n).drop m = zeros (n - m) := by simp [zeros]

theorem pad_copy (n : Nat) (x b : List UInt8) (off m : Nat) (ho : off = min n x.length) (hm : m = min b.length (n - off)) : (padTo n x).take off ++ b.take (n - off) ++ (padTo n x).drop (off + m) = padTo n (x ++ b) := by
  have h1 : (x.take n).length = off := by rw [List.length_take, ho]
  have e1 : (padTo n x).take off = x.take n := by
    unfold padTo
    rw [List.take_append_of_le_length (by omega), List.take_of_length_le (by omega)]
  have e2 : (padTo n x).drop (off + m) = zeros (n - x.length - m) := by
    unfold padTo
    rw [← h1, ← List.drop_drop, List.drop_left, zeros_drop]
  rw [e1, e2]
  unfold padTo
  rw [List.take_append, List.length_append, show n - off = n - x.length by omega, show n - x.length - m = n - (x.length + b.length) by omega]

theorem flat_len {B : Nat} {ls : List (List UInt8)} (hB : ∀ x ∈ ls, x.length = B) : ls.flatten.length = ls.length * B := by
  induction ls with
  | nil => simp
  | cons x r ih =>
    rw [List.flatten_cons, List.length_append, hB x (by simp), ih (fun y hy => hB y (by simp [hy])), List.length_cons, Nat.succ_mul]
    omega

theorem flat_next (ls : List (List UInt8)) (i : Nat) (h : i < ls.length) : (ls.take (i + 1)).flatten = (ls.take i).flatten ++ ls[i] := by
  rw [List.take_succ_eq_append_getElem h, List.flatten_append]
  simp

/-- What is asked of the blocks. -/
def fitJ (N B : Nat) (n : Int) (ls : List (List UInt8)) : Prop := ls.length = N ∧ 0 ≤ n ∧ n ≤ ((N * B : Nat) : Int) ∧ (ls.all fun l => decide ((l.length : Int) = (B : Int))) = true

theorem fitJ.mem {N B : Nat} {n : Int} {ls : List (List UInt8)} (h : fitJ N B n ls) : ∀ x ∈ ls, x.length = B := by
  intro x hx
  have := List.all_eq_true.1 h.2.2.2 x hx
  simp at this
  omega

set_option maxRecDepth 100000 in
set_option maxHeartbeats 1000000 in
theorem join_no (N B Q E F n : Int) (pv : Value) (w : World) (h : ¬ May N B Q E F) :
    Calls Try.prog 22 #[.agg #[.int .i64 N, .int .i64 B, .int .i64 Q, .int .i64 E, .int .i64 F], .int .i64 n, pv] w fun e w' => e = .returned (.tuple #[.slice none 0 0, .int .i64 1]) ∧ Below w.heap.size w w' := by
  have CC : Hid (∀ W, Calls Try.prog 34 #[.agg #[.int .i64 N, .int .i64 B, .int .i64 Q, .int .i64 E, .int .i64 F]] W fun e w' => e = .returned (.int .i64 1) ∧ Below W.heap.size W w') := by
    intro W
    have := pcheck_any N B Q E F W
    rw [mayE_no h] at this
    exact this
  clear h
  go_enter Try.func22, Try.ntmps22
  go_wp2_with fail
  refine (CC.out _).mono ?_
  rintro e w1 ⟨rfl, hb⟩
  have HB : Hid (Below w.heap.size w w1) := on_below (below_alloc _ _) hb
  clear hb CC
  go_wp2
  go_ret2
  exact ⟨rfl, HB.out⟩

set_option maxRecDepth 100000 in
set_option maxHeartbeats 2000000 in
theorem join_bad (N B : Nat) (Q E F n : Int) (pv : Value) (vs : List Value) (ls : List (List UInt8)) (w : World) (h : May (N : Int) (B : Int) Q E F) (hp : Sl 1 w pv vs.length vs) (hps : Parts w vs ls) (hf : ¬ fitJ N B n ls) :
    Calls Try.prog 22 #[.agg #[.int .i64 (N : Int), .int .i64 (B : Int), .int .i64 Q, .int .i64 E, .int .i64 F], .int .i64 n, pv] w fun e w' => e = .returned (.tuple #[.slice none 0 0, .int .i64 2]) ∧ Below w.heap.size w w' := by
  have CC : Hid (∀ W, Calls Try.prog 34 #[.agg #[.int .i64 (N : Int), .int .i64 (B : Int), .int .i64 Q, .int .i64 E, .int .i64 F]] W fun e w' => e = .returned (.int .i64 0) ∧ Below W.heap.size W w') := by
    intro W
    have := pcheck_any N B Q E F W
    rw [mayE_yes h] at this
    exact this
  obtain ⟨P, hP⟩ : ∃ P, N * B = P := ⟨_, rfl⟩
  have CM : Hid (∀ W, Calls Try.prog 35 #[.agg #[.int .i64 (N : Int), .int .i64 (B : Int), .int .i64 Q, .int .i64 E, .int .i64 F]] W fun e w' => e = .returned (.int .i64 (P : Int)) ∧ Below W.heap.size W w') := by
    intro W
    have := most_any N B Q E F W h.1 h.2.1
    rw [show (N : Int) * (B : Int) = ((N * B : Nat) : Int) by simp, hP] at this
    exact this
  have CO : Hid (∀ W, Below w.heap.size w W → Calls Try.prog 36 #[.int .i64 (B : Int), pv] W fun e w' => e = .returned (.bool (ls.all fun l => decide ((l.length : Int) = (B : Int)))) ∧ w' = W) := fun W hW => allOf_any B pv vs ls W (hp.below hW) (hps.below hW)
  have hvl : vs.length = ls.length := hps.1
  obtain ⟨m, hm⟩ : ∃ m, ls.length = m := ⟨_, rfl⟩
  have hf' : ¬ (m = N ∧ 0 ≤ n ∧ n ≤ (P : Int) ∧ (ls.all fun l => decide ((l.length : Int) = (B : Int))) = true) := by
    rw [← hm, ← hP]
    exact hf
  rw [hvl, hm] at hp
  obtain ⟨-, ao, cap, rfl, h2, h3, -, -⟩ := hp
  unfold maxLen at h3
  clear h hps hf hP hm hvl
  generalize (ls.all fun l => decide ((l.length : Int) = (B : Int))) = al at *
  go_enter Try.func22, Try.ntmps22
  go_wp2_with fail
  refine (CC.out _).mono ?_
  rintro e w1 ⟨rfl, hb⟩
  have B1 : Hid (Below w.heap.size w w1) := on_below (below_alloc _ _) hb
  have P1 : Hid (Five w1 w.heap.size N B Q E F) := (five_new w _ _ _ _ _ _).below hb
  clear hb CC
  obtain ⟨c0, c1, c2, c3, c4⟩ := P1.out
  by_cases g1 : m = N
  · subst g1
    have k1 : ((m : Int) != (m : Int)) = false := by simp
    by_cases g2 : 0 ≤ n
    · have k2 : ¬ n < 0 := by omega
      by_cases g3 : n ≤ (P : Int)
      · have k3 : ¬ n > (P : Int) := by omega
        have hal : al = false := by
          cases al with
          | false => rfl
          | true => exact absurd ⟨rfl, g2, g3, rfl⟩ hf'
        subst hal
        clear hf' g2 g3
        go_wp2_with fail
        refine (CM.out _).mono ?_
        rintro e w2 ⟨rfl, hb⟩
        have B2 : Hid (Below w.heap.size w w2) := on_below B1.out hb
        have P2 : Hid (Five w2 w.heap.size m B Q E F) := P1.out.below hb
        clear hb CM c0 c1 c2 c3 c4 P1 B1
        have c1 := P2.out.2.1
        go_wp2_with fail
        refine (CO.out _ B2.out).mono ?_
        rintro e w3 ⟨rfl, rfl⟩
        clear CO c1
        go_wp2
        go_ret2
        exact ⟨rfl, B2.out⟩
      · have k3 : n > (P : Int) := by omega
        clear hf' g2 g3 CO
        go_wp2_with fail
        refine (CM.out _).mono ?_
        rintro e w2 ⟨rfl, hb⟩
        have B2 : Hid (Below w.heap.size w w2) := on_below B1.out hb
        clear hb CM c0 c1 c2 c3 c4 P1 B1
        go_wp2
        go_ret2
        exact ⟨rfl, B2.out⟩
    · have k2 : n < 0 := by omega
      clear hf' g2 CO CM
      go_wp2
      go_ret2
      exact ⟨rfl, B1.out⟩
  · have k1 : ((m : Int) != (N : Int)) = true := by simp; omega
    clear hf' CO CM
    go_wp2
    go_ret2
    exact ⟨rfl, B1.out⟩

set_option maxRecDepth 100000 in
set_option maxHeartbeats 4000000 in
/-- JOIN. -/
theorem join_yes (N B : Nat) (Q E F : Int) (n : Nat) (pv : Value) (vs : List Value) (ls : List (List UInt8)) (w : World) (h : May (N : Int) (B : Int) Q E F) (hp : Sl 1 w pv vs.length vs) (hps : Parts w vs ls) (hf : fitJ N B (n : Int) ls) :
    Calls Try.prog 22 #[.agg #[.int .i64 (N : Int), .int .i64 (B : Int), .int .i64 Q, .int .i64 E, .int .i64 F], .int .i64 (n : Int), pv] w fun e w' => ∃ q, e = .returned (.tuple #[.slice (some ⟨q, 0, none⟩) n n, .int .i64 0]) ∧ w.heap.size ≤ q ∧ Blk w' q [] (joinD n ls) [] ∧ Below w.heap.size w w' := by
  obtain ⟨i0, hi0, hz0, hz1, hz2⟩ := info_parts Try.infoByte
  have CC : Hid (∀ W, Calls Try.prog 34 #[.agg #[.int .i64 (N : Int), .int .i64 (B : Int), .int .i64 Q, .int .i64 E, .int .i64 F]] W fun e w' => e = .returned (.int .i64 0) ∧ Below W.heap.size W w') := by
    intro W
    have := pcheck_any N B Q E F W
    rw [mayE_yes h] at this
    exact this
  have hfm := hf.mem
  obtain ⟨hf1, -, hf3, hf4⟩ := hf
  have hPm : N * B ≤ 68718428160 := by
    have h1 : N ≤ 1048576 := by have := h.1; omega
    have h2 : B ≤ 65535 := by have := h.2.1; omega
    exact Nat.mul_le_mul h1 h2
  have HF : Hid (ls.flatten.length = N * B) := by unfold Hid; rw [flat_len hfm, hf1]
  have HB : Hid (∀ x ∈ ls, x.length = B) := hfm
  obtain ⟨P, hP⟩ : ∃ P, N * B = P := ⟨_, rfl⟩
  rw [hP] at hf3 hPm HF
  have CM : Hid (∀ W, Calls Try.prog 35 #[.agg #[.int .i64 (N : Int), .int .i64 (B : Int), .int .i64 Q, .int .i64 E, .int .i64 F]] W fun e w' => e = .returned (.int .i64 (P : Int)) ∧ Below W.heap.size W w') := by
    intro W
    have := most_any N B Q E F W h.1 h.2.1
    rw [show (N : Int) * (B : Int) = ((N * B : Nat) : Int) by simp, hP] at this
    exact this
  have CO : Hid (∀ W, Below w.heap.size w W → Calls Try.prog 36 #[.int .i64 (B : Int), pv] W fun e w' => e = .returned (.bool true) ∧ w' = W) := by
    intro W hW
    have := allOf_any B pv vs ls W (hp.below hW) (hps.below hW)
    rw [hf4] at this
    exact this
  have hN : N ≤ 1048576 := by have := h.1; omega
  have hvl : vs.length = N := by rw [hps.1]; exact hf1
  have HP : Hid (Parts w vs ls) := hps
  have HV : Hid (vs.length = N) := hvl
  have HL : Hid (ls.length = N) := hf1
  rw [hvl] at hp
  have HS : Hid (Sl 1 w pv N vs) := hp
  obtain ⟨-, ao, cap, rfl, h2, h3, -, -⟩ := hp
  unfold maxLen at h3
  have k1 : ((N : Int) != (N : Int)) = false := by simp
  have k2 : ¬ (n : Int) < 0 := by omega
  have k3 : ¬ (n : Int) > (P : Int) := by omega
  have hn : n ≤ P := by omega
  clear h hps hf1 hf3 hf4 hP hvl hfm
  go_enter Try.func22, Try.ntmps22
  go_wp2_with fail
  refine (CC.out _).mono ?_
  rintro e w1 ⟨rfl, hb⟩
  have B1 : Hid (Below w.heap.size w w1) := on_below (below_alloc _ _) hb
  have P1 : Hid (Five w1 w.heap.size N B Q E F) := (five_new w _ _ _ _ _ _).below hb
  clear hb CC
  obtain ⟨c0, c1, c2, c3, c4⟩ := P1.out
  go_wp2_with fail
  refine (CM.out _).mono ?_
  rintro e w2 ⟨rfl, hb⟩
  have B2 : Hid (Below w.heap.size w w2) := on_below B1.out hb
  have P2 : Hid (Five w2 w.heap.size N B Q E F) := P1.out.below hb
  clear hb CM c0 c1 c2 c3 c4 P1 B1
  have c1 := P2.out.2.1
  go_wp2_with fail
  refine (CO.out _ B2.out).mono ?_
  rintro e w3 ⟨rfl, rfl⟩
  clear CO c1 P2
  go_upto_region 7 with (at_make; refine wpList_make_full _ rfl _ _ 40 rfl w3.heap.size 5 i0 (.int .u8 0) 1 Try.underlying40 hi0 hz0 hz1 _ _ _ _ n rfl rfl rfl rfl (by rw [hz2]; omega) (by unfold maxLen; omega) (Nat.le_refl _) ?_; intro w4 ho4 hg4)
  have X4 : Hid (Below w3.heap.size w3 w4) := below_new hg4
  obtain ⟨q, hq⟩ : ∃ q, w3.heap.size = q := ⟨_, rfl⟩
  have R4 : Hid (Blk w4 q [] (zeros n) []) := by unfold Hid; rw [← hq]; exact made_blk ho4
  have Q4 : Hid (w.heap.size ≤ q) := by unfold Hid; rw [← hq]; exact B2.out.size
  have B4 : Hid (Below w.heap.size w w4) := on_below B2.out X4.out
  rw [hq]
  clear ho4 hg4 hq X4 B2
  go_wp2
  go_loopw [10, 45] (fun rv iv wr => ∃ (i off m : Nat) (a : Option Addr), i ≤ N ∧ iv = .int .i64 i ∧ rv = .slice a m m ∧ off + m = n ∧ Hid (off = min n (ls.take i).flatten.length) ∧ Hid (0 < m → a = some ⟨q, off, none⟩) ∧ Hid (Blk wr q [] (padTo n (ls.take i).flatten) []) ∧ Hid (Below w.heap.size w wr)) (fun _ iv _ => N - (intOf iv).toNat)
  case atStart => exact ⟨0, 0, n, some ⟨q, 0, none⟩, by omega, rfl, rfl, by omega, by unfold Hid; simp, fun _ => rfl, by unfold Hid; simpa [padTo] using R4.out, B4⟩
  case round =>
    obtain ⟨i, off, m, a, hi, rfl, rfl, hom, HO, HA, K, BB⟩ := hrel
    clear R4 B4
    by_cases hlt : i < N
    · have hiv : i < vs.length := by rw [HV.out]; exact hlt
      have hil : i < ls.length := by rw [HL.out]; exact hlt
      obtain ⟨-, ao', cap', hv0, -, -, -, h5⟩ := HS.out
      injection hv0 with e1 e2 e3
      subst e1
      obtain ⟨b0, o0, rfl, hc0⟩ : ∃ b off, ao = some ⟨b, off, none⟩ ∧ ∀ j u, vs[j]? = some u → w.cell? ⟨b, off + j, none⟩ = some u := by
        rcases h5 with h0 | h0
        · omega
        · exact h0
      have ck0 := hc0 i vs[i] (List.getElem?_eq_getElem hiv)
      have ck := (BB.out.cell (cell_block_lt ck0)).trans ck0
      have HBi : Hid (Bs w vs[i] ls[i]) := HP.out.2 i _ _ (List.getElem?_eq_getElem hiv) (List.getElem?_eq_getElem hil)
      obtain ⟨-, ai, ci, hvi, -, -, -, -⟩ := HBi.out
      rw [hvi] at ck HBi
      have HLi : Hid (ls[i].length = B) := HB.out _ (List.getElem_mem hil)
      have HNx : Hid ((ls.take (i + 1)).flatten = (ls.take i).flatten ++ ls[i]) := flat_next ls i hil
      rw [HLi.out] at ck HBi
      clear hc0 ck0 hvi e2 e3
      generalize ls[i] = b at *
      obtain ⟨x, hx⟩ : ∃ x, (ls.take i).flatten = x := ⟨_, rfl⟩
      rw [hx] at HO K HNx
      clear hx
      obtain ⟨T, hT⟩ : ∃ T, min B m = T := ⟨_, rfl⟩
      have hTm : T ≤ m := by omega
      obtain ⟨a', s0, A6⟩ : ∃ a', (∀ W, (Instr.slice 40 (.slice a m m) (some (.int .i64 T)) none none).run Try.prog W = .ok (.slice a' (m - T) (m - T)) W) ∧ Hid (0 < m - T → a' = some ⟨q, off + T, none⟩) := by
        refine ⟨_, fun W => slice_from W a m m T hTm, fun hpos => ?_⟩
        rw [if_neg (by omega), HA.out (by omega)]
        simp [Addr.add]
      have HT : Hid (min B m = T) := hT
      have Hom : Hid (off + m = n) := hom
      clear hT hom
      go_wp2_with (refine wpList_copyM _ rfl (.tmp 50) (.tmp 51) rfl a m m q off (padTo n x) b _ rfl rfl K.out (HBi.out.below BB.out) HA.out (by rw [padTo_length, Hom.out]; exact Nat.le_refl _) T (by rw [HLi.out, HT.out]) ?_; intro w6 hk6 hb6 hs6)
      have K6 : Hid (Blk w6 q [] (padTo n (ls.take (i + 1)).flatten) []) := by
        have e := pad_copy n x b off T HO.out (by rw [HLi.out, ← HT.out, ← Hom.out]; omega)
        rw [show n - off = m by have := Hom.out; omega] at e
        rw [e, ← HNx.out] at hk6
        exact hk6
      have O6 : Hid (off + T = min n (ls.take (i + 1)).flatten.length) := by
        unfold Hid
        rw [HNx.out, List.length_append, HLi.out]
        have h1 := HO.out
        have h2 := HT.out
        have h3 := Hom.out
        omega
      have B6 : Hid (Below w.heap.size w w6) := BB.out.trans (hb6.mono Q4.out)
      have N6 : Hid (off + T + (m - T) = n) := by have := Hom.out; unfold Hid; omega
      clear hk6 hb6 hs6 K HO HA HNx HLi HBi HT Hom ck BB
      go_wp2
      go_roundw
      case rel => exact ⟨i + 1, off + T, m - T, a', by omega, by go_num, rfl, N6.out, O6, A6, K6, B6⟩
      case measure => simp [intOf]; omega
    · obtain rfl : i = N := by omega
      have R : Hid (w.heap.size ≤ q ∧ Blk wr q [] (joinD n ls) [] ∧ Below w.heap.size w wr) := by
        have e : ls.take i = ls := List.take_of_length_le (by rw [HL.out]; omega)
        have := K.out
        rw [e, padTo_all (by rw [HF.out]; exact hn)] at this
        exact ⟨Q4.out, this, BB.out⟩
      clear K BB HO HA
      go_wp2
      go_ret2
      exact ⟨q, rfl, R.out⟩

end Go.Proofs.Ytbnedpjfgadkkaa
