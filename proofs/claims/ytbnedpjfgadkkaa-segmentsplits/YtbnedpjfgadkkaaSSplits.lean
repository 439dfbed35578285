/-
  SegmentSplits.
-/
import Derived.Test.YtbnedpjfgadkkaaSBack
namespace Go.Proofs.Ytbnedpjfgadkkaa
open Go.RowKit
set_option linter.unusedVariables false

/-- A row of blocks of n bytes each, whatever they are, from block B0 on. -/
structure CutA (B0 : Nat) (W : World) (q n N : Nat) (qs : List Nat) : Prop where
  row : W.heap[q]? = some (.cells (qs.map (slv n)).toArray 40 (0, 0))
  qb : B0 ≤ q
  len : qs.length = N
  at_ : ∀ (j p : Nat), qs[j]? = some p → ∃ x, Blk W p [] x [] ∧ x.length = n ∧ B0 ≤ p

theorem Cut.any {B0 : Nat} {W : World} {q n : Nat} {qs : List Nat} {ls : List (List UInt8)} (h : Cut B0 W q n qs ls []) (N : Nat) (hN : ls.length = N) : CutA B0 W q n N qs := by
  refine ⟨by simpa using h.row, h.qb, by rw [h.len, hN], fun j p hp => ?_⟩
  obtain ⟨x, _, h1, h2, h3⟩ := h.get hp
  exact ⟨x, h1, h3, h2⟩

theorem CutA.cell {B0 : Nat} {W : World} {q n N : Nat} {qs : List Nat} (h : CutA B0 W q n N qs) {j p : Nat} (hp : qs[j]? = some p) : W.cell? ⟨q, j, none⟩ = some (.slice (some ⟨p, 0, none⟩) n n) := by
  simp only [World.cell?, h.row]
  simp [hp, slv]

/-- One byte of one of them is written. -/
theorem CutA.set {B0 : Nat} {W : World} {q n N : Nat} {qs : List Nat} (h : CutA B0 W q n N qs) {j p : Nat} (hp : qs[j]? = some p) (k : Nat) (hk : k < n) (y : UInt8) : CutA B0 (W.setCell ⟨p, k, none⟩ (bv y)) q n N qs := by
  obtain ⟨x, hx, hl, hb⟩ := h.at_ j p hp
  have hS : Blk (W.setCell ⟨p, k, none⟩ (bv y)) p [] (x.set k y) [] := by
    have := hx.set k (by omega) y
    simpa using this
  have hne : p ≠ q := by
    rintro rfl
    have h1 := h.row
    unfold Blk at hx
    rw [hx] at h1
    injection h1 with h1
    injection h1 with _ h1 _
    exact absurd h1 (by decide)
  refine ⟨(Below.heap_setCell W ⟨p, k, none⟩ _ q (fun e => hne e.symm)).trans h.row, h.qb, h.len, fun i r hr => ?_⟩
  by_cases e : r = p
  · subst e
    exact ⟨x.set k y, hS, by simp [hl], hb⟩
  · obtain ⟨z, hz, hzl, hzb⟩ := h.at_ i r hr
    exact ⟨z, hz.kept (Below.heap_setCell W ⟨p, k, none⟩ _ r e), hzl, hzb⟩

theorem CutA.bel {B0 : Nat} {w W : World} {p : Nat} (h : Below B0 w W) (hp : B0 ≤ p) (hs : B0 ≤ W.heap.size) (k : Nat) (u : Value) : Below B0 w (W.setCell ⟨p, k, none⟩ u) :=
  h.trans ((KeepsBut.setCell (S := fun x => x = p) W p k u rfl).below hs (fun x e => by omega))

theorem inc_byte (x : UInt8) : Value.int .u8 (IntKind.u8.wrap ((x.toNat : Int) + 1)) = bv (x + 1) := by
  have hx := x.toNat_lt
  unfold bv
  have : ((x + 1).toNat : Int) = IntKind.u8.wrap ((x.toNat : Int) + 1) := by
    rw [IntKind.wrap_u8]
    simp [UInt8.toNat_add]
  rw [this]

set_option maxRecDepth 100000 in
set_option maxHeartbeats 8000000 in
theorem segmentSplits_walk (N B Q E F : Int) (ov : Value) (l : List UInt8) (w : World) (ho : Bs w ov l) :
    Calls Try.prog 6 #[.agg #[.int .i64 N, .int .i64 B, .int .i64 Q, .int .i64 E, .int .i64 F], ov] w fun e w' => e = .returned (.bool true) ∧ Below w.heap.size w w' := by
  have HO : Hid (Bs w ov l) := ho
  obtain ⟨-, ao, cap, rfl, h2, h3, -, -⟩ := ho
  unfold maxLen at h3
  obtain ⟨n, hn⟩ : ∃ n, l.length = n := ⟨_, rfl⟩
  rw [hn] at h2 HO ⊢
  have Hn : Hid (l.length = n) := hn
  clear hn
  go_enter Try.func6, Try.ntmps6
  go_wp2_with fail
  refine (speaks12_any _).mono ?_
  rintro e w1 ⟨rfl, hb⟩
  have B1 : Hid (Below w.heap.size w w1) := on_below (below_alloc _ _) hb
  have P1 : Hid (Five w1 w.heap.size N B Q E F) := (five_new w _ _ _ _ _ _).below hb
  clear hb
  obtain ⟨c0, c1, c2, c3, c4⟩ := P1.out
  by_cases ga1 : N > 100
  · by_cases ga2 : N ≤ 1048576
    · go_wp2
      go_ret
      exact ⟨rfl, B1.out⟩
    · have hM : ¬ May N B Q E F := fun h => by have := h.1; omega
      by_cases gb1 : B > 100
      · by_cases gb2 : B ≤ 65535
        · go_wp2
          go_ret
          exact ⟨rfl, B1.out⟩
        · by_cases gc : n > 10001
          · have kc : (n : Int) > 10001 := by omega
            go_wp2
            go_ret
            exact ⟨rfl, B1.out⟩
          · have kc : ¬ (n : Int) > 10001 := by omega
            have CS : Hid (∀ W v, Calls Try.prog 19 #[.agg #[.int .i64 N, .int .i64 B, .int .i64 Q, .int .i64 E, .int .i64 F], v] W fun e w' => e = .returned (.tuple #[.slice none 0 0, .int .i64 1]) ∧ Below W.heap.size W w') := fun W v => split_no N B Q E F v W hM
            have CX : Hid (∀ W, Calls Try.prog 13 #[.agg #[.int .i64 N, .int .i64 B, .int .i64 Q, .int .i64 E, .int .i64 F]] W fun e w' => e = .returned (.bool false) ∧ Below W.heap.size W w') := fun W => rmay_no _ _ _ _ _ W hM
            clear hM
            go_wp2_with fail
            refine (CS.out _ _).mono ?_
            rintro e w2 ⟨rfl, hb⟩
            have B2 : Hid (Below w.heap.size w w2) := on_below B1.out hb
            have P2 : Hid (Five w2 w.heap.size N B Q E F) := P1.out.below hb
            clear hb CS c0 c1 c2 c3 c4 P1 B1
            obtain ⟨c0, c1, c2, c3, c4⟩ := P2.out
            go_wp2_with fail
            refine (CX.out _).mono ?_
            rintro e w3 ⟨rfl, hb⟩
            have B3 : Hid (Below w.heap.size w w3) := on_below B2.out hb
            clear hb CX c0 c1 c2 c3 c4 P2 B2
            go_wp2
            go_ret
            exact ⟨rfl, B3.out⟩
      · by_cases gc : n > 10001
        · have kc : (n : Int) > 10001 := by omega
          go_wp2
          go_ret
          exact ⟨rfl, B1.out⟩
        · have kc : ¬ (n : Int) > 10001 := by omega
          have CS : Hid (∀ W v, Calls Try.prog 19 #[.agg #[.int .i64 N, .int .i64 B, .int .i64 Q, .int .i64 E, .int .i64 F], v] W fun e w' => e = .returned (.tuple #[.slice none 0 0, .int .i64 1]) ∧ Below W.heap.size W w') := fun W v => split_no N B Q E F v W hM
          have CX : Hid (∀ W, Calls Try.prog 13 #[.agg #[.int .i64 N, .int .i64 B, .int .i64 Q, .int .i64 E, .int .i64 F]] W fun e w' => e = .returned (.bool false) ∧ Below W.heap.size W w') := fun W => rmay_no _ _ _ _ _ W hM
          clear hM
          go_wp2_with fail
          refine (CS.out _ _).mono ?_
          rintro e w2 ⟨rfl, hb⟩
          have B2 : Hid (Below w.heap.size w w2) := on_below B1.out hb
          have P2 : Hid (Five w2 w.heap.size N B Q E F) := P1.out.below hb
          clear hb CS c0 c1 c2 c3 c4 P1 B1
          obtain ⟨c0, c1, c2, c3, c4⟩ := P2.out
          go_wp2_with fail
          refine (CX.out _).mono ?_
          rintro e w3 ⟨rfl, hb⟩
          have B3 : Hid (Below w.heap.size w w3) := on_below B2.out hb
          clear hb CX c0 c1 c2 c3 c4 P2 B2
          go_wp2
          go_ret
          exact ⟨rfl, B3.out⟩
  · by_cases gb1 : B > 100
    · by_cases gb2 : B ≤ 65535
      · go_wp2
        go_ret
        exact ⟨rfl, B1.out⟩
      · by_cases gc : n > 10001
        · have kc : (n : Int) > 10001 := by omega
          go_wp2
          go_ret
          exact ⟨rfl, B1.out⟩
        · have kc : ¬ (n : Int) > 10001 := by omega
          have hM : ¬ May N B Q E F := fun h => by have := h.2.1; omega
          have CS : Hid (∀ W v, Calls Try.prog 19 #[.agg #[.int .i64 N, .int .i64 B, .int .i64 Q, .int .i64 E, .int .i64 F], v] W fun e w' => e = .returned (.tuple #[.slice none 0 0, .int .i64 1]) ∧ Below W.heap.size W w') := fun W v => split_no N B Q E F v W hM
          have CX : Hid (∀ W, Calls Try.prog 13 #[.agg #[.int .i64 N, .int .i64 B, .int .i64 Q, .int .i64 E, .int .i64 F]] W fun e w' => e = .returned (.bool false) ∧ Below W.heap.size W w') := fun W => rmay_no _ _ _ _ _ W hM
          clear hM
          go_wp2_with fail
          refine (CS.out _ _).mono ?_
          rintro e w2 ⟨rfl, hb⟩
          have B2 : Hid (Below w.heap.size w w2) := on_below B1.out hb
          have P2 : Hid (Five w2 w.heap.size N B Q E F) := P1.out.below hb
          clear hb CS c0 c1 c2 c3 c4 P1 B1
          obtain ⟨c0, c1, c2, c3, c4⟩ := P2.out
          go_wp2_with fail
          refine (CX.out _).mono ?_
          rintro e w3 ⟨rfl, hb⟩
          have B3 : Hid (Below w.heap.size w w3) := on_below B2.out hb
          clear hb CX c0 c1 c2 c3 c4 P2 B2
          go_wp2
          go_ret
          exact ⟨rfl, B3.out⟩
    · by_cases gc : n > 10001
      · have kc : (n : Int) > 10001 := by omega
        go_wp2
        go_ret
        exact ⟨rfl, B1.out⟩
      · have kc : ¬ (n : Int) > 10001 := by omega
        by_cases hM : May N B Q E F
        · obtain ⟨N, B, rfl, rfl, n1, n2, b1, b2⟩ := may_nb hM
          have HM : Hid (May (N : Int) (B : Int) Q E F) := hM
          have CX : Hid (∀ W, Calls Try.prog 13 #[.agg #[.int .i64 (N : Int), .int .i64 (B : Int), .int .i64 Q, .int .i64 E, .int .i64 F]] W fun e w' => e = .returned (.bool true) ∧ Below W.heap.size W w') := fun W => rmay_yes _ _ _ _ _ W HM.out
          clear hM
          obtain ⟨P, hP⟩ : ∃ P, N * B = P := ⟨_, rfl⟩
          have hP2 : N * B ≤ 100 * 100 := Nat.mul_le_mul (show N ≤ 100 by omega) (show B ≤ 100 by omega)
          have hw : IntKind.i64.wrap ((N : Int) * (B : Int)) = (P : Int) := by rw [IntKind.wrap_i64, show (N : Int) * (B : Int) = ((N * B : Nat) : Int) by simp, hP]; omega
          by_cases g3 : n ≤ P
          · have k3 : ¬ (n : Int) > (P : Int) := by omega
            have HLe : Hid (l.length ≤ N * B) := by unfold Hid; rw [Hn.out, hP]; exact g3
            have hn2 : n ≤ 10000 := by omega
            clear hP hP2
            have CS : Hid (∀ W, Below w.heap.size w W → Calls Try.prog 19 #[.agg #[.int .i64 (N : Int), .int .i64 (B : Int), .int .i64 Q, .int .i64 E, .int .i64 F], .slice ao n cap] W fun e w' => ∃ q qs, e = .returned (.tuple #[.slice (some ⟨q, 0, none⟩) N N, .int .i64 0]) ∧ Cut W.heap.size w' q B qs (splitD N B l) [] ∧ Below W.heap.size W w') := fun W hW => split_yes N B Q E F _ l W HM.out (HO.out.below hW) HLe.out
            have CR : Hid (∀ W, Below w.heap.size w W → Calls Try.prog 21 #[.agg #[.int .i64 (N : Int), .int .i64 (B : Int), .int .i64 Q, .int .i64 E, .int .i64 F], .slice ao n cap] W fun e w' => ∃ a c vs, e = .returned (.slice a N c) ∧ Sl 1 w' (.slice a N c) N vs ∧ Parts w' vs (splitD N B l) ∧ Below W.heap.size W w') := fun W hW => rsplit_any N B Q E F _ l W (by omega) (by omega) (HO.out.below hW)
            go_wp2_with fail
            refine (CS.out _ B1.out).mono ?_
            rintro e w2 ⟨q, qs, rfl, hc, hb⟩
            have B2 : Hid (Below w.heap.size w w2) := on_below B1.out hb
            have P2 : Hid (Five w2 w.heap.size N B Q E F) := P1.out.below hb
            have C2 : Hid (Cut w1.heap.size w2 q B qs (splitD N B l) []) := hc
            have HW1 : Hid (w.heap.size ≤ w1.heap.size) := B1.out.size
            clear hb CS c0 c1 c2 c3 c4 P1 B1 hc
            obtain ⟨c0, c1, c2, c3, c4⟩ := P2.out
            go_wp2_with fail
            refine (CX.out _).mono ?_
            rintro e w3 ⟨rfl, hb⟩
            have B3 : Hid (Below w.heap.size w w3) := on_below B2.out hb
            have P3 : Hid (Five w3 w.heap.size N B Q E F) := P2.out.below hb
            have C3 : Hid (Cut w1.heap.size w3 q B qs (splitD N B l) []) := C2.out.below hb
            clear hb CX c0 c1 c2 c3 c4 P2 B2 C2
            have c0 := P3.out.1
            have c1 := P3.out.2.1
            go_upto_region 11 with (at_builtin; refine wpList_copy w3 rfl (.tmp 69) (.tmp 70) rfl l _ _ rfl rfl rfl (HO.out.below B3.out) (by rw [Hn.out]; omega) ?_; intro q4 k4 w4 hown hbel)
            have B4 : Hid (Below w.heap.size w w4) := on_below B3.out hbel
            have P4 : Hid (Five w4 w.heap.size N B Q E F) := P3.out.below hbel
            have C4 : Hid (Cut w1.heap.size w4 q B qs (splitD N B l) []) := C3.out.below hbel
            obtain ⟨qo, ko, po, e4, hqo, hko, hlk, hkm, hkp⟩ := hown
            injection e4 with e4 _ e5
            injection e4 with e4
            injection e4 with e4 _ _
            subst e4; subst e5
            rw [Hn.out] at hlk hkp ⊢
            unfold maxLen at hkm
            have K4 : Hid (Blk w4 q4 [] l po) := hko
            have QS : Hid (∀ r ∈ qs, w.heap.size ≤ r ∧ r < q4) := by
              intro r hr
              obtain ⟨j, hj⟩ := List.mem_iff_getElem?.1 hr
              obtain ⟨x, _, hx, hx2, _⟩ := C3.out.get hj
              have := hx.lt
              have := HW1.out
              omega
            have HW4 : Hid (w1.heap.size ≤ w4.heap.size) := Nat.le_trans C4.out.qb (Nat.le_of_lt C4.out.lt)
            clear hbel hqo hko c0 c1 C3 B3 P3 hkp
            obtain ⟨c0, c1, c2, c3, c4⟩ := P4.out
            go_wp2_with fail
            refine (CR.out _ B4.out).mono ?_
            rintro e w5 ⟨a5, k5, vs5, rfl, hs5, hp5, hb⟩
            have B5 : Hid (Below w.heap.size w w5) := on_below B4.out hb
            have C5 : Hid (Cut w1.heap.size w5 q B qs (splitD N B l) []) := C4.out.below hb
            have K5 : Hid (Blk w5 q4 [] l po) := K4.out.below hb
            have hv5 : vs5.length = N := by rw [hp5.1, splitD_length]
            have hq5 : qs.length = N := by rw [C4.out.len, splitD_length]
            have CE : Hid (Calls Try.prog 20 #[.slice (some ⟨q, 0, none⟩) N N, .slice a5 N k5] w5 fun e w' => e = .returned (.bool true) ∧ Below w5.heap.size w5 w') := same12_yes _ _ _ vs5 _ w5 (C5.out.sl N hq5.symm (by omega)) (C5.out.parts (by omega)) (by rw [hv5]; exact hs5) hp5
            clear hb CR c0 c1 c2 c3 c4 P4 B4 C4 K4 hs5 hp5 hv5
            go_wp2_with fail
            refine CE.out.mono ?_
            rintro e w6 ⟨rfl, hb⟩
            have B6 : Hid (Below w.heap.size w w6) := on_below B5.out hb
            have A6 : Hid (CutA w1.heap.size w6 q B N qs) := (C5.out.below hb).any N (splitD_length _ _ _)
            have K6 : Hid (Blk w6 q4 [] l po) := K5.out.below hb
            have QL : Hid (qs.length = N) := hq5
            clear hb CE B5 C5 K5 hq5
            go_wp2
            go_loopw [84] (fun iv wr => ∃ i : Nat, i ≤ N ∧ iv = .int .i64 i ∧ Hid (CutA w1.heap.size wr q B N qs) ∧ Hid (KeepsBut (fun x => x ∈ qs) w6 wr)) (fun iv _ => N - (intOf iv).toNat)
            case atStart => exact ⟨0, by omega, rfl, A6, KeepsBut.refl _ _⟩
            case round =>
              obtain ⟨i, hi, rfl, A, KB⟩ := hrel
              by_cases hlt : i < N
              · have hiq : i < qs.length := by rw [QL.out]; exact hlt
                obtain ⟨p, hp⟩ : ∃ p, qs[i]? = some p := ⟨_, List.getElem?_eq_getElem hiq⟩
                have HPm : Hid (qs[i]? = some p) := hp
                have cq := A.out.cell hp
                obtain ⟨wi, hwi⟩ : ∃ x, x = wr := ⟨_, rfl⟩
                subst hwi
                clear hp
                go_wp2
                clear cq
                go_loopw [90] (fun kv wr => ∃ k : Nat, k ≤ B ∧ kv = .int .i64 k ∧ Hid (CutA w1.heap.size wr q B N qs) ∧ Hid (KeepsBut (fun x => x ∈ qs) w6 wr)) (fun kv _ => B - (intOf kv).toNat)
                case atStart => exact ⟨0, by omega, rfl, A, KB⟩
                case round =>
                  obtain ⟨k, hk, rfl, A2, KB2⟩ := hrel
                  clear A KB
                  by_cases hkB : k < B
                  · obtain ⟨x, hx, hxl, hxb⟩ := A2.out.at_ i p HPm.out
                    have hkx : k < x.length := by omega
                    have ck : wr.cell? ⟨p, k, none⟩ = some (.int .u8 (x[k].toNat : Int)) := by
                      have := hx.cell k _ (map_bv_at x k hkx)
                      simpa using this
                    have fk : wr.frozen? ⟨p, k, none⟩ = false := hx.frozen k
                    have hy : IntKind.u8.wrap ((x[k].toNat : Int) + 1) = ((x[k] + 1).toNat : Int) := by
                      have := inc_byte x[k]
                      unfold bv at this
                      injection this
                    have A3 : Hid (CutA w1.heap.size (wr.setCell ⟨p, k, none⟩ (.int .u8 ((x[k] + 1).toNat : Int))) q B N qs) := A2.out.set HPm.out k hkB (x[k] + 1)
                    have KB3 : Hid (KeepsBut (fun x => x ∈ qs) w6 (wr.setCell ⟨p, k, none⟩ (.int .u8 ((x[k] + 1).toNat : Int)))) := KB2.out.trans (KeepsBut.setCell _ _ _ _ (List.mem_of_getElem? HPm.out))
                    clear hx hxl hxb A2 KB2
                    generalize (x[k] + 1).toNat = y2 at *
                    generalize x[k].toNat = y1 at *
                    go_wp2
                    go_roundw
                    case rel => exact ⟨k + 1, by omega, by go_num, A3, KB3⟩
                    case measure => simp [intOf]; omega
                  · go_wp2
                    go_roundw
                    case rel => exact ⟨i + 1, by omega, by go_num, A2, KB2⟩
                    case measure => simp [intOf]; omega
              · have B7 : Hid (Below w.heap.size w wr) := B6.out.trans (KB.out.below B6.out.size (fun x hx => (QS.out x hx).1))
                have K7 : Hid (Blk wr q4 [] l po) := K6.out.kept (KB.out.block q4 K6.out.lt (fun h => by have := (QS.out _ h).2; omega))
                have kr1 : (convert 40 9 (.slice ao n cap)).run Try.prog wr = .ok (.string (str l)) wr := conv_bytes (HO.out.below B7.out)
                have kr2 : (convert 40 9 (.slice (some ⟨q4, 0, none⟩) n k4)).run Try.prog wr = .ok (.string (str l)) wr := conv_bytes (K7.out.bs0 n k4 Hn.out.symm hlk (by unfold maxLen; omega))
                clear A KB K7
                go_wp2
                go_ret
                exact ⟨by simp, B7.out⟩
          · have k3 : (n : Int) > (P : Int) := by omega
            have HLe : Hid (¬ l.length ≤ N * B) := by unfold Hid; rw [Hn.out, hP]; exact g3
            clear hP hP2
            have CS : Hid (∀ W, Below w.heap.size w W → Calls Try.prog 19 #[.agg #[.int .i64 (N : Int), .int .i64 (B : Int), .int .i64 Q, .int .i64 E, .int .i64 F], .slice ao n cap] W fun e w' => e = .returned (.tuple #[.slice none 0 0, .int .i64 10]) ∧ Below W.heap.size W w') := fun W hW => split_long N B Q E F _ l W HM.out (HO.out.below hW) HLe.out
            go_wp2_with fail
            refine (CS.out _ B1.out).mono ?_
            rintro e w2 ⟨rfl, hb⟩
            have B2 : Hid (Below w.heap.size w w2) := on_below B1.out hb
            have P2 : Hid (Five w2 w.heap.size N B Q E F) := P1.out.below hb
            clear hb CS c0 c1 c2 c3 c4 P1 B1
            obtain ⟨c0, c1, c2, c3, c4⟩ := P2.out
            go_wp2_with fail
            refine (CX.out _).mono ?_
            rintro e w3 ⟨rfl, hb⟩
            have B3 : Hid (Below w.heap.size w w3) := on_below B2.out hb
            have P3 : Hid (Five w3 w.heap.size N B Q E F) := P2.out.below hb
            clear hb CX c0 c1 c2 c3 c4 P2 B2
            have c0 := P3.out.1
            have c1 := P3.out.2.1
            go_wp2
            go_ret
            exact ⟨rfl, B3.out⟩
        · have CS : Hid (∀ W v, Calls Try.prog 19 #[.agg #[.int .i64 N, .int .i64 B, .int .i64 Q, .int .i64 E, .int .i64 F], v] W fun e w' => e = .returned (.tuple #[.slice none 0 0, .int .i64 1]) ∧ Below W.heap.size W w') := fun W v => split_no N B Q E F v W hM
          have CX : Hid (∀ W, Calls Try.prog 13 #[.agg #[.int .i64 N, .int .i64 B, .int .i64 Q, .int .i64 E, .int .i64 F]] W fun e w' => e = .returned (.bool false) ∧ Below W.heap.size W w') := fun W => rmay_no _ _ _ _ _ W hM
          clear hM
          go_wp2_with fail
          refine (CS.out _ _).mono ?_
          rintro e w2 ⟨rfl, hb⟩
          have B2 : Hid (Below w.heap.size w w2) := on_below B1.out hb
          have P2 : Hid (Five w2 w.heap.size N B Q E F) := P1.out.below hb
          clear hb CS c0 c1 c2 c3 c4 P1 B1
          obtain ⟨c0, c1, c2, c3, c4⟩ := P2.out
          go_wp2_with fail
          refine (CX.out _).mono ?_
          rintro e w3 ⟨rfl, hb⟩
          have B3 : Hid (Below w.heap.size w w3) := on_below B2.out hb
          clear hb CX c0 c1 c2 c3 c4 P2 B2
          go_wp2
          go_ret
          exact ⟨rfl, B3.out⟩

theorem segmentSplits_law (N B Q E F : Int) (ov : Value) (l : List UInt8) (w : World) (hw : Ok .i64 N ∧ Ok .i64 B ∧ Ok .i64 Q ∧ Ok .i64 E ∧ Ok .i64 F) (ho : Bs w ov l) :
    Calls Try.prog 6 #[.agg #[.int .i64 N, .int .i64 B, .int .i64 Q, .int .i64 E, .int .i64 F], ov] w fun e w' => e = .returned (.bool true) ∧ Below w.heap.size w w' := segmentSplits_walk N B Q E F ov l w ho

end Go.Proofs.Ytbnedpjfgadkkaa
