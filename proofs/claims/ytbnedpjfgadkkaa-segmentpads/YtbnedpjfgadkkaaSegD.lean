/-
  segment: the document's Split.
-/
import Derived.Test.YtbnedpjfgadkkaaSegC
namespace Go.Proofs.Ytbnedpjfgadkkaa
open Go.RowKit
set_option linter.unusedVariables false

/-- Rows of bytes, each of its own. -/
def RowsB (B0 : Nat) (w : World) (vs : List Value) (ls : List (List UInt8)) : Prop := vs.length = ls.length ∧ ∀ (i : Nat) (v : Value) (l : List UInt8), vs[i]? = some v → ls[i]? = some l → OwB B0 w v l.length l

theorem RowsB.parts {B0 : Nat} {w : World} {vs : List Value} {ls : List (List UInt8)} (h : RowsB B0 w vs ls) : Parts w vs ls := ⟨h.1, fun i v l hv hl => (h.2 i v l hv hl).bs⟩
theorem RowsB.below {B0 : Nat} {w w' : World} {vs : List Value} {ls : List (List UInt8)} (h : RowsB B0 w vs ls) (hb : Below w.heap.size w w') : RowsB B0 w' vs ls := ⟨h.1, fun i v l hv hl => (h.2 i v l hv hl).below hb⟩
theorem RowsB.start (B0 : Nat) (w : World) : RowsB B0 w [] [] := ⟨rfl, fun i v l hv => by simp at hv⟩
theorem OwB.mono {B B' : Nat} {w : World} {v : Value} {n : Nat} {l : List UInt8} (h : OwB B w v n l) (hB : B' ≤ B) : OwB B' w v n l := by
  refine ⟨h.1, ?_⟩
  rcases h.2 with h' | ⟨g, cap, cur, hv, hg, hh, hx⟩
  · exact .inl h'
  · exact .inr ⟨g, cap, cur, hv, Nat.le_trans hB hg, hh, hx⟩
theorem RowsB.snoc {B0 : Nat} {w : World} {vs : List Value} {ls : List (List UInt8)} (h : RowsB B0 w vs ls) {v : Value} {l : List UInt8} (hv : OwB B0 w v l.length l) : RowsB B0 w (vs ++ [v]) (ls ++ [l]) := by
  refine ⟨by simp [h.1], fun i u k hu hk => ?_⟩
  by_cases hi : i < vs.length
  · rw [List.getElem?_append_left hi] at hu
    rw [List.getElem?_append_left (by rw [← h.1]; exact hi)] at hk
    exact h.2 i u k hu hk
  · have hi2 : i = vs.length := by
      have := (List.getElem?_eq_some_iff.1 hu).1
      simp at this
      omega
    subst hi2
    rw [List.getElem?_append_right (by omega)] at hu
    rw [List.getElem?_append_right (by rw [h.1]; omega)] at hk
    simp [h.1] at hu hk
    subst hu; subst hk
    exact hv

/-- A row of slices grows: the bytes stay. -/
theorem RowsB.grown {B0 B1 : Nat} {w w' : World} {vs us : List Value} {ls : List (List UInt8)} {ov : Value} {m : Nat} (h : RowsB B0 w vs ls) (ho : w.ownsRow B1 40 1 ov m us) (hg : w.grownBy w' ov.ownBlock) : RowsB B0 w' vs ls := by
  refine ⟨h.1, fun i v l hv hl => ?_⟩
  have h1 := h.2 i v l hv hl
  refine h1.kept (fun q hq => hg.block q (h1.lt q hq).2 (fun e => ?_))
  obtain ⟨c1, e1⟩ := owns_type' h1 q hq
  obtain ⟨c2, e2⟩ := owns_type' ho q e.symm
  rw [e1] at e2
  injection e2 with e2
  injection e2 with _ e2 _
  exact absurd e2 (by decide)

theorem infoBs_parts : ∃ i, Try.prog.info? 40 = some i ∧ i.zero = some (.slice none 0 0) ∧ i.size = 1 ∧ i.bytes = 24 := by
  obtain ⟨i, a, b, c, d⟩ := info_parts Try.infoBs
  exact ⟨i, a, b, c, d⟩

/-- One slice behind a row of slices of one's own. -/
theorem wpList_addS (w : World) {ops : Array Oper} {rest : List Oper} {o : Oper} {a : Act} {Q : Exit → Act → World → Prop} (hgd : o.guard = none) (s x : Operand)
    (ho : o.op = .call { callee := .builtin .append, args := #[s, x], argTypes := #[41, 41] })
    (B : Nat) (v : Value) (n : Nat) (vs : List Value) (hs : a.eval s = v) (hown : w.ownsRow B 40 1 v n vs)
    (xv : Value) (u : Value) (hu : u.oneCell' = true) (hx : a.eval x = xv) (hsrc : Sl 1 w xv 1 [u])
    (hlen : n + 1 ≤ 1000000000) (hbase : B ≤ w.heap.size)
    (h : ∀ ao cap w', w'.ownsRow B 40 1 (.slice ao (n + 1) cap) (n + 1) (vs ++ [u]) → w.grownBy w' v.ownBlock → n + 1 ≤ cap → cap ≤ maxLen → wpList Try.prog ops Q rest (a.put o.dst (.slice ao (n + 1) cap)) w') : wpList Try.prog ops Q (o :: rest) a w := by
  obtain ⟨i, hi, hz, h1, h8⟩ := infoBs_parts
  refine wpList_app w hgd s x 41 ho B 40 i (.slice none 0 0) 1 24 Try.underlying41 hi hz h1 h8 rfl (by decide) v n _ hs hown xv 1 [u] hx hsrc (by intro y hy; rw [List.mem_singleton.1 hy]; exact hu) (by unfold maxLen; omega) (by omega) hbase ?_
  intro ao cap w' h2 h3 h4 h5 h6 h7
  exact h ao cap w' h2 h3 h6 h7

theorem blkAt_take (B : Nat) (l : List UInt8) (i k : Nat) (h : k < B) : (blkAt B l i).take (k + 1) = (blkAt B l i).take k ++ [l.getD (i * B + k) 0] := by
  rw [take_next _ k (by rw [blkAt_length]; exact h)]
  congr 2
  simp [blkAt]

theorem below_ownR {B0 B : Nat} {w w1 w2 : World} {v : Value} {n : Nat} {vs : List Value} (hb : Below B0 w w1) (ho : w1.ownsRow B 40 1 v n vs) (hB : B0 ≤ B) (hs : B0 ≤ w1.heap.size) (hg : w1.grownBy w2 v.ownBlock) : Below B0 w w2 :=
  hb.grown hg hs (fun k hk => Nat.le_trans hB (World.ownsRow.lt ho k hk).1)

set_option maxRecDepth 100000 in
set_option maxHeartbeats 4000000 in
/-- The document's Split. -/
theorem rsplit_any (N B : Nat) (Q E F : Int) (ov : Value) (l : List UInt8) (w : World) (hN : N ≤ 1000) (hB : B ≤ 1000) (ho : Bs w ov l) :
    Calls Try.prog 21 #[.agg #[.int .i64 (N : Int), .int .i64 (B : Int), .int .i64 Q, .int .i64 E, .int .i64 F], ov] w fun e w' => ∃ a c vs, e = .returned (.slice a N c) ∧ Sl 1 w' (.slice a N c) N vs ∧ Parts w' vs (splitD N B l) ∧ Below w.heap.size w w' := by
  have HO : Hid (Bs w ov l) := ho
  obtain ⟨-, ao, cap, rfl, h2, h3, -, -⟩ := ho
  unfold maxLen at h3
  obtain ⟨n, hn⟩ : ∃ n, l.length = n := ⟨_, rfl⟩
  rw [hn] at h2 HO ⊢
  have Hn : Hid (l.length = n) := hn
  clear hn
  have P0 : Hid (Five (w.alloc (.cells #[.int .i64 (N : Int), .int .i64 (B : Int), .int .i64 Q, .int .i64 E, .int .i64 F] 23)) w.heap.size N B Q E F) := five_new w _ N B Q E F
  have B0 : Hid (Below w.heap.size w (w.alloc (.cells #[.int .i64 (N : Int), .int .i64 (B : Int), .int .i64 Q, .int .i64 E, .int .i64 F] 23))) := below_alloc _ _
  go_enter Try.func21, Try.ntmps21
  go_upto_region 1 with fail
  generalize w.alloc (.cells #[.int .i64 (N : Int), .int .i64 (B : Int), .int .i64 Q, .int .i64 E, .int .i64 F] 23) = w0 at *
  have L0 : Hid (w.heap.size < w0.heap.size) := cell_block_lt P0.out.1
  go_wp2
  go_loopw [5, 6] (fun rv iv wr => ∃ (i c : Nat) (a : Option Addr) (vs : List Value), i ≤ N ∧ iv = .int .i64 i ∧ rv = .slice a i c ∧ Hid (wr.ownsRow w0.heap.size 40 1 (.slice a i c) i vs) ∧ Hid (RowsB w0.heap.size wr vs (splitD i B l)) ∧ Hid (Below w0.heap.size w0 wr)) (fun _ iv _ => N - (intOf iv).toNat)
  case atStart => exact ⟨0, 0, _, [], by omega, rfl, rfl, World.ownsRow_lit w0 #[] 0 (Nat.le_refl _) (by simp [maxLen]) rfl, RowsB.start _ _, below_alloc _ _⟩
  case round =>
    obtain ⟨i, c, a, vs, hi, rfl, rfl, OR, RB, BB⟩ := hrel
    have PP : Hid (Five wr w.heap.size N B Q E F) := P0.out.below BB.out
    have c0 := PP.out.1
    by_cases hlt : i < N
    · have c1 := PP.out.2.1
      obtain ⟨wi, hwi⟩ : ∃ x, x = wr := ⟨_, rfl⟩
      subst hwi
      go_wp2
      clear c0 c1
      go_loopw [7, 8] (fun bv' kv wr => ∃ (k c : Nat) (a : Option Addr), k ≤ B ∧ kv = .int .i64 k ∧ bv' = .slice a k c ∧ Hid (OwB wi.heap.size wr (.slice a k c) k ((blkAt B l i).take k)) ∧ Hid (Below wi.heap.size wi wr)) (fun _ kv _ => B - (intOf kv).toNat)
      case atStart => exact ⟨0, 0, _, by omega, rfl, rfl, by unfold Hid; simpa using OwB.new wi (Nat.le_refl _), below_alloc _ _⟩
      case round =>
        obtain ⟨k, c2, a2, hk, rfl, rfl, O2, BB2⟩ := hrel
        have BW : Hid (Below w.heap.size w wr) := on_below (on_below B0.out BB.out) BB2.out
        have PW : Hid (Five wr w.heap.size N B Q E F) := PP.out.below BB2.out
        have c1 := PW.out.2.1
        by_cases hkB : k < B
        · obtain ⟨j, hj⟩ : ∃ j, i * B + k = j := ⟨_, rfl⟩
          have hj1 : i * B ≤ 1000000 := Nat.mul_le_mul (show i ≤ 1000 by omega) hB
          have hw1 : IntKind.i64.wrap ((i : Int) * (B : Int)) = ((i * B : Nat) : Int) := by rw [IntKind.wrap_i64]; simp; omega
          have hw2 : IntKind.i64.wrap (((i * B : Nat) : Int) + (k : Int)) = (j : Int) := by rw [IntKind.wrap_i64]; omega
          have HE : Hid ((blkAt B l i).take (k + 1) = (blkAt B l i).take k ++ [l.getD j 0]) := by unfold Hid; rw [blkAt_take B l i k hkB, hj]
          generalize i * B = iB at *
          by_cases hjn : j < n
          · have hjl : j < l.length := by rw [Hn.out]; exact hjn
            obtain ⟨-, ao', cap', hv0, -, -, -, h5⟩ := HO.out
            injection hv0 with e1 e2 e3
            subst e1
            obtain ⟨b0, o0, rfl, hc0⟩ : ∃ b off, ao = some ⟨b, off, none⟩ ∧ ∀ j u, (l.map bv)[j]? = some u → w.cell? ⟨b, off + j, none⟩ = some u := by
              rcases h5 with h0 | h0
              · omega
              · exact h0
            have ck0 := hc0 j _ (map_bv_at l j hjl)
            have ck := (BW.out.cell (cell_block_lt ck0)).trans ck0
            have hlj : (j : Int) < (n : Int) := by omega
            have HV1 : Hid (∀ W : World, Sl 1 (W.alloc (.cells #[.int .u8 (l[j].toNat : Int)] 5)) (.slice (some ⟨W.heap.size, 0, none⟩) 1 1) 1 ([l.getD j 0].map bv)) := by
              intro W
              have : l.getD j 0 = l[j] := by simp [List.getD, hjl]
              rw [this]
              exact bs_one W l[j] _
            clear hc0 ck0 e2 e3
            generalize l[j] = y at *
            generalize l.getD j 0 = z at *
            go_wp2_with (at_builtin; refine wpList_addB _ rfl (.tmp 42) (.tmp 44) rfl wi.heap.size (.slice a2 k c2) k _ rfl (O2.out.alloc _) _ 1 [z] rfl (HV1.out _) (by omega) (by have := BB2.out.size; simp; omega) ?_; intro a3 c3 w3 ho3 hg3 hnc3 hcm3)
            have O3 : Hid (OwB wi.heap.size w3 (.slice a3 (k + 1) c3) (k + 1) ((blkAt B l i).take (k + 1))) := by unfold Hid; rw [HE.out]; exact ho3
            have B3 : Hid (Below wi.heap.size wi w3) := below_addB (BB2.out.alloc BB2.out.size _) (O2.out.alloc _) (Nat.le_refl _) (by have := BB2.out.size; simp; omega) hg3
            clear ho3 hg3 hnc3 hcm3 O2 BB2 HE HV1
            go_roundw
            case rel => exact ⟨k + 1, c3, a3, by omega, by go_num, rfl, O3, B3⟩
            case measure => simp [intOf]; omega
          · have hlj : ¬ (j : Int) < (n : Int) := by omega
            have HV1 : Hid (∀ W : World, Sl 1 (W.alloc (.cells #[.int .u8 (0 : Int)] 5)) (.slice (some ⟨W.heap.size, 0, none⟩) 1 1) 1 ([l.getD j 0].map bv)) := by
              intro W
              have : l.getD j 0 = 0 := by simp [List.getD, List.getElem?_eq_none (show l.length ≤ j by rw [Hn.out]; omega)]
              rw [this]
              exact bs_one W 0 _
            generalize l.getD j 0 = z at *
            go_wp2_with (at_builtin; refine wpList_addB _ rfl (.tmp 42) (.tmp 44) rfl wi.heap.size (.slice a2 k c2) k _ rfl (O2.out.alloc _) _ 1 [z] rfl (HV1.out _) (by omega) (by have := BB2.out.size; simp; omega) ?_; intro a3 c3 w3 ho3 hg3 hnc3 hcm3)
            have O3 : Hid (OwB wi.heap.size w3 (.slice a3 (k + 1) c3) (k + 1) ((blkAt B l i).take (k + 1))) := by unfold Hid; rw [HE.out]; exact ho3
            have B3 : Hid (Below wi.heap.size wi w3) := below_addB (BB2.out.alloc BB2.out.size _) (O2.out.alloc _) (Nat.le_refl _) (by have := BB2.out.size; simp; omega) hg3
            clear ho3 hg3 hnc3 hcm3 O2 BB2 HE HV1
            go_roundw
            case rel => exact ⟨k + 1, c3, a3, by omega, by go_num, rfl, O3, B3⟩
            case measure => simp [intOf]; omega
        · obtain rfl : k = B := by omega
          have O3 : Hid (OwB w0.heap.size wr (.slice a2 k c2) k (blkAt k l i)) := by
            have := O2.out
            rw [List.take_of_length_le (by rw [blkAt_length]; omega)] at this
            exact this.mono BB.out.size
          have OR3 : Hid (wr.ownsRow w0.heap.size 40 1 (.slice a i c) i vs) := owns_kept OR.out (fun q hq => BB2.out.block q (World.ownsRow.lt OR.out q hq).2)
          have RB3 : Hid (RowsB w0.heap.size wr (vs ++ [.slice a2 k c2]) (splitD (i + 1) k l)) := by
            unfold Hid
            rw [splitD_next]
            refine (RB.out.below BB2.out).snoc ?_
            rw [blkAt_length]
            exact O3.out
          have B3 : Hid (Below w0.heap.size w0 wr) := on_below BB.out BB2.out
          clear O2 OR RB BB PP BB2 BW PW O3
          go_wp2_with (at_builtin; refine wpList_addS _ rfl (.tmp 46) (.tmp 48) rfl w0.heap.size (.slice a i c) i vs rfl (owns_kept OR3.out (fun q hq => (below_alloc _ _).block q (World.ownsRow.lt OR3.out q hq).2)) _ (.slice a2 k c2) rfl rfl (alloc_one _ _) (by omega) (by have := B3.out.size; simp; omega) ?_; intro a4 c4 w4 ho4 hg4 hnc4 hcm4)
          have RB4 : Hid (RowsB w0.heap.size w4 (vs ++ [.slice a2 k c2]) (splitD (i + 1) k l)) := (RB3.out.below (below_alloc _ _)).grown (owns_kept OR3.out (fun q hq => (below_alloc _ _).block q (World.ownsRow.lt OR3.out q hq).2)) hg4
          have B4 : Hid (Below w0.heap.size w0 w4) := below_ownR (B3.out.alloc B3.out.size _) (owns_kept OR3.out (fun q hq => (below_alloc _ _).block q (World.ownsRow.lt OR3.out q hq).2)) (Nat.le_refl _) (by have := B3.out.size; simp; omega) hg4
          have OR4 : Hid (w4.ownsRow w0.heap.size 40 1 (.slice a4 (i + 1) c4) (i + 1) (vs ++ [.slice a2 k c2])) := ho4
          clear ho4 hg4 hnc4 hcm4 RB3 OR3 B3
          go_roundw
          case rel => exact ⟨i + 1, c4, a4, _, by omega, by go_num, rfl, OR4, RB4, B4⟩
          case measure => simp [intOf]; omega
    · have R : Hid (∃ vs, Sl 1 wr (.slice a i c) i vs ∧ Parts wr vs (splitD i B l)) := ⟨vs, owned_sl OR.out, RB.out.parts⟩
      obtain rfl : i = N := by omega
      have BW : Hid (Below w.heap.size w wr) := on_below B0.out BB.out
      clear OR RB BB PP
      go_wp2
      go_ret
      obtain ⟨vs, r1, r2⟩ := R.out
      exact ⟨a, c, vs, rfl, r1, r2, BW.out⟩

end Go.Proofs.Ytbnedpjfgadkkaa
