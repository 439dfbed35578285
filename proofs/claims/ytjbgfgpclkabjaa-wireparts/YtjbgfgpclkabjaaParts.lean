/-
  The walk of the statement CrcParts.
-/
import Derived.Test.YtjbgfgpclkabjaaConst
namespace Go.Proofs.Ytjbgfgpclkabjaa
open Go.RowKit
set_option linter.unusedVariables false

theorem Parts.below {w w' : World} {vs : List Value} {ps : List (List UInt8)} (h : Parts w vs ps) (hb : Below w.heap.size w w') : Parts w' vs ps :=
  ⟨h.1, fun i v p hv hp => (h.2 i v p hv hp).below hb⟩

theorem flat_next {ps : List (List UInt8)} {k : Nat} (hk : k < ps.length) : (ps.take (k + 1)).flatten = (ps.take k).flatten ++ ps[k] := by
  rw [List.take_succ_eq_append_getElem hk, List.flatten_append]
  simp

set_option maxRecDepth 100000 in
set_option maxHeartbeats 1000000 in
theorem parts_walk (v0 : Value) (vs : List Value) (ps : List (List UInt8)) (w : World) (h0 : Sl 1 w v0 vs.length vs) (hps : Parts w vs ps) :
    Calls Try.prog 4 #[v0] w fun e w' => e = .returned (.bool true) ∧ Below w.heap.size w w' := by
  obtain ⟨i0, hi, hz0, hz1, hz2⟩ := info_parts Try.info5
  have B0 := h0
  obtain ⟨hl1, a0, c0, rfl, hc0, hm0, _, hcell⟩ := h0
  clear hl1
  unfold maxLen at hm0
  have H0 : Hid (Sl 1 w (.slice a0 vs.length c0) vs.length vs) := B0
  have HP : Hid (Parts w vs ps) := hps
  have HL : Hid (vs.length = ps.length) := hps.1
  clear B0 hps
  by_cases hA : 50 < vs.length
  · go_enter Try.func4, Try.ntmps4
    go_wp2_with fail
    refine (speaks_any w).mono ?_
    rintro e w1 ⟨rfl, hb1⟩
    have X1 : Hid (Below w.heap.size w w1) := hb1
    clear hb1
    go_wp2
    go_ret
    exact ⟨rfl, X1.out⟩
  have hA' : vs.length ≤ 50 := by omega
  clear hA
  go_enter Try.func4, Try.ntmps4
  go_wp2_with fail
  refine (speaks_any w).mono ?_
  rintro e w1 ⟨rfl, hb1⟩
  have X1 : Hid (Below w.heap.size w w1) := hb1
  clear hb1
  obtain ⟨n, hn⟩ : ∃ n, vs.length = n := ⟨_, rfl⟩
  rw [hn] at hA' hc0 hcell ⊢
  have Hn : Hid (vs.length = n) := hn
  clear hn
  go_wp2_with fail
  go_loopw [3, 14] (fun v i wr => ∃ k : Nat, k ≤ n ∧ i = .int .i64 k ∧ wr.ownsRow w.heap.size 5 1 v (ps.take k).flatten.length ((ps.take k).flatten.map bv) ∧ Below w.heap.size w wr ∧ (ps.take k).flatten.length ≤ 200 * k) (fun _ i _ => n - (intOf i).toNat)
  case atStart => exact ⟨0, by omega, rfl, World.ownsRow_nil _ _ _ _, X1.out, by simp⟩
  case round =>
    obtain ⟨k, hk, rfl, hown, hbel, hfl⟩ := hrel
    have XB : Hid (Below w.heap.size w wr) := hbel
    clear hbel
    by_cases hlt : k < n
    · have hkv : k < vs.length := by rw [Hn.out]; exact hlt
      have hkp : k < ps.length := by rw [← HL.out]; exact hkv
      rcases hcell with hz | ⟨b, off, rfl, hcl⟩
      · omega
      have hbk := HP.out.2 k vs[k] ps[k] (List.getElem?_eq_getElem hkv) (List.getElem?_eq_getElem hkp)
      have hck : wr.cell? ⟨b, off + k, none⟩ = some vs[k] := (XB.out.cell (cell_block_lt (hcl k vs[k] (List.getElem?_eq_getElem hkv)))).trans (hcl k vs[k] (List.getElem?_eq_getElem hkv))
      have hbr : Bs wr vs[k] ps[k] := hbk.below XB.out
      have hbr' := hbr
      obtain ⟨_, ao, pc, hv, hp2, hp3, _, _⟩ := hbr
      unfold maxLen at hp3
      rw [hv] at hck hbr'
      have HB : Hid (Bs wr (.slice ao ps[k].length pc) ps[k]) := hbr'
      have hnx : Hid ((ps.take (k + 1)).flatten = (ps.take k).flatten ++ ps[k]) := flat_next hkp
      clear hv hcl hbk hbr'
      generalize ps[k] = p at *
      generalize hF : (ps.take k).flatten = F at *
      clear hF
      by_cases h200 : 200 < p.length
      · go_wp2
        go_ret
        exact ⟨rfl, XB.out⟩
      · go_wp2_with (at_builtin; refine wpList_append_sl _ rfl (.tmp 21) (.tmp 22) 22 rfl w.heap.size 5 i0 (.int .u8 0) 1 1 Try.underlying22 hi hz0 hz1 hz2 rfl (by decide) _ _ _ rfl hown _ _ _ rfl HB.out (bv_oneCell _) (by unfold maxLen; omega) (by omega) XB.out.size ?_; intro v' w' hown' hgrow)
        have hb' : Below w.heap.size w w' := XB.out.grown hgrow XB.out.size (fun q hq => (hown.lt q hq).1)
        go_roundw
        case rel => exact ⟨k + 1, by omega, by go_num, by rw [hnx.out, List.length_append, List.map_append]; exact hown', hb', by rw [hnx.out, List.length_append]; omega⟩
        case measure => simp [intOf]; omega
    · have hF : (ps.take k).flatten = ps.flatten := by rw [List.take_of_length_le (by rw [← HL.out, Hn.out]; omega)]
      rw [hF] at hown hfl
      clear hF
      obtain ⟨L, hL⟩ : ∃ L, ps.flatten = L := ⟨_, rfl⟩
      rw [hL] at hown hfl
      have HLL : Hid (ps.flatten = L) := hL
      clear hL
      have S1 : Bs wr u3 L := owned_sl hown
      clear hown hcell
      have S1' := S1
      obtain ⟨_, a1, c1, rfl, _, _, _, _⟩ := S1
      have HS : Hid (Bs wr (.slice a1 L.length c1) L) := S1'
      clear S1'
      go_wp2_with fail
      refine (new_c _).mono ?_
      rintro e w2 ⟨rfl, hT, hb2, hs2⟩
      have X2 : Hid (Below w.heap.size w w2) := XB.out.trans (hb2.mono XB.out.size)
      have S2 : Hid (Bs w2 (.slice a1 L.length c1) L) := HS.out.below hb2
      clear hs2
      generalize wr.heap.size = g at *
      have T2 : Hid (IsTab w2 g) := hT
      clear hb2 hT XB HS
      go_wp2_with fail
      refine (sum_any g _ vs ps _ T2.out (by rw [Hn.out]; have h := H0.out.below X2.out; rw [Hn.out] at h; exact h) (HP.out.below X2.out)).mono ?_
      rintro e w3 ⟨rfl, rfl⟩
      rw [HLL.out]
      go_wp2_with fail
      refine (sum_one g _ _ _ T2.out S2.out).mono ?_
      rintro e w4 ⟨rfl, hw4⟩
      have X4 : Hid (Below w.heap.size w w4) := by rw [hw4]; exact X2.out.alloc X2.out.size _
      clear hw4
      go_wp2
      go_ret
      exact ⟨by simp, X4.out⟩

end Go.Proofs.Ytjbgfgpclkabjaa
