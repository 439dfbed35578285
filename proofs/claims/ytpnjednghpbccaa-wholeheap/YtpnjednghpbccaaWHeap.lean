/-
  The walk of the statement WholeHeap.
-/
import Derived.Test.YtpnjednghpbccaaWHeapA
namespace Go.Proofs.Ytpnjednghpbccaa
open Go.RowKit
set_option linter.unusedVariables false

theorem Try.infoBytes' : (Try.prog.info? 25).map (fun i => (i.zero, i.size, i.bytes)) = some (some (.slice none 0 0), 1, 24) := by kernel_rfl

set_option maxRecDepth 100000 in
set_option maxHeartbeats 8000000 in
theorem wholeHeap_walk (v0 : Value) (vs : List Value) (ls : List (List UInt8)) (v1 : Value) (ps : List (UInt8 × UInt8)) (w : World) (h0 : Sl 1 w v0 vs.length vs) (hps : Parts w vs ls) (h1 : Pairs w v1 ps) :
    Calls Try.prog 11 #[v0, v1] w fun e w' => e = .returned (.bool true) ∧ Below w.heap.size w w' := by
  obtain ⟨i0, hi, hz0, hz1, hz2⟩ := info_parts Try.infoByte
  obtain ⟨j0, gi, gz0, gz1, gz2⟩ := info_parts Try.infoBytes'
  obtain ⟨t0, ti, tz0, tz1, tz2⟩ := info_parts Try.infoInt
  have H0 : Hid (Sl 1 w v0 vs.length vs) := h0
  have HP : Hid (Parts w vs ls) := hps
  have H1 : Hid (Pairs w v1 ps) := h1
  obtain ⟨-, a0, c0, rfl, hc0, hm0, -, -⟩ := h0
  obtain ⟨-, a1, c1, rfl, hc1, hm1, -, -⟩ := h1
  unfold maxLen at hm0 hm1
  obtain ⟨J, hJ⟩ : ∃ J, vs.length = J := ⟨_, rfl⟩
  have HJ : Hid (vs.length = J) := hJ
  have HL : Hid (ls.length = J) := by have := hps.1; unfold Hid; omega
  rw [hJ] at H0 hc0 ⊢
  clear hps hJ
  have XX : Hid (∀ (Q : Ending → World → Prop), (∀ w1, Below w.heap.size w w1 → True) → True) := fun _ _ => trivial
  clear XX
  by_cases hA : J < 1 ∨ 20 < J ∨ 100 < ps.length
  · have hcase : (J < 1) ∨ (1 ≤ J ∧ 20 < J) ∨ (1 ≤ J ∧ J ≤ 20 ∧ 100 < ps.length) := by omega
    clear hA
    rcases hcase with hA | ⟨hA1, hA2⟩ | ⟨hA1, hA2, hA3⟩
    all_goals
      go_enter Try.func11, Try.ntmps11
      go_wp2_with fail
      refine (xor_top w.heap.size 1 [] [] [3] [1] _ _ ((Blk.lit w _ [3] _ rfl rfl).below (below_alloc _ _)) (by simp) (by simp [maxLen]) (Bs.lit _ _ _ _ _ _ _ (by simp) rfl rfl (by simp)) (off_at (by omega)) rfl _ _ _ rfl rfl (by simp)).mono ?_
      rintro e w2 ⟨rfl, hb2, hg2, hs2⟩
      have X2 : Hid (Below w.heap.size w w2) := below_grown (((Below.refl _ _).alloc (Nat.le_refl _) _).alloc (by simp) _) hg2 (by simp; omega) (Nat.le_refl _)
      have hc2 : w2.cell? ⟨w.heap.size, 0, none⟩ = some (.int .u8 2) := hb2.cell 0 _ rfl
      clear hb2 hg2 hs2
      go_wp2
      go_ret
      exact ⟨rfl, X2.out⟩
  have hJ1 : 1 ≤ J := by omega
  have hJ20 : J ≤ 20 := by omega
  have hP100 : ps.length ≤ 100 := by omega
  clear hA
  obtain ⟨b0, o0, hb0, hcl0⟩ : ∃ b off, a0 = some ⟨b, off, none⟩ ∧ ∀ j u, vs[j]? = some u → w.cell? ⟨b, off + j, none⟩ = some u := by
    obtain ⟨_, a', c', hv, _, _, _, h5⟩ := H0.out
    injection hv with e1 _ _
    subst e1
    rcases h5 with h | ⟨b, off, h, hc⟩
    · omega
    · exact ⟨b, off, h, hc⟩
  subst hb0
  have HCL : Hid (∀ V, Below w.heap.size w V → ∀ j (hj : j < vs.length), V.cell? ⟨b0, o0 + j, none⟩ = some vs[j]) := fun V hV j hj => (hV.cell (cell_block_lt (hcl0 j _ (List.getElem?_eq_getElem hj)))).trans (hcl0 j _ (List.getElem?_eq_getElem hj))
  have HBL : Hid (∀ V, Below w.heap.size w V → ∀ j (hj : j < vs.length) (hj' : j < ls.length), Bs V vs[j] ls[j]) := fun V hV j hj hj' => (HP.out.2 j _ _ (List.getElem?_eq_getElem hj) (List.getElem?_eq_getElem hj')).below hV
  clear hcl0
  have hJv : 0 < vs.length := by rw [HJ.out]; omega
  have hJl : 0 < ls.length := by rw [HL.out]; omega
  go_enter Try.func11, Try.ntmps11
  go_wp2_with fail
  refine (xor_top w.heap.size 1 [] [] [3] [1] _ _ ((Blk.lit w _ [3] _ rfl rfl).below (below_alloc _ _)) (by simp) (by simp [maxLen]) (Bs.lit _ _ _ _ _ _ _ (by simp) rfl rfl (by simp)) (off_at (by omega)) rfl _ _ _ rfl rfl (by simp)).mono ?_
  rintro e w2 ⟨rfl, hb2, hg2, hs2⟩
  have X2 : Hid (Below w.heap.size w w2) := below_grown (((Below.refl _ _).alloc (Nat.le_refl _) _).alloc (by simp) _) hg2 (by simp; omega) (Nat.le_refl _)
  have hc2 : w2.cell? ⟨w.heap.size, 0, none⟩ = some (.int .u8 2) := hb2.cell 0 _ rfl
  clear hb2 hg2 hs2
  have hcf := HCL.out w2 X2.out 0 hJv
  have hbf := HBL.out w2 X2.out 0 hJv hJl
  obtain ⟨-, af, cf, hvf, -, -, -, -⟩ := hbf
  rw [hvf, Nat.add_zero] at hcf
  clear hvf
  have hmn := min2 ls[0].length 40 40 rfl
  obtain ⟨n, hn⟩ : ∃ n, min ls[0].length 40 = n := ⟨_, rfl⟩
  rw [hn] at hmn
  have hn40 : n ≤ 40 := by omega
  clear hn
  generalize ls[0].length = f0 at *
  have hJI : (0 : Int) < (J : Int) := by omega
  go_wp2_with fail
  refine (anew_any (n : Int) (J : Int) w2 (by omega)).mono ?_
  rintro e w3 ⟨rfl, hA3, hb3⟩
  have eS : (max (n : Int) 0).toNat = n := by omega
  rw [eS] at hA3
  have A3 : Hid (IsAr w3 w2.heap.size w2.heap.size ⟨n, J, .slice none 0 0, .slice none 0 0, [], []⟩) := hA3
  have X3 : Hid (Below w2.heap.size w2 w3) := hb3
  clear hA3 hb3 eS hcf hc2 hmn hJv hJl
  obtain ⟨a, ha⟩ : ∃ a, w2.heap.size = a := ⟨_, rfl⟩
  rw [ha] at A3 X3 ⊢
  have Ha : Hid (w2.heap.size = a) := ha
  clear ha
  have XF : Hid (∀ V, Below a w2 V → Below w.heap.size w V) := fun V hV => by
    rw [← Ha.out] at hV
    exact X2.out.trans (hV.mono X2.out.size)
  go_wp2
  go_loopw [8, 9, 59] (fun vo va i wr => ∃ (j : Nat) (s : Ar) (qs : List Nat) (cs : List (List UInt8)), j ≤ J ∧ i = .int .i64 j ∧ cs.length = j ∧ s.most = (J : Int) ∧ HeapSt wr a s n vo va qs cs cs ∧ Below a w2 wr) (fun _ _ i _ => J - (intOf i).toNat)
  case atStart =>
    refine ⟨0, _, [], [], by omega, rfl, rfl, rfl, ⟨A3.out, rfl, rfl, rfl, rfl, rfl, World.ownsRow_nil _ _ _ _, World.ownsRow_nil _ _ _ _, fun i q c h => by simp at h, fun i j q h => by simp at h, fun q h => by simp at h, fun q h => by simp [Value.ownBlock] at h, fun q h => by simp [Value.ownBlock] at h, fun i c h => by simp at h⟩, X3.out⟩
  case round =>
    obtain ⟨j, s, qs, cs, hj, rfl, hlen, hmo, hst, hX⟩ := hrel
    have ST : Hid (HeapSt wr a s n u8 u9 qs cs cs) := hst
    have PL : Hid (cs.length = j ∧ s.most = (J : Int)) := ⟨hlen, hmo⟩
    have XB : Hid (Below a w2 wr) := hX
    clear hst hlen hmo hX
    by_cases hlt : j < J
    · have hjv : j < vs.length := by rw [HJ.out]; exact hlt
      have hjl : j < ls.length := by rw [HL.out]; exact hlt
      have hcj := HCL.out wr (XF.out _ XB.out) j hjv
      have hbj := HBL.out wr (XF.out _ XB.out) j hjv hjl
      have BJ : Hid (Bs wr vs[j] ls[j]) := hbj
      obtain ⟨-, aj, cj, hvj, -, -, -, -⟩ := hbj
      rw [hvj] at hcj BJ
      clear hvj
      generalize ls[j] = lj at *
      go_upto_region 14 with (at_make; refine wpList_make_full _ rfl _ _ 25 rfl wr.heap.size 5 i0 (.int .u8 0) 1 Try.underlying25 hi hz0 hz1 _ _ _ _ n rfl rfl rfl rfl (by rw [hz2]; omega) (by unfold maxLen; omega) (Nat.le_refl _) ?_; intro w4 ho hgrow)
      have B4 : Hid (Blk w4 wr.heap.size [] (zeros n) []) := made_blk ho
      have X4 : Hid (Below wr.heap.size wr w4) := below_new hgrow
      have BJ4 : Hid (Bs w4 (.slice aj lj.length cj) lj) := BJ.out.below X4.out
      clear ho hgrow hcj
      go_upto_region 15 with (refine wpList_copyPad _ rfl (.tmp 65) (.tmp 66) rfl wr.heap.size n n lj _ rfl rfl B4.out BJ4.out wr.heap.size wr X4.out (Nat.le_refl _) ?_; intro w5 m5 hb5 hx5)
      have B5 : Hid (Blk w5 wr.heap.size [] (pad n lj) []) := hb5
      have O5 : Hid (OutSt w5 a (s.own a) n u8 u9 qs cs) := ST.out.out.below hx5
      have A5 : Hid (IsAr w5 a a s) := ST.out.ar.below hx5
      have X5 : Hid (Below a w2 w5) := XB.out.trans (hx5.mono ST.out.ar.B_le)
      have N5 : Hid (¬ s.own a wr.heap.size ∧ ∀ q ∈ qs, q ≠ wr.heap.size) := ⟨fun h => by have := ST.out.ar.own_lt _ h; omega, fun q hq => by have := ST.out.qlt hq; omega⟩
      have G5 : Hid (a ≤ wr.heap.size) := ST.out.ar.B_le
      have S5 : Hid (s.size = n ∧ s.bl.length = j ∧ s.back = [] ∧ ∀ (i : Nat) c, cs[i]? = some c → ∃ q, s.bl[i]? = some ⟨q, c, true⟩) := ⟨ST.out.size, by rw [ST.out.blen]; exact PL.out.1, ST.out.nob, ST.out.same⟩
      clear hb5 hx5 B4 X4 BJ BJ4
      generalize wr.heap.size = qn at *
      go_wp2_with fail
      refine (alloc_yes a a s w5 A5.out (by unfold Ar.live; rw [S5.out.2.1, S5.out.2.2.1, PL.out.2]; simp; omega) (by rw [S5.out.2.1]; omega)).mono ?_
      rintro e w6 ⟨k, s6, rfl, hA6, hk6, how6, hS6⟩
      obtain rfl : k = j := by rw [alloced_new A5.out S5.out.2.2.1 hS6]; exact S5.out.2.1
      obtain ⟨q6, hq6⟩ := hS6.there
      rw [S5.out.1] at hq6
      have A6 : Hid (IsAr w6 a a s6) := hA6
      have O6 : Hid (OutSt w6 a (s6.own a) n u8 u9 qs cs) := O5.out.keep hk6 how6
      have X6 : Hid (Below a w2 w6) := A5.out.step X5.out hk6 A5.out.B_le
      have B6 : Hid (Blk w6 qn [] (pad n lj) [] ∧ ¬ s6.own a qn) := ⟨B5.out.kept (hk6.block qn B5.out.lt N5.out.1), fun h => by rcases how6 qn h with h1 | h1; (exact N5.out.1 h1); (have := B5.out.lt; omega)⟩
      have S6 : Hid (s6.size = n ∧ s6.bl.length = k + 1 ∧ s6.back = [] ∧ s6.most = (J : Int) ∧ s6.bl[k]? = some ⟨q6, zeros n, true⟩ ∧ ∀ (i : Nat) c, cs[i]? = some c → ∃ q, s6.bl[i]? = some ⟨q, c, true⟩) := by
        have hl : s6.bl.length = k + 1 := by rw [hS6.len, if_pos S5.out.2.2.1, S5.out.2.1]
        have hlive : s6.live = ((k + 1 : Nat) : Int) := by rw [hS6.live]; unfold Ar.live; rw [S5.out.2.1, S5.out.2.2.1]; simp
        refine ⟨by rw [hS6.size]; exact S5.out.1, hl, back_nil hA6 (by rw [hl, hlive]), by rw [hS6.most]; exact PL.out.2, hq6, fun i c hc => ?_⟩
        have hic : i < k := by have := (List.getElem?_eq_some_iff.1 hc).1; rw [PL.out.1] at this; exact this
        rw [hS6.others i (by omega)]
        exact S5.out.2.2.2 i c hc
      clear hA6 hk6 how6 hS6 hq6 A5 O5 X5 B5 S5
      go_wp2_with fail
      refine (aput_top a a s6 k _ _ (pad n lj) w6 A6.out S6.out.2.2.2.2.1 rfl (B6.out.1.bs0 n n (pad_length n lj).symm (Nat.le_refl _) (by unfold maxLen; omega)) (off_at (fun e => B6.out.2 (.inr (.inr (.inr ⟨_, List.mem_of_getElem? S6.out.2.2.2.2.1, e.symm⟩))))) (by rw [pad_length, S6.out.1]) _ rfl).mono ?_
      rintro e w7 ⟨rfl, hA7, hg7, hs7⟩
      have e7 : xorL (zeros n) (pad n lj) = pad n lj := by have := xorL_zeros (pad n lj); rw [pad_length] at this; exact this
      have A7 : Hid (IsAr w7 a a (s6.setB k (pad n lj))) := by
        have h := hA7
        simp only [e7] at h
        exact h
      have K7 : KeepsBut (s6.own a) w6 w7 := KeepsBut.ofGrown hg7 (.inr (.inr (.inr ⟨_, List.mem_of_getElem? S6.out.2.2.2.2.1, rfl⟩)))
      have O7 : Hid (OutSt w7 a ((s6.setB k (pad n lj)).own a) n u8 u9 qs cs) := O6.out.keep K7 (fun j hj => .inl (setB_own hj))
      have X7 : Hid (Below a w2 w7) := A6.out.step X6.out K7 A6.out.B_le
      have B7 : Hid (Blk w7 qn [] (pad n lj) [] ∧ ¬ (s6.setB k (pad n lj)).own a qn) := ⟨B6.out.1.kept (K7.block qn B6.out.1.lt B6.out.2), fun h => B6.out.2 (setB_own h)⟩
      have S7 : Hid ((s6.setB k (pad n lj)).size = n ∧ (s6.setB k (pad n lj)).bl.length = k + 1 ∧ (s6.setB k (pad n lj)).back = [] ∧ (s6.setB k (pad n lj)).most = (J : Int) ∧ ∀ (i : Nat) c, (cs ++ [pad n lj])[i]? = some c → ∃ q, (s6.setB k (pad n lj)).bl[i]? = some ⟨q, c, true⟩) := by
        refine ⟨S6.out.1, by rw [setB_len]; exact S6.out.2.1, S6.out.2.2.1, S6.out.2.2.2.1, fun i c hc => ?_⟩
        by_cases hik : i < k
        · rw [List.getElem?_append_left (by rw [PL.out.1]; exact hik)] at hc
          rw [setB_other (by omega)]
          exact S6.out.2.2.2.2.2 i c hc
        · have : i = k := by have := (List.getElem?_eq_some_iff.1 hc).1; simp [PL.out.1] at this; omega
          subst this
          have hc' : c = pad n lj := by rw [← PL.out.1] at hc; simpa using hc.symm
          subst hc'
          exact ⟨q6, setB_same S6.out.2.2.2.2.1⟩
      clear hA7 hg7 hs7 e7 K7 A6 O6 X6 B6 S6
      generalize s6.setB k (pad n lj) = s7 at *
      have R7 : Hid ((w7.alloc (.cells #[.slice (some ⟨qn, 0, none⟩) n n] 25)).ownsRow a 25 1 u8 k (heapRow n qs)) := by have h := O7.out.row.alloc (.cells #[.slice (some ⟨qn, 0, none⟩) n n] 25); rw [PL.out.1] at h; exact h
      have O7' : Hid (OutSt (w7.alloc (.cells #[.slice (some ⟨qn, 0, none⟩) n n] 25)) a (s7.own a) n u8 u9 qs cs) := O7.out.below (below_alloc _ _)
      go_wp2_with (first | (at_builtin; refine wpList_app _ rfl (.tmp 83) (.tmp 85) 22 rfl a 25 j0 (.slice none 0 0) 1 24 Try.underlying22 gi gz0 gz1 gz2 rfl (by decide) _ _ _ rfl R7.out _ 1 _ rfl (alloc_one _ _) (by simp [Value.oneCell']) (by unfold maxLen; omega) (by omega) (by have := A7.out.B_le; simp; omega) ?_; intro a8 c8 w8 hO8 hg8 hat8 hne8 hnc8 hcm8; have N8 : Hid ((w8.alloc (.cells #[.int .i64 (k : Int)] 3)).ownsRow a 3 1 u9 k (upTo k)) := (by have h := (O7'.out.nums_kept hg8).alloc (.cells #[.int .i64 (k : Int)] 3); rw [PL.out.1] at h; exact h); have Z8 : Hid (w7.heap.size + 1 ≤ w8.heap.size) := (by have := hg8.size; simp at this; exact this)) | (at_builtin; refine wpList_app _ rfl (.tmp 87) (.tmp 89) 39 rfl a 3 t0 (.int .i64 0) 1 8 Try.underlying39 ti tz0 tz1 tz2 rfl (by decide) _ _ _ rfl N8.out _ 1 _ rfl (alloc_one _ _) (by simp [Value.oneCell']) (by unfold maxLen; omega) (by omega) (by have := A7.out.B_le; have := Z8.out; simp; omega) ?_; intro a9 c9 w9 hO9 hg9 hat9 hne9 hnc9 hcm9))
      have hg8' : (w7.alloc (.cells #[.slice (some ⟨qn, 0, none⟩) n n] 25)).grownBy w8 u8.ownBlock := hg8
      have hg9' : (w8.alloc (.cells #[.int .i64 (k : Int)] 3)).grownBy w9 u9.ownBlock := hg9
      have hat8' : (Value.slice a8 (k + 1) c8).ownBlock = u8.ownBlock ∨ (Value.slice a8 (k + 1) c8).ownBlock = some (w7.alloc (.cells #[.slice (some ⟨qn, 0, none⟩) n n] 25)).heap.size := hat8
      have hat9' : (Value.slice a9 (k + 1) c9).ownBlock = u9.ownBlock ∨ (Value.slice a9 (k + 1) c9).ownBlock = some (w8.alloc (.cells #[.int .i64 (k : Int)] 3)).heap.size := hat9
      have hO8' : w8.ownsRow a 25 1 (.slice a8 (k + 1) c8) (cs.length + 1) (heapRow n qs ++ [.slice (some ⟨qn, 0, none⟩) n n]) := by rw [PL.out.1]; exact hO8
      have hO9' : w9.ownsRow a 3 1 (.slice a9 (k + 1) c9) (cs.length + 1) (upTo cs.length ++ [.int .i64 (cs.length : Int)]) := by rw [PL.out.1]; exact hO9
      clear hg8 hg9 hat8 hat9 hO8 hO9 hne8 hne9 hnc8 hnc9 hcm8 hcm9
      have hA7 : IsAr (w7.alloc (.cells #[.slice (some ⟨qn, 0, none⟩) n n] 25)) a a s7 := A7.out.below (below_alloc _ _)
      obtain ⟨hO, hkeep⟩ := O7'.out.push (B7.out.1.below (below_alloc _ _)) (pad_length n lj) G5.out B7.out.2 N5.out.2 hA7.own_lt hg8' hO8' hat8' (below_alloc _ _) hg9' hO9' hat9'
      have hA9 : IsAr w9 a a s7 := hA7.kept (fun i hi => hkeep i (hA7.own_lt i hi) hi)
      have hb8 : Below a w2 w8 := (X7.out.trans ((below_alloc _ _).mono A7.out.B_le)).grown hg8' (by have := A7.out.B_le; simp; omega) (fun i hi => (O7'.out.row.lt i hi).1)
      have hb9 : Below a w2 w9 := (hb8.trans ((below_alloc _ _).mono (by have := A7.out.B_le; have := Z8.out; omega))).grown hg9' (by have := A7.out.B_le; have := Z8.out; simp; omega) (fun i hi => (O7'.out.nums.lt i hi).1)
      refine ⟨⟨k + 1, s7, qs ++ [qn], cs ++ [pad n lj], by omega, rfl, by simp [PL.out.1], S7.out.2.2.2.1, ⟨hA9, S7.out.1, by rw [S7.out.2.1]; simp [PL.out.1], S7.out.2.2.1, hO.qlen, rfl, hO.row, hO.nums, hO.blk, hO.apart, hO.offq, hO.offo, hO.offa, S7.out.2.2.2.2⟩, hb9⟩, ?_⟩
      simp only [intOf]
      omega
    · obtain rfl : J = j := by omega
      obtain ⟨qo, co, rfl, -, hco, hcom⟩ := owned_shape (by have h := ST.out.row; rw [PL.out.1] at h; exact h : wr.ownsRow a 25 1 u8 J (heapRow n qs)) (by omega)
      obtain ⟨qa, ca, rfl, -, hca, hcam⟩ := owned_shape (by have h := ST.out.nums; rw [PL.out.1] at h; exact h : wr.ownsRow a 3 1 u9 J (upTo J)) (by omega)
      unfold maxLen at hcom hcam
      go_wp2
      go_loopw [94] (fun i wr => ∃ (t : Nat) (s : Ar) (cs : List (List UInt8)), t ≤ ps.length ∧ i = .int .i64 t ∧ cs.length = J ∧ HeapSt wr a s n (.slice (some ⟨qo, 0, none⟩) J co) (.slice (some ⟨qa, 0, none⟩) J ca) qs cs cs ∧ Below a w2 wr) (fun i _ => ps.length - (intOf i).toNat)
      case atStart => exact ⟨0, s, cs, by omega, rfl, PL.out.1, ST.out, XB.out⟩
      case round =>
        clear ST PL XB
        obtain ⟨t, s, cs, ht, rfl, hlen, hst, hX⟩ := hrel
        have ST : Hid (HeapSt wr a s n (.slice (some ⟨qo, 0, none⟩) J co) (.slice (some ⟨qa, 0, none⟩) J ca) qs cs cs) := hst
        have PL : Hid (cs.length = J) := hlen
        have XB : Hid (Below a w2 wr) := hX
        clear hst hlen hX
        by_cases htl : t < ps.length
        · obtain ⟨b1, o1, rfl, hcl1⟩ : ∃ b off, a1 = some ⟨b, off, none⟩ ∧ ∀ j u, (ps.flatMap pairCells)[j]? = some u → w.cell? ⟨b, off + j, none⟩ = some u := by
            obtain ⟨_, a', c', hv, _, _, _, h5⟩ := H1.out
            injection hv with e1 _ _
            subst e1
            rcases h5 with h | ⟨b, off, h, hc⟩
            · omega
            · exact ⟨b, off, h, hc⟩
          have hbw := XF.out _ XB.out
          have hp0 : wr.cell? ⟨b1, o1 + t * 2, none⟩ = some (bv ps[t].1) := by
            have h := hcl1 (t * 2 + 0) (bv ps[t].1) (by rw [pairs_at ps t htl 0 (by omega)]; rfl)
            rw [Nat.add_zero] at h
            exact (hbw.cell (cell_block_lt h)).trans h
          have hp1 : wr.cell? ⟨b1, o1 + t * 2 + 1, none⟩ = some (bv ps[t].2) := by
            have h := hcl1 (t * 2 + 1) (bv ps[t].2) (by rw [pairs_at ps t htl 1 (by omega)]; rfl)
            rw [← Nat.add_assoc] at h
            exact (hbw.cell (cell_block_lt h)).trans h
          clear hcl1 hbw
          generalize ps[t] = pr at *
          unfold bv at hp0 hp1
          go_upto_region 23 with fail
          obtain ⟨x, hx⟩ : ∃ x, pr.1.toNat = x := ⟨_, rfl⟩
          obtain ⟨y, hy⟩ : ∃ y, pr.2.toNat = y := ⟨_, rfl⟩
          have hx8 : x < 256 := by rw [← hx]; exact pr.1.toNat_lt
          have hy8 : y < 256 := by rw [← hy]; exact pr.2.toNat_lt
          rw [hx, hy]
          clear hp0 hp1 hx hy
          obtain ⟨I, hr1, hIJ⟩ : ∃ I : Nat, (x : Int).tmod (J : Int) = (I : Int) ∧ I < J := ⟨x % J, (Int.ofNat_tmod x J).symm, Nat.mod_lt _ (by omega)⟩
          obtain ⟨K, hr2, hKJ⟩ : ∃ K : Nat, (y : Int).tmod (J : Int) = (K : Int) ∧ K < J := ⟨y % J, (Int.ofNat_tmod y J).symm, Nat.mod_lt _ (by omega)⟩
          have hJ0 : (J : Int) ≠ 0 := by omega
          have ST1 : Hid (HeapSt (wr.alloc (.cells #[.int .u8 (x : Int), .int .u8 (y : Int)] 62)) a s n (.slice (some ⟨qo, 0, none⟩) J co) (.slice (some ⟨qa, 0, none⟩) J ca) qs cs cs) := ST.out.below (below_alloc _ _)
          have XB1 : Hid (Below a w2 (wr.alloc (.cells #[.int .u8 (x : Int), .int .u8 (y : Int)] 62))) := XB.out.trans ((below_alloc _ _).mono ST.out.ar.B_le)
          have hq0 : (wr.alloc (.cells #[.int .u8 (x : Int), .int .u8 (y : Int)] 62)).cell? ⟨wr.heap.size, 0, none⟩ = some (.int .u8 (x : Int)) := by rw [World.cell?_alloc_new]; rfl
          have hq1 : (wr.alloc (.cells #[.int .u8 (x : Int), .int .u8 (y : Int)] 62)).cell? ⟨wr.heap.size, 1, none⟩ = some (.int .u8 (y : Int)) := by rw [World.cell?_alloc_new]; rfl
          clear ST XB
          generalize wr.alloc (.cells #[.int .u8 (x : Int), .int .u8 (y : Int)] 62) = w4 at *
          go_quiet (fail)
          have ST5 : Hid (HeapSt (w4.drewN nq) a s n (.slice (some ⟨qo, 0, none⟩) J co) (.slice (some ⟨qa, 0, none⟩) J ca) qs cs cs) := ST1.out.below (below_drewN (Below.refl _ _) _)
          have XB5 : Hid (Below a w2 (w4.drewN nq)) := below_drewN XB1.out _
          clear ST1 XB1 hq0 hq1 hr1 hr2 hx8 hy8
          generalize w4.drewN nq = w5 at *
          obtain ⟨cI, hcI⟩ : ∃ c, cs[I]? = some c := ⟨_, List.getElem?_eq_getElem (by rw [PL.out]; exact hIJ)⟩
          obtain ⟨cK, hcK⟩ : ∃ c, cs[K]? = some c := ⟨_, List.getElem?_eq_getElem (by rw [PL.out]; exact hKJ)⟩
          obtain ⟨qI, hqI⟩ : ∃ q, qs[I]? = some q := ⟨_, List.getElem?_eq_getElem (by rw [ST5.out.qlen, PL.out]; exact hIJ)⟩
          obtain ⟨qK, hqK⟩ : ∃ q, qs[K]? = some q := ⟨_, List.getElem?_eq_getElem (by rw [ST5.out.qlen, PL.out]; exact hKJ)⟩
          obtain ⟨pI, hpI⟩ := ST5.out.same I cI hcI
          obtain ⟨pK, hpK⟩ := ST5.out.same K cK hcK
          have D : Hid (cs[I]? = some cI ∧ cs[K]? = some cK ∧ qs[I]? = some qI ∧ qs[K]? = some qK ∧ s.bl[I]? = some ⟨pI, cI, true⟩ ∧ s.bl[K]? = some ⟨pK, cK, true⟩) := ⟨hcI, hcK, hqI, hqK, hpI, hpK⟩
          clear hcI hcK hqI hqK hpI hpK
          have CA : Hid (∀ W, KeepsBut (s.own a) w5 W → ∀ i, i < J → W.cell? ⟨qa, i, none⟩ = some (.int .i64 (i : Int))) := fun W hW i hi => ST5.out.numK PL.out hW hi
          by_cases hIK : I = K
          · subst hIK
            have C0 : Hid (∀ W, Below w5.heap.size w5 W → Calls Try.prog 30 #[.pointer (some ⟨a, 0, none⟩), .int .i64 I, .int .i64 I] W fun e w' => ∃ v, e = .returned v ∧ IsV (.bool false) v w' ∧ Below W.heap.size W w') := by
              intro W hW
              refine (onto_no a a s I I W (ST5.out.ar.below hW) (.inl rfl)).mono ?_
              rintro e w' ⟨rfl, h1⟩
              exact ⟨_, rfl, rfl, h1⟩
            go_wp2
            refine wp_region_any (by kernel_rfl) ?_
            obtain ⟨gs, hgs⟩ : ∃ gs : List (Value → World → Prop), gs = [IsV (Value.pointer (some { block := a, off := 0 })), IsV (Value.slice (some { block := qa, off := 0 }) J ca), IsV (Value.int IntKind.i64 ↑I), IsV (.pointer (some ⟨qa, I, none⟩)), IsV (.int .i64 (I : Int)), IsV (Value.slice (some { block := qa, off := 0 }) J ca), IsV (Value.int IntKind.i64 ↑I), IsV (.pointer (some ⟨qa, I, none⟩)), IsV (.int .i64 (I : Int)), IsV (.bool false), IsV (Value.int IntKind.i64 ↑I), IsV (Value.int IntKind.i64 ↑I), IsV (.bool false), IsV (.bool false)] := ⟨_, rfl⟩
            have g0 : Hid (gs[0]? = some (IsV (Value.pointer (some { block := a, off := 0 })))) := by unfold Hid; rw [hgs]; rfl
            have g1 : Hid (gs[1]? = some (IsV (Value.slice (some { block := qa, off := 0 }) J ca))) := by unfold Hid; rw [hgs]; rfl
            have g2 : Hid (gs[2]? = some (IsV (Value.int IntKind.i64 ↑I))) := by unfold Hid; rw [hgs]; rfl
            have g3 : Hid (gs[3]? = some (IsV (.pointer (some ⟨qa, I, none⟩)))) := by unfold Hid; rw [hgs]; rfl
            have g4 : Hid (gs[4]? = some (IsV (.int .i64 (I : Int)))) := by unfold Hid; rw [hgs]; rfl
            have g5 : Hid (gs[5]? = some (IsV (Value.slice (some { block := qa, off := 0 }) J ca))) := by unfold Hid; rw [hgs]; rfl
            have g6 : Hid (gs[6]? = some (IsV (Value.int IntKind.i64 ↑I))) := by unfold Hid; rw [hgs]; rfl
            have g7 : Hid (gs[7]? = some (IsV (.pointer (some ⟨qa, I, none⟩)))) := by unfold Hid; rw [hgs]; rfl
            have g8 : Hid (gs[8]? = some (IsV (.int .i64 (I : Int)))) := by unfold Hid; rw [hgs]; rfl
            have g9 : Hid (gs[9]? = some (IsV (.bool false))) := by unfold Hid; rw [hgs]; rfl
            have g10 : Hid (gs[10]? = some (IsV (Value.int IntKind.i64 ↑I))) := by unfold Hid; rw [hgs]; rfl
            have g11 : Hid (gs[11]? = some (IsV (Value.int IntKind.i64 ↑I))) := by unfold Hid; rw [hgs]; rfl
            have g12 : Hid (gs[12]? = some (IsV (.bool false))) := by unfold Hid; rw [hgs]; rfl
            have g13 : Hid (gs[13]? = some (IsV (.bool false))) := by unfold Hid; rw [hgs]; rfl
            have gk : Hid (∀ p ∈ gs, Stays p) := by
              unfold Hid
              rw [hgs]
              simp only [List.forall_mem_cons]
              exact ⟨stays_v _, stays_v _, stays_v _, stays_v _, stays_v _, stays_v _, stays_v _, stays_v _, stays_v _, stays_v _, stays_v _, stays_v _, stays_v _, stays_v _, by simp⟩
            clear hgs
            refine wpAny_inv (fun listed ac W => ∃ xv : Nat → Value, ac = ⟨#[Value.slice (some { block := b0, off := o0 }) J c0, Value.slice (some { block := b1, off := o1 }) ps.length c1, undef, undef, u4, Value.slice (some { block := w.heap.size, off := 0 }) 1 1, Value.int IntKind.i64 ↑n, Value.pointer (some { block := a, off := 0 }), Value.slice (some { block := qo, off := 0 }) J co, Value.slice (some { block := qa, off := 0 }) J ca, undef, u11, u12, u13, u14, undef, Value.pointer (some { block := wr.heap.size, off := 0 }), Value.int IntKind.i64 ↑I, Value.int IntKind.i64 ↑I, undef, undef, undef, undef, Value.slice (some { block := w.heap.size, off := 0 }) 1 1, Value.slice (some { block := w.heap.size, off := 0 }) 1 1, Value.slice (some { block := w.heap.size + 1, off := 0 }) 1 1, Value.slice (some { block := w.heap.size + 1 + 1, off := 0 }) 1 1, Value.bool true, Value.bool false, Value.bool false, Value.slice (some { block := w.heap.size, off := 0 }) 1 1, Value.pointer (some { block := w.heap.size, off := 0 }), Value.int IntKind.u8 (2 : Int), Value.bool false, Value.bool false, Value.slice (some { block := b0, off := o0 }) J c0, Value.int IntKind.i64 ↑J, Value.bool (decide (↑J < (1 : Int))), Value.bool (decide (↑J < (1 : Int))), Value.slice (some { block := b0, off := o0 }) J c0, Value.int IntKind.i64 ↑J, Value.bool (decide ((20 : Int) < ↑J)), Value.bool (decide (↑J < (1 : Int)) || decide ((20 : Int) < ↑J)), Value.bool (decide (↑J < (1 : Int)) || decide ((20 : Int) < ↑J)), Value.slice (some { block := b1, off := o1 }) ps.length c1, Value.int IntKind.i64 ↑ps.length, Value.bool (decide ((100 : Int) < ↑ps.length)), Value.bool (decide (↑J < (1 : Int)) || decide ((20 : Int) < ↑J) || decide ((100 : Int) < ↑ps.length)), Value.slice (some { block := b0, off := o0 }) J c0, Value.pointer (some { block := b0, off := o0 }), Value.slice af f0 cf, Value.int IntKind.i64 ↑f0, Value.int IntKind.i64 ↑n, Value.int IntKind.i64 ↑n, Value.slice (some { block := b0, off := o0 }) J c0, Value.int IntKind.i64 ↑J, Value.pointer (some { block := a, off := 0 }), Value.slice (some { block := b0, off := o0 }) J c0, Value.int IntKind.i64 ↑J, Value.int IntKind.i64 ↑J, Value.bool false, u61, u62, u63, u64, u65, u66, u67, u68, u69, u70, u71, u72, u73, u74, u75, u76, u77, u78, u79, u80, u81, u82, u83, u84, u85, u86, u87, u88, u89, u90, u91, Value.slice (some { block := b1, off := o1 }) ps.length c1, Value.int IntKind.i64 ↑ps.length, Value.int IntKind.i64 ↑t, Value.bool true, Value.pointer (some { block := b1, off := o1 + t * 2 }), Value.agg #[Value.int IntKind.u8 ↑x, Value.int IntKind.u8 ↑y], Value.pointer (some { block := wr.heap.size, off := 0 }), Value.int IntKind.u8 ↑x, Value.int IntKind.i64 ↑x, Value.slice (some { block := qo, off := 0 }) J co, Value.int IntKind.i64 ↑J, Value.int IntKind.i64 ↑I, Value.pointer (some { block := wr.heap.size, off := 1 }), Value.int IntKind.u8 ↑y, Value.int IntKind.i64 ↑y, Value.slice (some { block := qo, off := 0 }) J co, Value.int IntKind.i64 ↑J, Value.int IntKind.i64 ↑I, xv 0, xv 1, xv 2, xv 3, xv 4, xv 5, xv 6, xv 7, xv 8, xv 9, xv 10, xv 11, xv 12, xv 13, u124, u125, u126, u127, u128, u129, u130, u131, u132, u133, u134, u135, u136, u137, undef, undef, undef, undef, undef, undef, undef, undef, undef, undef, undef, undef, undef, undef, undef, undef, undef, undef, undef, undef, undef, undef, undef, undef, undef, undef, undef, undef, undef, undef, undef, undef, undef, undef, undef, undef, undef, undef, undef, undef, undef, undef, undef, undef, undef, undef, undef, undef, undef, undef, undef, undef], []⟩ ∧ Below w5.heap.size w5 W ∧ Lst gs listed xv W) (by kernel_rfl) ?_ ?_ _ _ _ _ (by kernel_rfl) (of_decide_eq_true (by kernel_rfl)) ⟨fun j => if j = 0 then u110 else if j = 1 then u111 else if j = 2 then u112 else if j = 3 then u113 else if j = 4 then u114 else if j = 5 then u115 else if j = 6 then u116 else if j = 7 then u117 else if j = 8 then u118 else if j = 9 then u119 else if j = 10 then u120 else if j = 11 then u121 else if j = 12 then u122 else if j = 13 then u123 else undef, rfl, below0 _, Lst.start _ _ _ _⟩
            · rintro listed ac W ⟨xv, rfl, hb, hG⟩ i hi hd
              have hin : i < 14 := hi
              clear hi
              have hcase : i = 0 ∨ i = 1 ∨ i = 2 ∨ i = 3 ∨ i = 4 ∨ i = 5 ∨ i = 6 ∨ i = 7 ∨ i = 8 ∨ i = 9 ∨ i = 10 ∨ i = 11 ∨ i = 12 ∨ i = 13 := by omega
              rcases hcase with rfl | rfl | rfl | rfl | rfl | rfl | rfl | rfl | rfl | rfl | rfl | rfl | rfl | rfl
              · refine wpOp_step rfl (fun K' hK => ?_)
                clear hd hin
                go_simp
                exact hK _ _ ⟨updV xv 0 (Value.pointer (some { block := a, off := 0 })), by simp [updV], hb, hG.same gk.out g0.out _ rfl⟩
              · refine wpOp_step rfl (fun K' hK => ?_)
                clear hd hin
                go_simp
                exact hK _ _ ⟨updV xv 1 (Value.slice (some { block := qa, off := 0 }) J ca), by simp [updV], hb, hG.same gk.out g1.out _ rfl⟩
              · refine wpOp_step rfl (fun K' hK => ?_)
                clear hd hin
                go_simp
                exact hK _ _ ⟨updV xv 2 (Value.int IntKind.i64 ↑I), by simp [updV], hb, hG.same gk.out g2.out _ rfl⟩
              · refine wpOp_step rfl (fun K' hK => ?_)
                simp [Region.binds] at hd
                have e1 : xv 1 = Value.slice (some { block := qa, off := 0 }) J ca := hG.get g1.out (by simp [hd])
                have e2 : xv 2 = Value.int IntKind.i64 ↑I := hG.get g2.out (by simp [hd])
                clear hd hin
                go_simp
                exact hK _ _ ⟨updV xv 3 (.pointer (some ⟨qa, I, none⟩)), by simp [updV, e1, e2], hb, hG.same gk.out g3.out _ rfl⟩
              · refine wpOp_step rfl (fun K' hK => ?_)
                simp [Region.binds] at hd
                have e3 : xv 3 = .pointer (some ⟨qa, I, none⟩) := hG.get g3.out (by simp [hd])
                have hc := CA.out W (KeepsBut.ofBelow hb) I hIJ
                clear hd hin
                go_simp
                exact hK _ _ ⟨updV xv 4 (.int .i64 (I : Int)), by simp [updV, e3], hb, hG.same gk.out g4.out _ rfl⟩
              · refine wpOp_step rfl (fun K' hK => ?_)
                clear hd hin
                go_simp
                exact hK _ _ ⟨updV xv 5 (Value.slice (some { block := qa, off := 0 }) J ca), by simp [updV], hb, hG.same gk.out g5.out _ rfl⟩
              · refine wpOp_step rfl (fun K' hK => ?_)
                clear hd hin
                go_simp
                exact hK _ _ ⟨updV xv 6 (Value.int IntKind.i64 ↑I), by simp [updV], hb, hG.same gk.out g6.out _ rfl⟩
              · refine wpOp_step rfl (fun K' hK => ?_)
                simp [Region.binds] at hd
                have e5 : xv 5 = Value.slice (some { block := qa, off := 0 }) J ca := hG.get g5.out (by simp [hd])
                have e6 : xv 6 = Value.int IntKind.i64 ↑I := hG.get g6.out (by simp [hd])
                clear hd hin
                go_simp
                exact hK _ _ ⟨updV xv 7 (.pointer (some ⟨qa, I, none⟩)), by simp [updV, e5, e6], hb, hG.same gk.out g7.out _ rfl⟩
              · refine wpOp_step rfl (fun K' hK => ?_)
                simp [Region.binds] at hd
                have e7 : xv 7 = .pointer (some ⟨qa, I, none⟩) := hG.get g7.out (by simp [hd])
                have hc := CA.out W (KeepsBut.ofBelow hb) I hIJ
                clear hd hin
                go_simp
                exact hK _ _ ⟨updV xv 8 (.int .i64 (I : Int)), by simp [updV, e7], hb, hG.same gk.out g8.out _ rfl⟩
              · refine wpOp_step rfl (fun K' hK => ?_)
                simp [Region.binds] at hd
                have e0 : xv 0 = Value.pointer (some { block := a, off := 0 }) := hG.get g0.out (by simp [hd])
                have e4 : xv 4 = .int .i64 (I : Int) := hG.get g4.out (by simp [hd])
                have e8 : xv 8 = .int .i64 (I : Int) := hG.get g8.out (by simp [hd])
                clear hd hin
                go_simp
                refine (C0.out W hb).mono ?_
                rintro e w' ⟨v, rfl, hv, hb'⟩
                go_wp2_with fail
                exact ⟨updV xv 9 v, by simp [updV, e0, e4, e8], hb.trans (hb'.mono hb.size), hG.step gk.out hb' g9.out v hv⟩
              · refine wpOp_step rfl (fun K' hK => ?_)
                clear hd hin
                go_simp
                exact hK _ _ ⟨updV xv 10 (Value.int IntKind.i64 ↑I), by simp [updV], hb, hG.same gk.out g10.out _ rfl⟩
              · refine wpOp_step rfl (fun K' hK => ?_)
                clear hd hin
                go_simp
                exact hK _ _ ⟨updV xv 11 (Value.int IntKind.i64 ↑I), by simp [updV], hb, hG.same gk.out g11.out _ rfl⟩
              · refine wpOp_step rfl (fun K' hK => ?_)
                simp [Region.binds] at hd
                have e10 : xv 10 = Value.int IntKind.i64 ↑I := hG.get g10.out (by simp [hd])
                have e11 : xv 11 = Value.int IntKind.i64 ↑I := hG.get g11.out (by simp [hd])
                clear hd hin
                go_simp
                exact hK _ _ ⟨updV xv 12 (.bool false), by simp [updV, e10, e11], hb, hG.same gk.out g12.out _ rfl⟩
              · refine wpOp_step rfl (fun K' hK => ?_)
                simp [Region.binds] at hd
                have e9 : xv 9 = .bool false := hG.get g9.out (by simp [hd])
                have e12 : xv 12 = .bool false := hG.get g12.out (by simp [hd])
                clear hd hin
                go_simp
                exact hK _ _ ⟨updV xv 13 (.bool false), by simp [updV, e9, e12], hb, hG.same gk.out g13.out _ rfl⟩
            · rintro listed ac W ⟨xv, rfl, hb, hG⟩ hall
              have e13 : xv 13 = .bool false := hG.get g13.out (hall 13 (by decide))
              have XW : Hid (Below w5.heap.size w5 W) := hb
              clear hall hG hb gk g0 g1 g2 g3 g4 g5 g6 g7 g8 g9 g10 g11 g12 g13
              rw [e13]
              clear e13
              have ST6 : Hid (HeapSt W a s n (.slice (some ⟨qo, 0, none⟩) J co) (.slice (some ⟨qa, 0, none⟩) J ca) qs cs cs) := ST5.out.below XW.out
              have XB6 : Hid (Below a w2 W) := XB5.out.trans (XW.out.mono ST5.out.ar.B_le)
              go_wp2
              go_roundw
              case rel => exact ⟨t + 1, s, cs, by omega, by go_num, PL.out, ST6.out, XB6.out⟩
              case measure => simp [intOf]; omega
          · have hIKI : ((I : Int) == (K : Int)) = false := by simp; omega
            have hIKn : ¬ ((I : Int) = (K : Int)) := by omega
            have hlI : cI.length = n := (ST5.out.blk I qI cI D.out.2.2.1 D.out.1).2.1
            have hlK : cK.length = n := (ST5.out.blk K qK cK D.out.2.2.2.1 D.out.2.1).2.1
            have LN : Hid (cI.length = n ∧ cK.length = n ∧ (xorL cI cK).length = n) := ⟨hlI, hlK, by rw [xorL_length (by rw [hlI, hlK]), hlI]⟩
            clear hlI hlK
            have C1 : Hid (∀ W, KeepsBut (s.own a) w5 W → IsAr W a a s → Calls Try.prog 30 #[.pointer (some ⟨a, 0, none⟩), .int .i64 I, .int .i64 K] W fun e w' => ∃ v, e = .returned v ∧ IsV (.bool true) v w' ∧ KeepsBut (s.own a) W w' ∧ IsAr w' a a (s.setB I (xorL cI cK))) := by
              intro W hW hA
              refine (onto_yes a a s I K _ _ W hA hIK D.out.2.2.2.2.1 rfl D.out.2.2.2.2.2 rfl).mono ?_
              rintro e w' ⟨rfl, h1, h2, -⟩
              exact ⟨_, rfl, rfl, KeepsBut.ofGrown h2 (.inr (.inr (.inr ⟨_, List.mem_of_getElem? D.out.2.2.2.2.1, rfl⟩))), h1⟩
            go_wp2
            refine wp_region_any (by kernel_rfl) ?_
            obtain ⟨gs, hgs⟩ : ∃ gs : List (Value → World → Prop), gs = [IsV (Value.pointer (some { block := a, off := 0 })), IsV (Value.slice (some { block := qa, off := 0 }) J ca), IsV (Value.int IntKind.i64 ↑I), IsV (.pointer (some ⟨qa, I, none⟩)), IsV (.int .i64 (I : Int)), IsV (Value.slice (some { block := qa, off := 0 }) J ca), IsV (Value.int IntKind.i64 ↑K), IsV (.pointer (some ⟨qa, K, none⟩)), IsV (.int .i64 (K : Int)), IsV (.bool true), IsV (Value.int IntKind.i64 ↑I), IsV (Value.int IntKind.i64 ↑K), IsV (.bool true), IsV (.bool false)] := ⟨_, rfl⟩
            have g0 : Hid (gs[0]? = some (IsV (Value.pointer (some { block := a, off := 0 })))) := by unfold Hid; rw [hgs]; rfl
            have g1 : Hid (gs[1]? = some (IsV (Value.slice (some { block := qa, off := 0 }) J ca))) := by unfold Hid; rw [hgs]; rfl
            have g2 : Hid (gs[2]? = some (IsV (Value.int IntKind.i64 ↑I))) := by unfold Hid; rw [hgs]; rfl
            have g3 : Hid (gs[3]? = some (IsV (.pointer (some ⟨qa, I, none⟩)))) := by unfold Hid; rw [hgs]; rfl
            have g4 : Hid (gs[4]? = some (IsV (.int .i64 (I : Int)))) := by unfold Hid; rw [hgs]; rfl
            have g5 : Hid (gs[5]? = some (IsV (Value.slice (some { block := qa, off := 0 }) J ca))) := by unfold Hid; rw [hgs]; rfl
            have g6 : Hid (gs[6]? = some (IsV (Value.int IntKind.i64 ↑K))) := by unfold Hid; rw [hgs]; rfl
            have g7 : Hid (gs[7]? = some (IsV (.pointer (some ⟨qa, K, none⟩)))) := by unfold Hid; rw [hgs]; rfl
            have g8 : Hid (gs[8]? = some (IsV (.int .i64 (K : Int)))) := by unfold Hid; rw [hgs]; rfl
            have g9 : Hid (gs[9]? = some (IsV (.bool true))) := by unfold Hid; rw [hgs]; rfl
            have g10 : Hid (gs[10]? = some (IsV (Value.int IntKind.i64 ↑I))) := by unfold Hid; rw [hgs]; rfl
            have g11 : Hid (gs[11]? = some (IsV (Value.int IntKind.i64 ↑K))) := by unfold Hid; rw [hgs]; rfl
            have g12 : Hid (gs[12]? = some (IsV (.bool true))) := by unfold Hid; rw [hgs]; rfl
            have g13 : Hid (gs[13]? = some (IsV (.bool false))) := by unfold Hid; rw [hgs]; rfl
            have gk : Hid (∀ p ∈ gs, StaysS (s.own a) p) := by
              unfold Hid
              rw [hgs]
              simp only [List.forall_mem_cons]
              exact ⟨staysS_v _ _, staysS_v _ _, staysS_v _ _, staysS_v _ _, staysS_v _ _, staysS_v _ _, staysS_v _ _, staysS_v _ _, staysS_v _ _, staysS_v _ _, staysS_v _ _, staysS_v _ _, staysS_v _ _, staysS_v _ _, by simp⟩
            clear hgs
            obtain ⟨phs, hphs⟩ : ∃ phs : List (World → Prop), phs = [fun W => IsAr W a a s, fun W => IsAr W a a (s.setB I (xorL cI cK))] := ⟨_, rfl⟩
            have k0 : Hid (phs[0]? = some (fun W => IsAr W a a s)) := by unfold Hid; rw [hphs]; rfl
            have k1 : Hid (phs[1]? = some (fun W => IsAr W a a (s.setB I (xorL cI cK)))) := by unfold Hid; rw [hphs]; rfl
            have kk : Hid (∀ p ∈ phs, ∀ W W', Below W.heap.size W W' → p W → p W') := by
              unfold Hid
              rw [hphs]
              simp only [List.forall_mem_cons]
              exact ⟨fun W W' hb h => h.below hb, fun W W' hb h => h.below hb, by simp⟩
            clear hphs
            refine wpAny_inv3 (fun listed ac W => ∃ xv : Nat → Value, ac = ⟨#[Value.slice (some { block := b0, off := o0 }) J c0, Value.slice (some { block := b1, off := o1 }) ps.length c1, undef, undef, u4, Value.slice (some { block := w.heap.size, off := 0 }) 1 1, Value.int IntKind.i64 ↑n, Value.pointer (some { block := a, off := 0 }), Value.slice (some { block := qo, off := 0 }) J co, Value.slice (some { block := qa, off := 0 }) J ca, undef, u11, u12, u13, u14, undef, Value.pointer (some { block := wr.heap.size, off := 0 }), Value.int IntKind.i64 ↑I, Value.int IntKind.i64 ↑K, undef, undef, undef, undef, Value.slice (some { block := w.heap.size, off := 0 }) 1 1, Value.slice (some { block := w.heap.size, off := 0 }) 1 1, Value.slice (some { block := w.heap.size + 1, off := 0 }) 1 1, Value.slice (some { block := w.heap.size + 1 + 1, off := 0 }) 1 1, Value.bool true, Value.bool false, Value.bool false, Value.slice (some { block := w.heap.size, off := 0 }) 1 1, Value.pointer (some { block := w.heap.size, off := 0 }), Value.int IntKind.u8 (2 : Int), Value.bool false, Value.bool false, Value.slice (some { block := b0, off := o0 }) J c0, Value.int IntKind.i64 ↑J, Value.bool (decide (↑J < (1 : Int))), Value.bool (decide (↑J < (1 : Int))), Value.slice (some { block := b0, off := o0 }) J c0, Value.int IntKind.i64 ↑J, Value.bool (decide ((20 : Int) < ↑J)), Value.bool (decide (↑J < (1 : Int)) || decide ((20 : Int) < ↑J)), Value.bool (decide (↑J < (1 : Int)) || decide ((20 : Int) < ↑J)), Value.slice (some { block := b1, off := o1 }) ps.length c1, Value.int IntKind.i64 ↑ps.length, Value.bool (decide ((100 : Int) < ↑ps.length)), Value.bool (decide (↑J < (1 : Int)) || decide ((20 : Int) < ↑J) || decide ((100 : Int) < ↑ps.length)), Value.slice (some { block := b0, off := o0 }) J c0, Value.pointer (some { block := b0, off := o0 }), Value.slice af f0 cf, Value.int IntKind.i64 ↑f0, Value.int IntKind.i64 ↑n, Value.int IntKind.i64 ↑n, Value.slice (some { block := b0, off := o0 }) J c0, Value.int IntKind.i64 ↑J, Value.pointer (some { block := a, off := 0 }), Value.slice (some { block := b0, off := o0 }) J c0, Value.int IntKind.i64 ↑J, Value.int IntKind.i64 ↑J, Value.bool false, u61, u62, u63, u64, u65, u66, u67, u68, u69, u70, u71, u72, u73, u74, u75, u76, u77, u78, u79, u80, u81, u82, u83, u84, u85, u86, u87, u88, u89, u90, u91, Value.slice (some { block := b1, off := o1 }) ps.length c1, Value.int IntKind.i64 ↑ps.length, Value.int IntKind.i64 ↑t, Value.bool true, Value.pointer (some { block := b1, off := o1 + t * 2 }), Value.agg #[Value.int IntKind.u8 ↑x, Value.int IntKind.u8 ↑y], Value.pointer (some { block := wr.heap.size, off := 0 }), Value.int IntKind.u8 ↑x, Value.int IntKind.i64 ↑x, Value.slice (some { block := qo, off := 0 }) J co, Value.int IntKind.i64 ↑J, Value.int IntKind.i64 ↑I, Value.pointer (some { block := wr.heap.size, off := 1 }), Value.int IntKind.u8 ↑y, Value.int IntKind.i64 ↑y, Value.slice (some { block := qo, off := 0 }) J co, Value.int IntKind.i64 ↑J, Value.int IntKind.i64 ↑K, xv 0, xv 1, xv 2, xv 3, xv 4, xv 5, xv 6, xv 7, xv 8, xv 9, xv 10, xv 11, xv 12, xv 13, u124, u125, u126, u127, u128, u129, u130, u131, u132, u133, u134, u135, u136, u137, undef, undef, undef, undef, undef, undef, undef, undef, undef, undef, undef, undef, undef, undef, undef, undef, undef, undef, undef, undef, undef, undef, undef, undef, undef, undef, undef, undef, undef, undef, undef, undef, undef, undef, undef, undef, undef, undef, undef, undef, undef, undef, undef, undef, undef, undef, undef, undef, undef, undef, undef, undef], []⟩ ∧ KeepsBut (s.own a) w5 W ∧ Lst gs listed xv W ∧ Ph [9] phs listed W) (by kernel_rfl) ?_ ?_ _ _ _ _ (by kernel_rfl) (of_decide_eq_true (by kernel_rfl)) (Down.start _) ⟨fun j => if j = 0 then u110 else if j = 1 then u111 else if j = 2 then u112 else if j = 3 then u113 else if j = 4 then u114 else if j = 5 then u115 else if j = 6 then u116 else if j = 7 then u117 else if j = 8 then u118 else if j = 9 then u119 else if j = 10 then u120 else if j = 11 then u121 else if j = 12 then u122 else if j = 13 then u123 else undef, rfl, KeepsBut.drew _ _, Lst.start _ _ _ _, ?_⟩
            rotate_left 2
            · intro k p hk h1 h2; cases k with | zero => (rw [k0.out] at hk; obtain rfl := Option.some.inj hk; exact ST5.out.ar.below (below0 _)) | succ k => (obtain ⟨c, hc, hl⟩ := h1 (by omega); exact absurd hl (by rw [Array.getD_eq_getD_getElem?, Array.getElem?_replicate]; split <;> simp))
            · rintro listed ac W ⟨xv, rfl, hb, hG, hH⟩ hD i hi hnl hd
              have hin : i < 14 := hi
              clear hi
              have hcase : i = 0 ∨ i = 1 ∨ i = 2 ∨ i = 3 ∨ i = 4 ∨ i = 5 ∨ i = 6 ∨ i = 7 ∨ i = 8 ∨ i = 9 ∨ i = 10 ∨ i = 11 ∨ i = 12 ∨ i = 13 := by omega
              rcases hcase with rfl | rfl | rfl | rfl | rfl | rfl | rfl | rfl | rfl | rfl | rfl | rfl | rfl | rfl
              · refine wpOp_step rfl (fun K' hK => ?_)
                have hO : ∀ w', Below W.heap.size W w' → Ph [9] phs (listed.setIfInBounds 0 true) w' := fun w' hb' => hH.other (by simp) (fun p hp => kk.out p hp W w' hb')
                clear hd hin hnl hD hH
                go_simp
                exact hK _ _ ⟨updV xv 0 (Value.pointer (some { block := a, off := 0 })), by simp [updV], hb, hG.stepS gk.out (KeepsBut.refl _ _) g0.out _ rfl, hO _ (Below.refl _ _)⟩
              · refine wpOp_step rfl (fun K' hK => ?_)
                have hO : ∀ w', Below W.heap.size W w' → Ph [9] phs (listed.setIfInBounds 1 true) w' := fun w' hb' => hH.other (by simp) (fun p hp => kk.out p hp W w' hb')
                clear hd hin hnl hD hH
                go_simp
                exact hK _ _ ⟨updV xv 1 (Value.slice (some { block := qa, off := 0 }) J ca), by simp [updV], hb, hG.stepS gk.out (KeepsBut.refl _ _) g1.out _ rfl, hO _ (Below.refl _ _)⟩
              · refine wpOp_step rfl (fun K' hK => ?_)
                have hO : ∀ w', Below W.heap.size W w' → Ph [9] phs (listed.setIfInBounds 2 true) w' := fun w' hb' => hH.other (by simp) (fun p hp => kk.out p hp W w' hb')
                clear hd hin hnl hD hH
                go_simp
                exact hK _ _ ⟨updV xv 2 (Value.int IntKind.i64 ↑I), by simp [updV], hb, hG.stepS gk.out (KeepsBut.refl _ _) g2.out _ rfl, hO _ (Below.refl _ _)⟩
              · refine wpOp_step rfl (fun K' hK => ?_)
                simp [Region.binds] at hd
                have e1 : xv 1 = Value.slice (some { block := qa, off := 0 }) J ca := hG.get g1.out (by simp [hd])
                have e2 : xv 2 = Value.int IntKind.i64 ↑I := hG.get g2.out (by simp [hd])
                have hO : ∀ w', Below W.heap.size W w' → Ph [9] phs (listed.setIfInBounds 3 true) w' := fun w' hb' => hH.other (by simp) (fun p hp => kk.out p hp W w' hb')
                clear hd hin hnl hD hH
                go_simp
                exact hK _ _ ⟨updV xv 3 (.pointer (some ⟨qa, I, none⟩)), by simp [updV, e1, e2], hb, hG.stepS gk.out (KeepsBut.refl _ _) g3.out _ rfl, hO _ (Below.refl _ _)⟩
              · refine wpOp_step rfl (fun K' hK => ?_)
                simp [Region.binds] at hd
                have e3 : xv 3 = .pointer (some ⟨qa, I, none⟩) := hG.get g3.out (by simp [hd])
                have hc := CA.out W hb I hIJ
                have hO : ∀ w', Below W.heap.size W w' → Ph [9] phs (listed.setIfInBounds 4 true) w' := fun w' hb' => hH.other (by simp) (fun p hp => kk.out p hp W w' hb')
                clear hd hin hnl hD hH
                go_simp
                exact hK _ _ ⟨updV xv 4 (.int .i64 (I : Int)), by simp [updV, e3], hb, hG.stepS gk.out (KeepsBut.refl _ _) g4.out _ rfl, hO _ (Below.refl _ _)⟩
              · refine wpOp_step rfl (fun K' hK => ?_)
                have hO : ∀ w', Below W.heap.size W w' → Ph [9] phs (listed.setIfInBounds 5 true) w' := fun w' hb' => hH.other (by simp) (fun p hp => kk.out p hp W w' hb')
                clear hd hin hnl hD hH
                go_simp
                exact hK _ _ ⟨updV xv 5 (Value.slice (some { block := qa, off := 0 }) J ca), by simp [updV], hb, hG.stepS gk.out (KeepsBut.refl _ _) g5.out _ rfl, hO _ (Below.refl _ _)⟩
              · refine wpOp_step rfl (fun K' hK => ?_)
                have hO : ∀ w', Below W.heap.size W w' → Ph [9] phs (listed.setIfInBounds 6 true) w' := fun w' hb' => hH.other (by simp) (fun p hp => kk.out p hp W w' hb')
                clear hd hin hnl hD hH
                go_simp
                exact hK _ _ ⟨updV xv 6 (Value.int IntKind.i64 ↑K), by simp [updV], hb, hG.stepS gk.out (KeepsBut.refl _ _) g6.out _ rfl, hO _ (Below.refl _ _)⟩
              · refine wpOp_step rfl (fun K' hK => ?_)
                simp [Region.binds] at hd
                have e5 : xv 5 = Value.slice (some { block := qa, off := 0 }) J ca := hG.get g5.out (by simp [hd])
                have e6 : xv 6 = Value.int IntKind.i64 ↑K := hG.get g6.out (by simp [hd])
                have hO : ∀ w', Below W.heap.size W w' → Ph [9] phs (listed.setIfInBounds 7 true) w' := fun w' hb' => hH.other (by simp) (fun p hp => kk.out p hp W w' hb')
                clear hd hin hnl hD hH
                go_simp
                exact hK _ _ ⟨updV xv 7 (.pointer (some ⟨qa, K, none⟩)), by simp [updV, e5, e6], hb, hG.stepS gk.out (KeepsBut.refl _ _) g7.out _ rfl, hO _ (Below.refl _ _)⟩
              · refine wpOp_step rfl (fun K' hK => ?_)
                simp [Region.binds] at hd
                have e7 : xv 7 = .pointer (some ⟨qa, K, none⟩) := hG.get g7.out (by simp [hd])
                have hc := CA.out W hb K hKJ
                have hO : ∀ w', Below W.heap.size W w' → Ph [9] phs (listed.setIfInBounds 8 true) w' := fun w' hb' => hH.other (by simp) (fun p hp => kk.out p hp W w' hb')
                clear hd hin hnl hD hH
                go_simp
                exact hK _ _ ⟨updV xv 8 (.int .i64 (K : Int)), by simp [updV, e7], hb, hG.stepS gk.out (KeepsBut.refl _ _) g8.out _ rfl, hO _ (Below.refl _ _)⟩
              · refine wpOp_step rfl (fun K' hK => ?_)
                simp [Region.binds] at hd
                have e0 : xv 0 = Value.pointer (some { block := a, off := 0 }) := hG.get g0.out (by simp [hd])
                have e4 : xv 4 = .int .i64 (I : Int) := hG.get g4.out (by simp [hd])
                have e8 : xv 8 = .int .i64 (K : Int) := hG.get g8.out (by simp [hd])
                have hph : (fun W => IsAr W a a s) W := hH 0 _ k0.out (fun h => absurd rfl h) (fun c hc => by simp at hc; subst hc; exact getD_false hnl)
                have hW : ∀ w', (fun W => IsAr W a a (s.setB I (xorL cI cK))) w' → Ph [9] phs (listed.setIfInBounds 9 true) w' := fun w' hp => Ph.write 0 9 rfl hnl (by intro j h; (rcases j with _ | _ | _ | j) <;> simp at h ⊢) (by intro j c' hj h; (rcases j with _ | _ | _ | j) <;> simp at h hj) (by intro j c' hj h; (rcases j with _ | _ | _ | j) <;> simp at h hj) (fun p hp' => by rw [k1.out] at hp'; obtain rfl := Option.some.inj hp'; exact hp)
                clear hd hin hnl hD hH
                go_simp
                refine (C1.out W hb hph).mono ?_
                rintro e w' ⟨v, rfl, hv, hb', hp'⟩
                go_wp2_with fail
                exact ⟨updV xv 9 v, by simp [updV, e0, e4, e8], hb.trans hb', hG.stepS gk.out hb' g9.out v hv, hW _ hp'⟩
              · refine wpOp_step rfl (fun K' hK => ?_)
                have hO : ∀ w', Below W.heap.size W w' → Ph [9] phs (listed.setIfInBounds 10 true) w' := fun w' hb' => hH.other (by simp) (fun p hp => kk.out p hp W w' hb')
                clear hd hin hnl hD hH
                go_simp
                exact hK _ _ ⟨updV xv 10 (Value.int IntKind.i64 ↑I), by simp [updV], hb, hG.stepS gk.out (KeepsBut.refl _ _) g10.out _ rfl, hO _ (Below.refl _ _)⟩
              · refine wpOp_step rfl (fun K' hK => ?_)
                have hO : ∀ w', Below W.heap.size W w' → Ph [9] phs (listed.setIfInBounds 11 true) w' := fun w' hb' => hH.other (by simp) (fun p hp => kk.out p hp W w' hb')
                clear hd hin hnl hD hH
                go_simp
                exact hK _ _ ⟨updV xv 11 (Value.int IntKind.i64 ↑K), by simp [updV], hb, hG.stepS gk.out (KeepsBut.refl _ _) g11.out _ rfl, hO _ (Below.refl _ _)⟩
              · refine wpOp_step rfl (fun K' hK => ?_)
                simp [Region.binds] at hd
                have e10 : xv 10 = Value.int IntKind.i64 ↑I := hG.get g10.out (by simp [hd])
                have e11 : xv 11 = Value.int IntKind.i64 ↑K := hG.get g11.out (by simp [hd])
                have hO : ∀ w', Below W.heap.size W w' → Ph [9] phs (listed.setIfInBounds 12 true) w' := fun w' hb' => hH.other (by simp) (fun p hp => kk.out p hp W w' hb')
                clear hd hin hnl hD hH
                go_simp
                exact hK _ _ ⟨updV xv 12 (.bool true), by simp [updV, e10, e11, hIKn], hb, hG.stepS gk.out (KeepsBut.refl _ _) g12.out _ rfl, hO _ (Below.refl _ _)⟩
              · refine wpOp_step rfl (fun K' hK => ?_)
                simp [Region.binds] at hd
                have e9 : xv 9 = .bool true := hG.get g9.out (by simp [hd])
                have e12 : xv 12 = .bool true := hG.get g12.out (by simp [hd])
                have hO : ∀ w', Below W.heap.size W w' → Ph [9] phs (listed.setIfInBounds 13 true) w' := fun w' hb' => hH.other (by simp) (fun p hp => kk.out p hp W w' hb')
                clear hd hin hnl hD hH
                go_simp
                exact hK _ _ ⟨updV xv 13 (.bool false), by simp [updV, e9, e12], hb, hG.stepS gk.out (KeepsBut.refl _ _) g13.out _ rfl, hO _ (Below.refl _ _)⟩
            · rintro listed ac W ⟨xv, rfl, hb, hG, hH⟩ hall
              have e13 : xv 13 = .bool false := hG.get g13.out (hall 13 (by decide))
              have XW : Hid (KeepsBut (s.own a) w5 W) := hb
              have HW : Hid ((fun W => IsAr W a a (s.setB I (xorL cI cK))) W) := hH 1 _ k1.out (fun _ => ⟨9, rfl, hall 9 (by decide)⟩) (fun c hc => by simp at hc)
              clear hall hG hb hH gk kk g0 g1 g2 g3 g4 g5 g6 g7 g8 g9 g10 g11 g12 g13 k0 k1
              rw [e13]
              clear e13
              have ST6 : Hid (HeapSt W a (s.setB I (xorL cI cK)) n (.slice (some ⟨qo, 0, none⟩) J co) (.slice (some ⟨qa, 0, none⟩) J ca) qs cs (cs.set I (xorL cI cK))) := ST5.out.onto HW.out XW.out
              have XB6 : Hid (Below a w2 W) := ST5.out.ar.step XB5.out XW.out ST5.out.ar.B_le
              have N6 : Hid (qo ≠ qI ∧ qo < W.heap.size ∧ qK ≠ qI ∧ qI < W.heap.size ∧ a ≤ qI) := ⟨ST6.out.rowNe.1 qI (List.mem_of_getElem? D.out.2.2.1), ST6.out.rowNe.2, fun e => hIK (ST6.out.apart I K qI D.out.2.2.1 (by rw [← e]; exact D.out.2.2.2.1)), (ST6.out.blk I qI cI D.out.2.2.1 D.out.1).1.lt, (ST6.out.blk I qI cI D.out.2.2.1 D.out.1).2.2⟩
              have CO : Hid (∀ V, KeepsBut (fun k => k = qI) W V → ∀ i q, qs[i]? = some q → V.cell? ⟨qo, i, none⟩ = some (.slice (some ⟨q, 0, none⟩) n n)) := fun V hV i q hi => ST6.out.rowK PL.out (hV.block qo N6.out.2.1 N6.out.1) hi
              have XC : Hid (∀ V v, KeepsBut (fun k => k = qI) W V → Blk V qI [] cI [] ∧ Blk V qK [] cK [] → IsOneS (fun k => k = qI) (.slice (some ⟨qK, 0, none⟩) n n) v V → Calls Try.prog 19 #[.slice (some ⟨qI, 0, none⟩) n n, v] V fun e w' => ∃ u, e = .returned u ∧ IsV (.bool true) u w' ∧ KeepsBut (fun k => k = qI) V w' ∧ Blk w' qI [] (xorL cI cK) []) := by
                intro V v hV hP hv
                obtain ⟨p, rfl, hpq, hcell⟩ := hv
                refine (xor_one qI n p [] [] cI cK _ V hP.1 (by rw [LN.out.1]; exact Nat.le_refl _) (by unfold maxLen; omega) hcell (hP.2.bs0 n n LN.out.2.1.symm (Nat.le_refl _) (by unfold maxLen; omega)) hpq (off_at N6.out.2.2.1) (by rw [LN.out.1, LN.out.2.1]) n 0 LN.out.1.symm rfl).mono ?_
                rintro e w' ⟨rfl, h1, h2, -⟩
                exact ⟨_, rfl, rfl, KeepsBut.ofGrown h2 rfl, h1⟩
              clear C1
              go_wp2
              refine wp_region_any (by kernel_rfl) ?_
              obtain ⟨gs, hgs⟩ : ∃ gs : List (Value → World → Prop), gs = [IsV (Value.slice (some { block := qo, off := 0 }) J co), IsV (Value.int IntKind.i64 ↑I), IsV (.pointer (some ⟨qo, I, none⟩)), IsV (.slice (some ⟨qI, 0, none⟩) n n), IsV (Value.slice (some { block := qo, off := 0 }) J co), IsV (Value.int IntKind.i64 ↑K), IsV (.pointer (some ⟨qo, K, none⟩)), IsV (.slice (some ⟨qK, 0, none⟩) n n), IsOneS (fun k => k = qI) (.slice (some ⟨qK, 0, none⟩) n n), IsV (.bool true)] := ⟨_, rfl⟩
              have g0 : Hid (gs[0]? = some (IsV (Value.slice (some { block := qo, off := 0 }) J co))) := by unfold Hid; rw [hgs]; rfl
              have g1 : Hid (gs[1]? = some (IsV (Value.int IntKind.i64 ↑I))) := by unfold Hid; rw [hgs]; rfl
              have g2 : Hid (gs[2]? = some (IsV (.pointer (some ⟨qo, I, none⟩)))) := by unfold Hid; rw [hgs]; rfl
              have g3 : Hid (gs[3]? = some (IsV (.slice (some ⟨qI, 0, none⟩) n n))) := by unfold Hid; rw [hgs]; rfl
              have g4 : Hid (gs[4]? = some (IsV (Value.slice (some { block := qo, off := 0 }) J co))) := by unfold Hid; rw [hgs]; rfl
              have g5 : Hid (gs[5]? = some (IsV (Value.int IntKind.i64 ↑K))) := by unfold Hid; rw [hgs]; rfl
              have g6 : Hid (gs[6]? = some (IsV (.pointer (some ⟨qo, K, none⟩)))) := by unfold Hid; rw [hgs]; rfl
              have g7 : Hid (gs[7]? = some (IsV (.slice (some ⟨qK, 0, none⟩) n n))) := by unfold Hid; rw [hgs]; rfl
              have g8 : Hid (gs[8]? = some (IsOneS (fun k => k = qI) (.slice (some ⟨qK, 0, none⟩) n n))) := by unfold Hid; rw [hgs]; rfl
              have g9 : Hid (gs[9]? = some (IsV (.bool true))) := by unfold Hid; rw [hgs]; rfl
              have gk : Hid (∀ p ∈ gs, StaysS (fun k => k = qI) p) := by
                unfold Hid
                rw [hgs]
                simp only [List.forall_mem_cons]
                exact ⟨staysS_v _ _, staysS_v _ _, staysS_v _ _, staysS_v _ _, staysS_v _ _, staysS_v _ _, staysS_v _ _, staysS_v _ _, staysS_ones _ _, staysS_v _ _, by simp⟩
              clear hgs
              obtain ⟨phs, hphs⟩ : ∃ phs : List (World → Prop), phs = [fun Wb => Blk Wb qI [] cI [] ∧ Blk Wb qK [] cK [], fun Wb => Blk Wb qI [] (xorL cI cK) []] := ⟨_, rfl⟩
              have k0 : Hid (phs[0]? = some (fun Wb => Blk Wb qI [] cI [] ∧ Blk Wb qK [] cK [])) := by unfold Hid; rw [hphs]; rfl
              have k1 : Hid (phs[1]? = some (fun Wb => Blk Wb qI [] (xorL cI cK) [])) := by unfold Hid; rw [hphs]; rfl
              have kk : Hid (∀ p ∈ phs, ∀ Wb Wb', Below Wb.heap.size Wb Wb' → p Wb → p Wb') := by
                unfold Hid
                rw [hphs]
                simp only [List.forall_mem_cons]
                exact ⟨fun Wb Wb' hb h => ⟨h.1.below hb, h.2.below hb⟩, fun Wb Wb' hb h => h.below hb, by simp⟩
              clear hphs
              refine wpAny_inv3 (fun listed ac Wb => ∃ xvb : Nat → Value, ac = ⟨#[Value.slice (some { block := b0, off := o0 }) J c0, Value.slice (some { block := b1, off := o1 }) ps.length c1, undef, undef, u4, Value.slice (some { block := w.heap.size, off := 0 }) 1 1, Value.int IntKind.i64 ↑n, Value.pointer (some { block := a, off := 0 }), Value.slice (some { block := qo, off := 0 }) J co, Value.slice (some { block := qa, off := 0 }) J ca, undef, u11, u12, u13, u14, undef, Value.pointer (some { block := wr.heap.size, off := 0 }), Value.int IntKind.i64 ↑I, Value.int IntKind.i64 ↑K, undef, undef, undef, undef, Value.slice (some { block := w.heap.size, off := 0 }) 1 1, Value.slice (some { block := w.heap.size, off := 0 }) 1 1, Value.slice (some { block := w.heap.size + 1, off := 0 }) 1 1, Value.slice (some { block := w.heap.size + 1 + 1, off := 0 }) 1 1, Value.bool true, Value.bool false, Value.bool false, Value.slice (some { block := w.heap.size, off := 0 }) 1 1, Value.pointer (some { block := w.heap.size, off := 0 }), Value.int IntKind.u8 (2 : Int), Value.bool false, Value.bool false, Value.slice (some { block := b0, off := o0 }) J c0, Value.int IntKind.i64 ↑J, Value.bool (decide (↑J < (1 : Int))), Value.bool (decide (↑J < (1 : Int))), Value.slice (some { block := b0, off := o0 }) J c0, Value.int IntKind.i64 ↑J, Value.bool (decide ((20 : Int) < ↑J)), Value.bool (decide (↑J < (1 : Int)) || decide ((20 : Int) < ↑J)), Value.bool (decide (↑J < (1 : Int)) || decide ((20 : Int) < ↑J)), Value.slice (some { block := b1, off := o1 }) ps.length c1, Value.int IntKind.i64 ↑ps.length, Value.bool (decide ((100 : Int) < ↑ps.length)), Value.bool (decide (↑J < (1 : Int)) || decide ((20 : Int) < ↑J) || decide ((100 : Int) < ↑ps.length)), Value.slice (some { block := b0, off := o0 }) J c0, Value.pointer (some { block := b0, off := o0 }), Value.slice af f0 cf, Value.int IntKind.i64 ↑f0, Value.int IntKind.i64 ↑n, Value.int IntKind.i64 ↑n, Value.slice (some { block := b0, off := o0 }) J c0, Value.int IntKind.i64 ↑J, Value.pointer (some { block := a, off := 0 }), Value.slice (some { block := b0, off := o0 }) J c0, Value.int IntKind.i64 ↑J, Value.int IntKind.i64 ↑J, Value.bool false, u61, u62, u63, u64, u65, u66, u67, u68, u69, u70, u71, u72, u73, u74, u75, u76, u77, u78, u79, u80, u81, u82, u83, u84, u85, u86, u87, u88, u89, u90, u91, Value.slice (some { block := b1, off := o1 }) ps.length c1, Value.int IntKind.i64 ↑ps.length, Value.int IntKind.i64 ↑t, Value.bool true, Value.pointer (some { block := b1, off := o1 + t * 2 }), Value.agg #[Value.int IntKind.u8 ↑x, Value.int IntKind.u8 ↑y], Value.pointer (some { block := wr.heap.size, off := 0 }), Value.int IntKind.u8 ↑x, Value.int IntKind.i64 ↑x, Value.slice (some { block := qo, off := 0 }) J co, Value.int IntKind.i64 ↑J, Value.int IntKind.i64 ↑I, Value.pointer (some { block := wr.heap.size, off := 1 }), Value.int IntKind.u8 ↑y, Value.int IntKind.i64 ↑y, Value.slice (some { block := qo, off := 0 }) J co, Value.int IntKind.i64 ↑J, Value.int IntKind.i64 ↑K, xv 0, xv 1, xv 2, xv 3, xv 4, xv 5, xv 6, xv 7, xv 8, xv 9, xv 10, xv 11, xv 12, Value.bool false, Value.int IntKind.i64 ↑I, Value.int IntKind.i64 ↑K, Value.bool true, xvb 0, xvb 1, xvb 2, xvb 3, xvb 4, xvb 5, xvb 6, xvb 7, xvb 8, xvb 9, u137, undef, undef, undef, undef, undef, undef, undef, undef, undef, undef, undef, undef, undef, undef, undef, undef, undef, undef, undef, undef, undef, undef, undef, undef, undef, undef, undef, undef, undef, undef, undef, undef, undef, undef, undef, undef, undef, undef, undef, undef, undef, undef, undef, undef, undef, undef, undef, undef, undef, undef, undef, undef], []⟩ ∧ KeepsBut (fun k => k = qI) W Wb ∧ Lst gs listed xvb Wb ∧ Ph [9] phs listed Wb) (by kernel_rfl) ?_ ?_ _ _ _ _ (by kernel_rfl) (of_decide_eq_true (by kernel_rfl)) (Down.start _) ⟨fun j => if j = 0 then u127 else if j = 1 then u128 else if j = 2 then u129 else if j = 3 then u130 else if j = 4 then u131 else if j = 5 then u132 else if j = 6 then u133 else if j = 7 then u134 else if j = 8 then u135 else if j = 9 then u136 else undef, rfl, KeepsBut.drew _ _, Lst.start _ _ _ _, ?_⟩
              rotate_left 2
              · intro k p hk h1 h2; cases k with | zero => (rw [k0.out] at hk; obtain rfl := Option.some.inj hk; exact ⟨((ST6.out.blk I qI cI D.out.2.2.1 D.out.1).1).below (below0 _), ((ST6.out.blk K qK cK D.out.2.2.2.1 D.out.2.1).1).below (below0 _)⟩) | succ k => (obtain ⟨c, hc, hl⟩ := h1 (by omega); exact absurd hl (by rw [Array.getD_eq_getD_getElem?, Array.getElem?_replicate]; split <;> simp))
              · rintro listed ac Wb ⟨xvb, rfl, hb, hG, hH⟩ hD i hi hnl hd
                have hin : i < 10 := hi
                clear hi
                have hcase : i = 0 ∨ i = 1 ∨ i = 2 ∨ i = 3 ∨ i = 4 ∨ i = 5 ∨ i = 6 ∨ i = 7 ∨ i = 8 ∨ i = 9 := by omega
                rcases hcase with rfl | rfl | rfl | rfl | rfl | rfl | rfl | rfl | rfl | rfl
                · refine wpOp_step rfl (fun K' hK => ?_)
                  have hO : ∀ w', Below Wb.heap.size Wb w' → Ph [9] phs (listed.setIfInBounds 0 true) w' := fun w' hb' => hH.other (by simp) (fun p hp => kk.out p hp Wb w' hb')
                  clear hd hin hnl hD hH
                  go_simp
                  exact hK _ _ ⟨updV xvb 0 (Value.slice (some { block := qo, off := 0 }) J co), by simp [updV], hb, hG.stepS gk.out (KeepsBut.refl _ _) g0.out _ rfl, hO _ (Below.refl _ _)⟩
                · refine wpOp_step rfl (fun K' hK => ?_)
                  have hO : ∀ w', Below Wb.heap.size Wb w' → Ph [9] phs (listed.setIfInBounds 1 true) w' := fun w' hb' => hH.other (by simp) (fun p hp => kk.out p hp Wb w' hb')
                  clear hd hin hnl hD hH
                  go_simp
                  exact hK _ _ ⟨updV xvb 1 (Value.int IntKind.i64 ↑I), by simp [updV], hb, hG.stepS gk.out (KeepsBut.refl _ _) g1.out _ rfl, hO _ (Below.refl _ _)⟩
                · refine wpOp_step rfl (fun K' hK => ?_)
                  simp [Region.binds] at hd
                  have e0 : xvb 0 = Value.slice (some { block := qo, off := 0 }) J co := hG.get g0.out (by simp [hd])
                  have e1 : xvb 1 = Value.int IntKind.i64 ↑I := hG.get g1.out (by simp [hd])
                  have hO : ∀ w', Below Wb.heap.size Wb w' → Ph [9] phs (listed.setIfInBounds 2 true) w' := fun w' hb' => hH.other (by simp) (fun p hp => kk.out p hp Wb w' hb')
                  clear hd hin hnl hD hH
                  go_simp
                  exact hK _ _ ⟨updV xvb 2 (.pointer (some ⟨qo, I, none⟩)), by simp [updV, e0, e1], hb, hG.stepS gk.out (KeepsBut.refl _ _) g2.out _ rfl, hO _ (Below.refl _ _)⟩
                · refine wpOp_step rfl (fun K' hK => ?_)
                  simp [Region.binds] at hd
                  have e2 : xvb 2 = .pointer (some ⟨qo, I, none⟩) := hG.get g2.out (by simp [hd])
                  have hc := CO.out Wb hb I qI D.out.2.2.1
                  have hO : ∀ w', Below Wb.heap.size Wb w' → Ph [9] phs (listed.setIfInBounds 3 true) w' := fun w' hb' => hH.other (by simp) (fun p hp => kk.out p hp Wb w' hb')
                  clear hd hin hnl hD hH
                  go_simp
                  exact hK _ _ ⟨updV xvb 3 (.slice (some ⟨qI, 0, none⟩) n n), by simp [updV, e2], hb, hG.stepS gk.out (KeepsBut.refl _ _) g3.out _ rfl, hO _ (Below.refl _ _)⟩
                · refine wpOp_step rfl (fun K' hK => ?_)
                  have hO : ∀ w', Below Wb.heap.size Wb w' → Ph [9] phs (listed.setIfInBounds 4 true) w' := fun w' hb' => hH.other (by simp) (fun p hp => kk.out p hp Wb w' hb')
                  clear hd hin hnl hD hH
                  go_simp
                  exact hK _ _ ⟨updV xvb 4 (Value.slice (some { block := qo, off := 0 }) J co), by simp [updV], hb, hG.stepS gk.out (KeepsBut.refl _ _) g4.out _ rfl, hO _ (Below.refl _ _)⟩
                · refine wpOp_step rfl (fun K' hK => ?_)
                  have hO : ∀ w', Below Wb.heap.size Wb w' → Ph [9] phs (listed.setIfInBounds 5 true) w' := fun w' hb' => hH.other (by simp) (fun p hp => kk.out p hp Wb w' hb')
                  clear hd hin hnl hD hH
                  go_simp
                  exact hK _ _ ⟨updV xvb 5 (Value.int IntKind.i64 ↑K), by simp [updV], hb, hG.stepS gk.out (KeepsBut.refl _ _) g5.out _ rfl, hO _ (Below.refl _ _)⟩
                · refine wpOp_step rfl (fun K' hK => ?_)
                  simp [Region.binds] at hd
                  have e4 : xvb 4 = Value.slice (some { block := qo, off := 0 }) J co := hG.get g4.out (by simp [hd])
                  have e5 : xvb 5 = Value.int IntKind.i64 ↑K := hG.get g5.out (by simp [hd])
                  have hO : ∀ w', Below Wb.heap.size Wb w' → Ph [9] phs (listed.setIfInBounds 6 true) w' := fun w' hb' => hH.other (by simp) (fun p hp => kk.out p hp Wb w' hb')
                  clear hd hin hnl hD hH
                  go_simp
                  exact hK _ _ ⟨updV xvb 6 (.pointer (some ⟨qo, K, none⟩)), by simp [updV, e4, e5], hb, hG.stepS gk.out (KeepsBut.refl _ _) g6.out _ rfl, hO _ (Below.refl _ _)⟩
                · refine wpOp_step rfl (fun K' hK => ?_)
                  simp [Region.binds] at hd
                  have e6 : xvb 6 = .pointer (some ⟨qo, K, none⟩) := hG.get g6.out (by simp [hd])
                  have hc := CO.out Wb hb K qK D.out.2.2.2.1
                  have hO : ∀ w', Below Wb.heap.size Wb w' → Ph [9] phs (listed.setIfInBounds 7 true) w' := fun w' hb' => hH.other (by simp) (fun p hp => kk.out p hp Wb w' hb')
                  clear hd hin hnl hD hH
                  go_simp
                  exact hK _ _ ⟨updV xvb 7 (.slice (some ⟨qK, 0, none⟩) n n), by simp [updV, e6], hb, hG.stepS gk.out (KeepsBut.refl _ _) g7.out _ rfl, hO _ (Below.refl _ _)⟩
                · refine wpOp_step rfl (fun K' hK => ?_)
                  simp [Region.binds] at hd
                  have e7 : xvb 7 = .slice (some ⟨qK, 0, none⟩) n n := hG.get g7.out (by simp [hd])
                  have hO : ∀ w', Below Wb.heap.size Wb w' → Ph [9] phs (listed.setIfInBounds 8 true) w' := fun w' hb' => hH.other (by simp) (fun p hp => kk.out p hp Wb w' hb')
                  clear hd hin hnl hD hH
                  go_simp
                  exact hK _ _ ⟨updV xvb 8 (.slice (some ⟨Wb.heap.size, 0, none⟩) 1 1), by simp [updV, e7], hb.trans (KeepsBut.ofBelow (below_alloc _ _)), hG.stepS gk.out (KeepsBut.ofBelow (below_alloc _ _)) g8.out _ ⟨_, rfl, by have := N6.out.2.2.2.1; have := hb.size; omega, by simp⟩, hO _ (below_alloc _ _)⟩
                · refine wpOp_step rfl (fun K' hK => ?_)
                  simp [Region.binds] at hd
                  have e3 : xvb 3 = .slice (some ⟨qI, 0, none⟩) n n := hG.get g3.out (by simp [hd])
                  have m8 : IsOneS (fun k => k = qI) (.slice (some ⟨qK, 0, none⟩) n n) (xvb 8) Wb := hG.get g8.out (by simp [hd])
                  have hph : (fun Wb => Blk Wb qI [] cI [] ∧ Blk Wb qK [] cK []) Wb := hH 0 _ k0.out (fun h => absurd rfl h) (fun c hc => by simp at hc; subst hc; exact getD_false hnl)
                  have hW : ∀ w', (fun Wb => Blk Wb qI [] (xorL cI cK) []) w' → Ph [9] phs (listed.setIfInBounds 9 true) w' := fun w' hp => Ph.write 0 9 rfl hnl (by intro j h; (rcases j with _ | _ | _ | j) <;> simp at h ⊢) (by intro j c' hj h; (rcases j with _ | _ | _ | j) <;> simp at h hj) (by intro j c' hj h; (rcases j with _ | _ | _ | j) <;> simp at h hj) (fun p hp' => by rw [k1.out] at hp'; obtain rfl := Option.some.inj hp'; exact hp)
                  clear hd hin hnl hD hH
                  go_simp
                  refine (XC.out Wb _ hb hph m8).mono ?_
                  rintro e w' ⟨v, rfl, hv, hb', hp'⟩
                  go_wp2_with fail
                  exact ⟨updV xvb 9 v, by simp [updV, e3], hb.trans hb', hG.stepS gk.out hb' g9.out v hv, hW _ hp'⟩
              · rintro listed ac Wb ⟨xvb, rfl, hb, hG, hH⟩ hall
                have e9 : xvb 9 = .bool true := hG.get g9.out (hall 9 (by decide))
                have XW : Hid (KeepsBut (fun k => k = qI) W Wb) := hb
                have HW : Hid ((fun Wb => Blk Wb qI [] (xorL cI cK) []) Wb) := hH 1 _ k1.out (fun _ => ⟨9, rfl, hall 9 (by decide)⟩) (fun c hc => by simp at hc)
                clear hall hG hb hH gk kk g0 g1 g2 g3 g4 g5 g6 g7 g8 g9 k0 k1
                rw [e9]
                clear e9
                have ST7 : Hid (HeapSt Wb a (s.setB I (xorL cI cK)) n (.slice (some ⟨qo, 0, none⟩) J co) (.slice (some ⟨qa, 0, none⟩) J ca) qs (cs.set I (xorL cI cK)) (cs.set I (xorL cI cK))) := ST6.out.xor D.out.2.2.1 (fun k hk hn => XW.out.block k hk hn) HW.out LN.out.2.2
                have XB7 : Hid (Below a w2 Wb) := XB6.out.trans (XW.out.below ST6.out.ar.B_le (fun k hk => by rw [hk]; exact N6.out.2.2.2.2))
                go_wp2
                go_roundw
                case rel => exact ⟨t + 1, _, _, by omega, by go_num, by rw [List.length_set]; exact PL.out, ST7.out, XB7.out⟩
                case measure => simp [intOf]; omega
        · obtain rfl : ps.length = t := by omega
          clear ht htl
          obtain ⟨wl, hwl⟩ : ∃ wl, wl = wr := ⟨_, rfl⟩
          rw [← hwl] at ST XB ⊢
          clear hwl
          go_wp2
          go_loopw [140] (fun i wz => ∃ (t : Nat), t ≤ J ∧ i = .int .i64 t ∧ Below wl.heap.size wl wz) (fun i _ => J - (intOf i).toNat)
          case atStart => exact ⟨0, by omega, rfl, Below.refl _ _⟩
          case round =>
            obtain ⟨t, ht, rfl, hX⟩ := hrel
            have XL : Hid (Below wl.heap.size wl wr) := hX
            have STz : Hid (HeapSt wr a s n (.slice (some ⟨qo, 0, none⟩) J co) (.slice (some ⟨qa, 0, none⟩) J ca) qs cs cs) := ST.out.below hX
            have XBz : Hid (Below a w2 wr) := XB.out.trans (hX.mono ST.out.ar.B_le)
            clear hX
            by_cases htJ : t < J
            · obtain ⟨c, hc⟩ : ∃ c, cs[t]? = some c := ⟨_, List.getElem?_eq_getElem (by rw [PL.out]; exact htJ)⟩
              obtain ⟨q, hq⟩ : ∃ q, qs[t]? = some q := ⟨_, List.getElem?_eq_getElem (by rw [STz.out.qlen, PL.out]; exact htJ)⟩
              obtain ⟨p, hp⟩ := STz.out.same t c hc
              obtain ⟨hbq, hlq, -⟩ := STz.out.blk t q c hq hc
              have hcell := STz.out.rowK (W := wr) PL.out rfl hq
              have CA : Hid (∀ W, Below wr.heap.size wr W → W.cell? ⟨qa, t, none⟩ = some (.int .i64 (t : Int))) := fun W hW => STz.out.numK PL.out (KeepsBut.ofBelow hW) htJ
              have BB : Hid (∀ W, Below wr.heap.size wr W → Bs W (.slice (some ⟨q, 0, none⟩) n n) c) := fun W hW => (hbq.below hW).bs0 n n hlq.symm (Nat.le_refl _) (by unfold maxLen; omega)
              have GC : Hid (∀ V, Below wr.heap.size wr V → Calls Try.prog 37 #[.pointer (some ⟨a, 0, none⟩), .int .i64 t] V fun e w' => ∃ v, e = .returned v ∧ IsBs c v w' ∧ Below V.heap.size V w') := by
                intro V hV
                refine (get_yes a a s t _ V (STz.out.ar.below hV) hp rfl).mono ?_
                rintro e w' ⟨rfl, h1, h2⟩
                exact ⟨_, rfl, h1.bs0 _ _ (by rw [STz.out.size]; exact hlq.symm) (Nat.le_refl _) (by rw [STz.out.size]; unfold maxLen; omega), h2⟩
              have KC : Hid (∀ V, Below wr.heap.size wr V → (convert 25 9 (.slice (some ⟨q, 0, none⟩) n n)).run Try.prog V = .ok (.string (str c)) V) := fun V hV => conv_bytes (BB.out V hV)
              have ZA : Hid (∀ V, Below wr.heap.size wr V → Calls Try.prog 35 #[.pointer (some ⟨a, 0, none⟩), .int .i64 t] V fun e w' => ∃ v, e = .returned v ∧ IsV (.bool (zeroB c)) v w' ∧ Below V.heap.size V w') := by
                intro V hV
                refine (azero_any a a s t V (STz.out.ar.below hV)).mono ?_
                rintro e w' ⟨rfl, rfl⟩
                refine ⟨_, rfl, ?_, Below.refl _ _⟩
                have e2 : s.bytes (t : Int) = c := by simp [Ar.bytes, hp]
                rw [has_mk hp rfl, e2]
                simp [IsV]
              have ZB : Hid (∀ V, Below wr.heap.size wr V → Calls Try.prog 18 #[.slice (some ⟨q, 0, none⟩) n n] V fun e w' => ∃ v, e = .returned v ∧ IsV (.bool (zeroB c)) v w' ∧ Below V.heap.size V w') := by
                intro V hV
                refine (rzero_any _ c V (BB.out V hV)).mono ?_
                rintro e w' ⟨rfl, rfl⟩
                exact ⟨_, rfl, rfl, Below.refl _ _⟩
              clear hc hq hp hbq hlq
              go_wp2
              refine wp_region_any (by kernel_rfl) ?_
              obtain ⟨gs, hgs⟩ : ∃ gs : List (Value → World → Prop), gs = [IsV (Value.pointer (some { block := a, off := 0 })), IsV (Value.slice (some { block := qa, off := 0 }) J ca), IsV (Value.int IntKind.i64 ↑t), IsV (.pointer (some ⟨qa, t, none⟩)), IsV (.int .i64 (t : Int)), IsBs c, IsV (.string (str c)), IsV (Value.slice (some { block := q, off := 0 }) n n), IsV (.string (str c)), IsV (.bool false), IsV (.bool false), IsV (Value.pointer (some { block := a, off := 0 })), IsV (Value.slice (some { block := qa, off := 0 }) J ca), IsV (Value.int IntKind.i64 ↑t), IsV (.pointer (some ⟨qa, t, none⟩)), IsV (.int .i64 (t : Int)), IsV (.bool (zeroB c)), IsV (Value.slice (some { block := q, off := 0 }) n n), IsV (.bool (zeroB c)), IsV (.bool false), IsV (.bool false)] := ⟨_, rfl⟩
              have g0 : Hid (gs[0]? = some (IsV (Value.pointer (some { block := a, off := 0 })))) := by unfold Hid; rw [hgs]; rfl
              have g1 : Hid (gs[1]? = some (IsV (Value.slice (some { block := qa, off := 0 }) J ca))) := by unfold Hid; rw [hgs]; rfl
              have g2 : Hid (gs[2]? = some (IsV (Value.int IntKind.i64 ↑t))) := by unfold Hid; rw [hgs]; rfl
              have g3 : Hid (gs[3]? = some (IsV (.pointer (some ⟨qa, t, none⟩)))) := by unfold Hid; rw [hgs]; rfl
              have g4 : Hid (gs[4]? = some (IsV (.int .i64 (t : Int)))) := by unfold Hid; rw [hgs]; rfl
              have g5 : Hid (gs[5]? = some (IsBs c)) := by unfold Hid; rw [hgs]; rfl
              have g6 : Hid (gs[6]? = some (IsV (.string (str c)))) := by unfold Hid; rw [hgs]; rfl
              have g7 : Hid (gs[7]? = some (IsV (Value.slice (some { block := q, off := 0 }) n n))) := by unfold Hid; rw [hgs]; rfl
              have g8 : Hid (gs[8]? = some (IsV (.string (str c)))) := by unfold Hid; rw [hgs]; rfl
              have g9 : Hid (gs[9]? = some (IsV (.bool false))) := by unfold Hid; rw [hgs]; rfl
              have g10 : Hid (gs[10]? = some (IsV (.bool false))) := by unfold Hid; rw [hgs]; rfl
              have g11 : Hid (gs[11]? = some (IsV (Value.pointer (some { block := a, off := 0 })))) := by unfold Hid; rw [hgs]; rfl
              have g12 : Hid (gs[12]? = some (IsV (Value.slice (some { block := qa, off := 0 }) J ca))) := by unfold Hid; rw [hgs]; rfl
              have g13 : Hid (gs[13]? = some (IsV (Value.int IntKind.i64 ↑t))) := by unfold Hid; rw [hgs]; rfl
              have g14 : Hid (gs[14]? = some (IsV (.pointer (some ⟨qa, t, none⟩)))) := by unfold Hid; rw [hgs]; rfl
              have g15 : Hid (gs[15]? = some (IsV (.int .i64 (t : Int)))) := by unfold Hid; rw [hgs]; rfl
              have g16 : Hid (gs[16]? = some (IsV (.bool (zeroB c)))) := by unfold Hid; rw [hgs]; rfl
              have g17 : Hid (gs[17]? = some (IsV (Value.slice (some { block := q, off := 0 }) n n))) := by unfold Hid; rw [hgs]; rfl
              have g18 : Hid (gs[18]? = some (IsV (.bool (zeroB c)))) := by unfold Hid; rw [hgs]; rfl
              have g19 : Hid (gs[19]? = some (IsV (.bool false))) := by unfold Hid; rw [hgs]; rfl
              have g20 : Hid (gs[20]? = some (IsV (.bool false))) := by unfold Hid; rw [hgs]; rfl
              have gk : Hid (∀ p ∈ gs, Stays p) := by
                unfold Hid
                rw [hgs]
                simp only [List.forall_mem_cons]
                exact ⟨stays_v _, stays_v _, stays_v _, stays_v _, stays_v _, stays_bs _, stays_v _, stays_v _, stays_v _, stays_v _, stays_v _, stays_v _, stays_v _, stays_v _, stays_v _, stays_v _, stays_v _, stays_v _, stays_v _, stays_v _, stays_v _, by simp⟩
              clear hgs
              refine wpAny_inv (fun listed ac W => ∃ xv : Nat → Value, ac = ⟨#[Value.slice (some { block := b0, off := o0 }) J c0, Value.slice a1 ps.length c1, undef, undef, u4, Value.slice (some { block := w.heap.size, off := 0 }) 1 1, Value.int IntKind.i64 ↑n, Value.pointer (some { block := a, off := 0 }), Value.slice (some { block := qo, off := 0 }) J co, Value.slice (some { block := qa, off := 0 }) J ca, undef, u11, u12, u13, u14, undef, u16, u17, u18, Value.int IntKind.i64 ↑t, Value.slice (some { block := q, off := 0 }) n n, undef, undef, Value.slice (some { block := w.heap.size, off := 0 }) 1 1, Value.slice (some { block := w.heap.size, off := 0 }) 1 1, Value.slice (some { block := w.heap.size + 1, off := 0 }) 1 1, Value.slice (some { block := w.heap.size + 1 + 1, off := 0 }) 1 1, Value.bool true, Value.bool false, Value.bool false, Value.slice (some { block := w.heap.size, off := 0 }) 1 1, Value.pointer (some { block := w.heap.size, off := 0 }), Value.int IntKind.u8 (2 : Int), Value.bool false, Value.bool false, Value.slice (some { block := b0, off := o0 }) J c0, Value.int IntKind.i64 ↑J, Value.bool (decide (↑J < (1 : Int))), Value.bool (decide (↑J < (1 : Int))), Value.slice (some { block := b0, off := o0 }) J c0, Value.int IntKind.i64 ↑J, Value.bool (decide ((20 : Int) < ↑J)), Value.bool (decide (↑J < (1 : Int)) || decide ((20 : Int) < ↑J)), Value.bool (decide (↑J < (1 : Int)) || decide ((20 : Int) < ↑J)), Value.slice a1 ps.length c1, Value.int IntKind.i64 ↑ps.length, Value.bool (decide ((100 : Int) < ↑ps.length)), Value.bool (decide (↑J < (1 : Int)) || decide ((20 : Int) < ↑J) || decide ((100 : Int) < ↑ps.length)), Value.slice (some { block := b0, off := o0 }) J c0, Value.pointer (some { block := b0, off := o0 }), Value.slice af f0 cf, Value.int IntKind.i64 ↑f0, Value.int IntKind.i64 ↑n, Value.int IntKind.i64 ↑n, Value.slice (some { block := b0, off := o0 }) J c0, Value.int IntKind.i64 ↑J, Value.pointer (some { block := a, off := 0 }), Value.slice (some { block := b0, off := o0 }) J c0, Value.int IntKind.i64 ↑J, Value.int IntKind.i64 ↑J, Value.bool false, u61, u62, u63, u64, u65, u66, u67, u68, u69, u70, u71, u72, u73, u74, u75, u76, u77, u78, u79, u80, u81, u82, u83, u84, u85, u86, u87, u88, u89, u90, u91, Value.slice a1 ps.length c1, Value.int IntKind.i64 ↑ps.length, Value.int IntKind.i64 ↑ps.length, Value.bool false, u96, u97, u98, u99, u100, u101, u102, u103, u104, u105, u106, u107, u108, u109, u110, u111, u112, u113, u114, u115, u116, u117, u118, u119, u120, u121, u122, u123, u124, u125, u126, u127, u128, u129, u130, u131, u132, u133, u134, u135, u136, u137, Value.slice (some { block := qo, off := 0 }) J co, Value.int IntKind.i64 ↑J, Value.int IntKind.i64 ↑t, Value.bool true, Value.int IntKind.i64 ↑t, Value.pointer (some { block := qo, off := t }), Value.slice (some { block := q, off := 0 }) n n, xv 0, xv 1, xv 2, xv 3, xv 4, xv 5, xv 6, xv 7, xv 8, xv 9, xv 10, xv 11, xv 12, xv 13, xv 14, xv 15, xv 16, xv 17, xv 18, xv 19, xv 20, u166, undef, undef, undef, undef, undef, undef, undef, undef, undef, undef, undef, undef, undef, undef, undef, undef, undef, undef, undef, undef, undef, undef, undef], []⟩ ∧ Below wr.heap.size wr W ∧ Lst gs listed xv W) (by kernel_rfl) ?_ ?_ _ _ _ _ (by kernel_rfl) (of_decide_eq_true (by kernel_rfl)) ⟨fun j => if j = 0 then u145 else if j = 1 then u146 else if j = 2 then u147 else if j = 3 then u148 else if j = 4 then u149 else if j = 5 then u150 else if j = 6 then u151 else if j = 7 then u152 else if j = 8 then u153 else if j = 9 then u154 else if j = 10 then u155 else if j = 11 then u156 else if j = 12 then u157 else if j = 13 then u158 else if j = 14 then u159 else if j = 15 then u160 else if j = 16 then u161 else if j = 17 then u162 else if j = 18 then u163 else if j = 19 then u164 else if j = 20 then u165 else undef, rfl, below0 _, Lst.start _ _ _ _⟩
              · rintro listed ac W ⟨xv, rfl, hb, hG⟩ i hi hd
                have hin : i < 21 := hi
                clear hi
                have hcase : i = 0 ∨ i = 1 ∨ i = 2 ∨ i = 3 ∨ i = 4 ∨ i = 5 ∨ i = 6 ∨ i = 7 ∨ i = 8 ∨ i = 9 ∨ i = 10 ∨ i = 11 ∨ i = 12 ∨ i = 13 ∨ i = 14 ∨ i = 15 ∨ i = 16 ∨ i = 17 ∨ i = 18 ∨ i = 19 ∨ i = 20 := by omega
                rcases hcase with rfl | rfl | rfl | rfl | rfl | rfl | rfl | rfl | rfl | rfl | rfl | rfl | rfl | rfl | rfl | rfl | rfl | rfl | rfl | rfl | rfl
                · refine wpOp_step rfl (fun K' hK => ?_)
                  clear hd hin
                  go_simp
                  exact hK _ _ ⟨updV xv 0 (Value.pointer (some { block := a, off := 0 })), by simp [updV], hb, hG.same gk.out g0.out _ rfl⟩
                · refine wpOp_step rfl (fun K' hK => ?_)
                  clear hd hin
                  go_simp
                  exact hK _ _ ⟨updV xv 1 (Value.slice (some { block := qa, off := 0 }) J ca), by simp [updV], hb, hG.same gk.out g1.out _ rfl⟩
                · refine wpOp_step rfl (fun K' hK => ?_)
                  clear hd hin
                  go_simp
                  exact hK _ _ ⟨updV xv 2 (Value.int IntKind.i64 ↑t), by simp [updV], hb, hG.same gk.out g2.out _ rfl⟩
                · refine wpOp_step rfl (fun K' hK => ?_)
                  simp [Region.binds] at hd
                  have e1 : xv 1 = Value.slice (some { block := qa, off := 0 }) J ca := hG.get g1.out (by simp [hd])
                  have e2 : xv 2 = Value.int IntKind.i64 ↑t := hG.get g2.out (by simp [hd])
                  clear hd hin
                  go_simp
                  exact hK _ _ ⟨updV xv 3 (.pointer (some ⟨qa, t, none⟩)), by simp [updV, e1, e2], hb, hG.same gk.out g3.out _ rfl⟩
                · refine wpOp_step rfl (fun K' hK => ?_)
                  simp [Region.binds] at hd
                  have e3 : xv 3 = .pointer (some ⟨qa, t, none⟩) := hG.get g3.out (by simp [hd])
                  have hc := CA.out W hb
                  clear hd hin
                  go_simp
                  exact hK _ _ ⟨updV xv 4 (.int .i64 (t : Int)), by simp [updV, e3], hb, hG.same gk.out g4.out _ rfl⟩
                · refine wpOp_step rfl (fun K' hK => ?_)
                  simp [Region.binds] at hd
                  have e0 : xv 0 = Value.pointer (some { block := a, off := 0 }) := hG.get g0.out (by simp [hd])
                  have e4 : xv 4 = .int .i64 (t : Int) := hG.get g4.out (by simp [hd])
                  clear hd hin
                  go_simp
                  refine (GC.out W hb).mono ?_
                  rintro e w' ⟨v, rfl, hv, hb'⟩
                  go_wp2_with fail
                  exact ⟨updV xv 5 v, by simp [updV, e0, e4], hb.trans (hb'.mono hb.size), hG.step gk.out hb' g5.out v hv⟩
                · refine wpOp_step rfl (fun K' hK => ?_)
                  simp [Region.binds] at hd
                  have m5 : IsBs c (xv 5) W := hG.get g5.out (by simp [hd])
                  have kr := conv_bytes m5
                  clear hd hin
                  go_simp
                  exact hK _ _ ⟨updV xv 6 (.string (str c)), by simp [updV], hb, hG.same gk.out g6.out _ rfl⟩
                · refine wpOp_step rfl (fun K' hK => ?_)
                  clear hd hin
                  go_simp
                  exact hK _ _ ⟨updV xv 7 (Value.slice (some { block := q, off := 0 }) n n), by simp [updV], hb, hG.same gk.out g7.out _ rfl⟩
                · refine wpOp_step rfl (fun K' hK => ?_)
                  simp [Region.binds] at hd
                  have e7 : xv 7 = Value.slice (some { block := q, off := 0 }) n n := hG.get g7.out (by simp [hd])
                  have kr := KC.out W hb
                  clear hd hin
                  go_simp
                  exact hK _ _ ⟨updV xv 8 (.string (str c)), by simp [updV, e7], hb, hG.same gk.out g8.out _ rfl⟩
                · refine wpOp_step rfl (fun K' hK => ?_)
                  simp [Region.binds] at hd
                  have e6 : xv 6 = .string (str c) := hG.get g6.out (by simp [hd])
                  have e8 : xv 8 = .string (str c) := hG.get g8.out (by simp [hd])
                  clear hd hin
                  go_simp
                  exact hK _ _ ⟨updV xv 9 (.bool false), by simp [updV, e6, e8], hb, hG.same gk.out g9.out _ rfl⟩
                · refine wpOp_step rfl (fun K' hK => ?_)
                  simp [Region.binds] at hd
                  have e9 : xv 9 = .bool false := hG.get g9.out (by simp [hd])
                  clear hd hin
                  go_simp
                  exact hK _ _ ⟨updV xv 10 (.bool false), by simp [updV, e9], hb, hG.same gk.out g10.out _ rfl⟩
                · refine wpOp_step rfl (fun K' hK => ?_)
                  simp [Region.binds] at hd
                  have e10 : xv 10 = .bool false := hG.get g10.out (by simp [hd])
                  clear hd hin
                  go_simp
                  exact hK _ _ ⟨updV xv 11 (Value.pointer (some { block := a, off := 0 })), by simp [updV, e10], hb, hG.same gk.out g11.out _ rfl⟩
                · refine wpOp_step rfl (fun K' hK => ?_)
                  simp [Region.binds] at hd
                  have e10 : xv 10 = .bool false := hG.get g10.out (by simp [hd])
                  clear hd hin
                  go_simp
                  exact hK _ _ ⟨updV xv 12 (Value.slice (some { block := qa, off := 0 }) J ca), by simp [updV, e10], hb, hG.same gk.out g12.out _ rfl⟩
                · refine wpOp_step rfl (fun K' hK => ?_)
                  simp [Region.binds] at hd
                  have e10 : xv 10 = .bool false := hG.get g10.out (by simp [hd])
                  clear hd hin
                  go_simp
                  exact hK _ _ ⟨updV xv 13 (Value.int IntKind.i64 ↑t), by simp [updV, e10], hb, hG.same gk.out g13.out _ rfl⟩
                · refine wpOp_step rfl (fun K' hK => ?_)
                  simp [Region.binds] at hd
                  have e12 : xv 12 = Value.slice (some { block := qa, off := 0 }) J ca := hG.get g12.out (by simp [hd])
                  have e13 : xv 13 = Value.int IntKind.i64 ↑t := hG.get g13.out (by simp [hd])
                  have e10 : xv 10 = .bool false := hG.get g10.out (by simp [hd])
                  clear hd hin
                  go_simp
                  exact hK _ _ ⟨updV xv 14 (.pointer (some ⟨qa, t, none⟩)), by simp [updV, e12, e13, e10], hb, hG.same gk.out g14.out _ rfl⟩
                · refine wpOp_step rfl (fun K' hK => ?_)
                  simp [Region.binds] at hd
                  have e14 : xv 14 = .pointer (some ⟨qa, t, none⟩) := hG.get g14.out (by simp [hd])
                  have e10 : xv 10 = .bool false := hG.get g10.out (by simp [hd])
                  have hc := CA.out W hb
                  clear hd hin
                  go_simp
                  exact hK _ _ ⟨updV xv 15 (.int .i64 (t : Int)), by simp [updV, e14, e10], hb, hG.same gk.out g15.out _ rfl⟩
                · refine wpOp_step rfl (fun K' hK => ?_)
                  simp [Region.binds] at hd
                  have e11 : xv 11 = Value.pointer (some { block := a, off := 0 }) := hG.get g11.out (by simp [hd])
                  have e15 : xv 15 = .int .i64 (t : Int) := hG.get g15.out (by simp [hd])
                  have e10 : xv 10 = .bool false := hG.get g10.out (by simp [hd])
                  clear hd hin
                  go_simp
                  refine (ZA.out W hb).mono ?_
                  rintro e w' ⟨v, rfl, hv, hb'⟩
                  go_wp2_with fail
                  exact ⟨updV xv 16 v, by simp [updV, e11, e15, e10], hb.trans (hb'.mono hb.size), hG.step gk.out hb' g16.out v hv⟩
                · refine wpOp_step rfl (fun K' hK => ?_)
                  simp [Region.binds] at hd
                  have e10 : xv 10 = .bool false := hG.get g10.out (by simp [hd])
                  clear hd hin
                  go_simp
                  exact hK _ _ ⟨updV xv 17 (Value.slice (some { block := q, off := 0 }) n n), by simp [updV, e10], hb, hG.same gk.out g17.out _ rfl⟩
                · refine wpOp_step rfl (fun K' hK => ?_)
                  simp [Region.binds] at hd
                  have e17 : xv 17 = Value.slice (some { block := q, off := 0 }) n n := hG.get g17.out (by simp [hd])
                  have e10 : xv 10 = .bool false := hG.get g10.out (by simp [hd])
                  clear hd hin
                  go_simp
                  refine (ZB.out W hb).mono ?_
                  rintro e w' ⟨v, rfl, hv, hb'⟩
                  go_wp2_with fail
                  exact ⟨updV xv 18 v, by simp [updV, e17, e10], hb.trans (hb'.mono hb.size), hG.step gk.out hb' g18.out v hv⟩
                · refine wpOp_step rfl (fun K' hK => ?_)
                  simp [Region.binds] at hd
                  have e16 : xv 16 = .bool (zeroB c) := hG.get g16.out (by simp [hd])
                  have e18 : xv 18 = .bool (zeroB c) := hG.get g18.out (by simp [hd])
                  have e10 : xv 10 = .bool false := hG.get g10.out (by simp [hd])
                  clear hd hin
                  go_simp
                  exact hK _ _ ⟨updV xv 19 (.bool false), by simp [updV, e16, e18, e10], hb, hG.same gk.out g19.out _ rfl⟩
                · refine wpOp_step rfl (fun K' hK => ?_)
                  simp [Region.binds] at hd
                  have e10 : xv 10 = .bool false := hG.get g10.out (by simp [hd])
                  have e19 : xv 19 = .bool false := hG.get g19.out (by simp [hd])
                  clear hd hin
                  go_simp
                  exact hK _ _ ⟨updV xv 20 (.bool false), by simp [updV, e10, e19], hb, hG.same gk.out g20.out _ rfl⟩
              · rintro listed ac W ⟨xv, rfl, hb, hG⟩ hall
                have e20 : xv 20 = .bool false := hG.get g20.out (hall 20 (by decide))
                have XW : Hid (Below wr.heap.size wr W) := hb
                clear hall hG hb gk g0 g1 g2 g3 g4 g5 g6 g7 g8 g9 g10 g11 g12 g13 g14 g15 g16 g17 g18 g19 g20
                rw [e20]
                clear e20
                have XE : Hid (Below wl.heap.size wl W) := XL.out.trans (XW.out.mono XL.out.size)
                go_wp2
                go_roundw
                case rel => exact ⟨t + 1, by omega, by go_num, XE.out⟩
                case measure => simp [intOf]; omega
            · obtain rfl : J = t := by omega
              have SL : Hid (∀ V, Below wr.heap.size wr V → Sl 1 V (.slice (some ⟨qo, 0, none⟩) J co) (heapRow n qs).length (heapRow n qs)) := fun V hV => by
                have h := owned_sl (STz.out.below hV).row
                have e : (heapRow n qs).length = cs.length := by simp [heapRow, STz.out.qlen]
                rw [e]
                exact h
              have PP : Hid (∀ V, Below wr.heap.size wr V → Parts V (heapRow n qs) cs) := fun V hV => (STz.out.below hV).parts (by omega)
              have FF : Hid (fitB n cs = true) := STz.out.fit
              go_wp2_with fail
              refine (sum_yes n _ (heapRow n qs) cs wr (by omega) (SL.out wr (Below.refl _ _)) (PP.out wr (Below.refl _ _)) FF.out).mono ?_
              rintro e w7 ⟨rfl, hb7, hx7⟩
              have X7 : Hid (Below wr.heap.size wr w7) := hx7
              have X7l : Hid (Below a w2 w7) := XBz.out.trans (hx7.mono STz.out.ar.B_le)
              have hxl : (xorAll (zeros n) cs).length = n := by
                rw [xorAll_length (fun x hx => ?_)]
                · simp [zeros]
                · obtain ⟨i, hi, rfl⟩ := List.mem_iff_getElem.1 hx
                  rw [(STz.out.blk i _ _ (List.getElem?_eq_getElem (show i < qs.length by rw [STz.out.qlen]; exact hi)) (List.getElem?_eq_getElem hi)).2.1]
                  simp [zeros]
              have KQ : Hid (∀ V, Below w7.heap.size w7 V → (convert 25 9 (.slice (some ⟨wr.heap.size, 0, none⟩) n n)).run Try.prog V = .ok (.string (str (xorAll (zeros n) cs))) V) := fun V hV => conv_bytes ((hb7.below hV).bs0 n n hxl.symm (Nat.le_refl _) (by unfold maxLen; omega))
              have RC : Hid (∀ V, Below w7.heap.size w7 V → Calls Try.prog 16 #[.int .i64 n, .slice (some ⟨qo, 0, none⟩) J co] V fun e w' => ∃ u, e = .returned u ∧ IsBs (xorAll (zeros n) cs) u w' ∧ Below V.heap.size V w') := by
                intro V hV
                have hV2 : Below wr.heap.size wr V := X7.out.trans (hV.mono X7.out.size)
                refine (rsum_any n _ (heapRow n qs) cs V (by omega) (SL.out V hV2) (PP.out V hV2) FF.out).mono ?_
                rintro e w' ⟨rfl, h1, h2⟩
                exact ⟨_, rfl, h1.bs0 _ _ hxl.symm (Nat.le_refl _) (by unfold maxLen; omega), h2⟩
              have LC : Hid (∀ V, Below w7.heap.size w7 V → Calls Try.prog 31 #[.pointer (some ⟨a, 0, none⟩)] V fun e w' => ∃ u, e = .returned u ∧ IsV (.int .i64 (J : Int)) u w' ∧ Below V.heap.size V w') := by
                intro V hV
                have hV2 : Below wr.heap.size wr V := X7.out.trans (hV.mono X7.out.size)
                refine (alive_any a a s V (STz.out.ar.below hV2)).mono ?_
                rintro e w' ⟨rfl, k, rfl⟩
                refine ⟨_, rfl, ?_, below_drewN (Below.refl _ _) _⟩
                rw [STz.out.blen, STz.out.nob, PL.out]
                simp [IsV]
              clear hb7 hx7 hxl
              generalize xorAll (zeros n) cs = x at *
              go_wp2
              refine wp_region_any (by kernel_rfl) ?_
              obtain ⟨gs, hgs⟩ : ∃ gs : List (Value → World → Prop), gs = [IsV (Value.bool true), IsV (Value.bool true), IsV (Value.slice (some { block := wr.heap.size, off := 0 }) n n), IsV (.string (str x)), IsV (Value.int IntKind.i64 ↑n), IsV (Value.slice (some { block := qo, off := 0 }) J co), IsBs x, IsV (.string (str x)), IsV (.bool true), IsV (.bool true), IsV (.bool true), IsV (Value.pointer (some { block := a, off := 0 })), IsV (.int .i64 (J : Int)), IsV (Value.slice (some { block := qo, off := 0 }) J co), IsV (.int .i64 (J : Int)), IsV (.bool true), IsV (.bool true), IsV (.bool true)] := ⟨_, rfl⟩
              have g0 : Hid (gs[0]? = some (IsV (Value.bool true))) := by unfold Hid; rw [hgs]; rfl
              have g1 : Hid (gs[1]? = some (IsV (Value.bool true))) := by unfold Hid; rw [hgs]; rfl
              have g2 : Hid (gs[2]? = some (IsV (Value.slice (some { block := wr.heap.size, off := 0 }) n n))) := by unfold Hid; rw [hgs]; rfl
              have g3 : Hid (gs[3]? = some (IsV (.string (str x)))) := by unfold Hid; rw [hgs]; rfl
              have g4 : Hid (gs[4]? = some (IsV (Value.int IntKind.i64 ↑n))) := by unfold Hid; rw [hgs]; rfl
              have g5 : Hid (gs[5]? = some (IsV (Value.slice (some { block := qo, off := 0 }) J co))) := by unfold Hid; rw [hgs]; rfl
              have g6 : Hid (gs[6]? = some (IsBs x)) := by unfold Hid; rw [hgs]; rfl
              have g7 : Hid (gs[7]? = some (IsV (.string (str x)))) := by unfold Hid; rw [hgs]; rfl
              have g8 : Hid (gs[8]? = some (IsV (.bool true))) := by unfold Hid; rw [hgs]; rfl
              have g9 : Hid (gs[9]? = some (IsV (.bool true))) := by unfold Hid; rw [hgs]; rfl
              have g10 : Hid (gs[10]? = some (IsV (.bool true))) := by unfold Hid; rw [hgs]; rfl
              have g11 : Hid (gs[11]? = some (IsV (Value.pointer (some { block := a, off := 0 })))) := by unfold Hid; rw [hgs]; rfl
              have g12 : Hid (gs[12]? = some (IsV (.int .i64 (J : Int)))) := by unfold Hid; rw [hgs]; rfl
              have g13 : Hid (gs[13]? = some (IsV (Value.slice (some { block := qo, off := 0 }) J co))) := by unfold Hid; rw [hgs]; rfl
              have g14 : Hid (gs[14]? = some (IsV (.int .i64 (J : Int)))) := by unfold Hid; rw [hgs]; rfl
              have g15 : Hid (gs[15]? = some (IsV (.bool true))) := by unfold Hid; rw [hgs]; rfl
              have g16 : Hid (gs[16]? = some (IsV (.bool true))) := by unfold Hid; rw [hgs]; rfl
              have g17 : Hid (gs[17]? = some (IsV (.bool true))) := by unfold Hid; rw [hgs]; rfl
              have gk : Hid (∀ p ∈ gs, Stays p) := by
                unfold Hid
                rw [hgs]
                simp only [List.forall_mem_cons]
                exact ⟨stays_v _, stays_v _, stays_v _, stays_v _, stays_v _, stays_v _, stays_bs _, stays_v _, stays_v _, stays_v _, stays_v _, stays_v _, stays_v _, stays_v _, stays_v _, stays_v _, stays_v _, stays_v _, by simp⟩
              clear hgs
              refine wpAny_inv (fun listed ac W => ∃ xv : Nat → Value, ac = ⟨#[Value.slice (some { block := b0, off := o0 }) J c0, Value.slice a1 ps.length c1, undef, undef, xv 17, Value.slice (some { block := w.heap.size, off := 0 }) 1 1, Value.int IntKind.i64 ↑n, Value.pointer (some { block := a, off := 0 }), Value.slice (some { block := qo, off := 0 }) J co, Value.slice (some { block := qa, off := 0 }) J ca, undef, u11, u12, u13, u14, undef, u16, u17, u18, u19, u20, Value.slice (some { block := wr.heap.size, off := 0 }) n n, Value.bool true, Value.slice (some { block := w.heap.size, off := 0 }) 1 1, Value.slice (some { block := w.heap.size, off := 0 }) 1 1, Value.slice (some { block := w.heap.size + 1, off := 0 }) 1 1, Value.slice (some { block := w.heap.size + 1 + 1, off := 0 }) 1 1, Value.bool true, Value.bool false, Value.bool false, Value.slice (some { block := w.heap.size, off := 0 }) 1 1, Value.pointer (some { block := w.heap.size, off := 0 }), Value.int IntKind.u8 (2 : Int), Value.bool false, Value.bool false, Value.slice (some { block := b0, off := o0 }) J c0, Value.int IntKind.i64 ↑J, Value.bool (decide (↑J < (1 : Int))), Value.bool (decide (↑J < (1 : Int))), Value.slice (some { block := b0, off := o0 }) J c0, Value.int IntKind.i64 ↑J, Value.bool (decide ((20 : Int) < ↑J)), Value.bool (decide (↑J < (1 : Int)) || decide ((20 : Int) < ↑J)), Value.bool (decide (↑J < (1 : Int)) || decide ((20 : Int) < ↑J)), Value.slice a1 ps.length c1, Value.int IntKind.i64 ↑ps.length, Value.bool (decide ((100 : Int) < ↑ps.length)), Value.bool (decide (↑J < (1 : Int)) || decide ((20 : Int) < ↑J) || decide ((100 : Int) < ↑ps.length)), Value.slice (some { block := b0, off := o0 }) J c0, Value.pointer (some { block := b0, off := o0 }), Value.slice af f0 cf, Value.int IntKind.i64 ↑f0, Value.int IntKind.i64 ↑n, Value.int IntKind.i64 ↑n, Value.slice (some { block := b0, off := o0 }) J c0, Value.int IntKind.i64 ↑J, Value.pointer (some { block := a, off := 0 }), Value.slice (some { block := b0, off := o0 }) J c0, Value.int IntKind.i64 ↑J, Value.int IntKind.i64 ↑J, Value.bool false, u61, u62, u63, u64, u65, u66, u67, u68, u69, u70, u71, u72, u73, u74, u75, u76, u77, u78, u79, u80, u81, u82, u83, u84, u85, u86, u87, u88, u89, u90, u91, Value.slice a1 ps.length c1, Value.int IntKind.i64 ↑ps.length, Value.int IntKind.i64 ↑ps.length, Value.bool false, u96, u97, u98, u99, u100, u101, u102, u103, u104, u105, u106, u107, u108, u109, u110, u111, u112, u113, u114, u115, u116, u117, u118, u119, u120, u121, u122, u123, u124, u125, u126, u127, u128, u129, u130, u131, u132, u133, u134, u135, u136, u137, Value.slice (some { block := qo, off := 0 }) J co, Value.int IntKind.i64 ↑J, Value.int IntKind.i64 ↑J, Value.bool false, u142, u143, u144, u145, u146, u147, u148, u149, u150, u151, u152, u153, u154, u155, u156, u157, u158, u159, u160, u161, u162, u163, u164, u165, u166, Value.tuple #[Value.slice (some { block := wr.heap.size, off := 0 }) n n, Value.bool true], Value.int IntKind.i64 ↑n, Value.slice (some { block := qo, off := 0 }) J co, Value.tuple #[Value.slice (some { block := wr.heap.size, off := 0 }) n n, Value.bool true], Value.slice (some { block := wr.heap.size, off := 0 }) n n, Value.bool true, xv 0, xv 1, xv 2, xv 3, xv 4, xv 5, xv 6, xv 7, xv 8, xv 9, xv 10, xv 11, xv 12, xv 13, xv 14, xv 15, xv 16], []⟩ ∧ Below w7.heap.size w7 W ∧ Lst gs listed xv W) (by kernel_rfl) ?_ ?_ _ _ _ _ (by kernel_rfl) (of_decide_eq_true (by kernel_rfl)) ⟨fun j => if j = 17 then u4 else undef, rfl, below0 _, Lst.start _ _ _ _⟩
              · rintro listed ac W ⟨xv, rfl, hb, hG⟩ i hi hd
                have hin : i < 18 := hi
                clear hi
                have hcase : i = 0 ∨ i = 1 ∨ i = 2 ∨ i = 3 ∨ i = 4 ∨ i = 5 ∨ i = 6 ∨ i = 7 ∨ i = 8 ∨ i = 9 ∨ i = 10 ∨ i = 11 ∨ i = 12 ∨ i = 13 ∨ i = 14 ∨ i = 15 ∨ i = 16 ∨ i = 17 := by omega
                rcases hcase with rfl | rfl | rfl | rfl | rfl | rfl | rfl | rfl | rfl | rfl | rfl | rfl | rfl | rfl | rfl | rfl | rfl | rfl
                · refine wpOp_step rfl (fun K' hK => ?_)
                  clear hd hin
                  go_simp
                  exact hK _ _ ⟨updV xv 0 (Value.bool true), by simp [updV], hb, hG.same gk.out g0.out _ rfl⟩
                · refine wpOp_step rfl (fun K' hK => ?_)
                  simp [Region.binds] at hd
                  have e0 : xv 0 = Value.bool true := hG.get g0.out (by simp [hd])
                  clear hd hin
                  go_simp
                  exact hK _ _ ⟨updV xv 1 (Value.bool true), by simp [updV, e0], hb, hG.same gk.out g1.out _ rfl⟩
                · refine wpOp_step rfl (fun K' hK => ?_)
                  simp [Region.binds] at hd
                  have e1 : xv 1 = Value.bool true := hG.get g1.out (by simp [hd])
                  clear hd hin
                  go_simp
                  exact hK _ _ ⟨updV xv 2 (Value.slice (some { block := wr.heap.size, off := 0 }) n n), by simp [updV, e1], hb, hG.same gk.out g2.out _ rfl⟩
                · refine wpOp_step rfl (fun K' hK => ?_)
                  simp [Region.binds] at hd
                  have e2 : xv 2 = Value.slice (some { block := wr.heap.size, off := 0 }) n n := hG.get g2.out (by simp [hd])
                  have e1 : xv 1 = Value.bool true := hG.get g1.out (by simp [hd])
                  have kr := KQ.out W hb
                  clear hd hin
                  go_simp
                  exact hK _ _ ⟨updV xv 3 (.string (str x)), by simp [updV, e2, e1], hb, hG.same gk.out g3.out _ rfl⟩
                · refine wpOp_step rfl (fun K' hK => ?_)
                  simp [Region.binds] at hd
                  have e1 : xv 1 = Value.bool true := hG.get g1.out (by simp [hd])
                  clear hd hin
                  go_simp
                  exact hK _ _ ⟨updV xv 4 (Value.int IntKind.i64 ↑n), by simp [updV, e1], hb, hG.same gk.out g4.out _ rfl⟩
                · refine wpOp_step rfl (fun K' hK => ?_)
                  simp [Region.binds] at hd
                  have e1 : xv 1 = Value.bool true := hG.get g1.out (by simp [hd])
                  clear hd hin
                  go_simp
                  exact hK _ _ ⟨updV xv 5 (Value.slice (some { block := qo, off := 0 }) J co), by simp [updV, e1], hb, hG.same gk.out g5.out _ rfl⟩
                · refine wpOp_step rfl (fun K' hK => ?_)
                  simp [Region.binds] at hd
                  have e4 : xv 4 = Value.int IntKind.i64 ↑n := hG.get g4.out (by simp [hd])
                  have e5 : xv 5 = Value.slice (some { block := qo, off := 0 }) J co := hG.get g5.out (by simp [hd])
                  have e1 : xv 1 = Value.bool true := hG.get g1.out (by simp [hd])
                  clear hd hin
                  go_simp
                  refine (RC.out W hb).mono ?_
                  rintro e w' ⟨v, rfl, hv, hb'⟩
                  go_wp2_with fail
                  exact ⟨updV xv 6 v, by simp [updV, e4, e5, e1], hb.trans (hb'.mono hb.size), hG.step gk.out hb' g6.out v hv⟩
                · refine wpOp_step rfl (fun K' hK => ?_)
                  simp [Region.binds] at hd
                  have m6 : IsBs x (xv 6) W := hG.get g6.out (by simp [hd])
                  have e1 : xv 1 = Value.bool true := hG.get g1.out (by simp [hd])
                  have kr := conv_bytes m6
                  clear hd hin
                  go_simp
                  exact hK _ _ ⟨updV xv 7 (.string (str x)), by simp [updV, e1], hb, hG.same gk.out g7.out _ rfl⟩
                · refine wpOp_step rfl (fun K' hK => ?_)
                  simp [Region.binds] at hd
                  have e3 : xv 3 = .string (str x) := hG.get g3.out (by simp [hd])
                  have e7 : xv 7 = .string (str x) := hG.get g7.out (by simp [hd])
                  have e1 : xv 1 = Value.bool true := hG.get g1.out (by simp [hd])
                  clear hd hin
                  go_simp
                  exact hK _ _ ⟨updV xv 8 (.bool true), by simp [updV, e3, e7, e1], hb, hG.same gk.out g8.out _ rfl⟩
                · refine wpOp_step rfl (fun K' hK => ?_)
                  simp [Region.binds] at hd
                  have e1 : xv 1 = Value.bool true := hG.get g1.out (by simp [hd])
                  have e8 : xv 8 = .bool true := hG.get g8.out (by simp [hd])
                  clear hd hin
                  go_simp
                  exact hK _ _ ⟨updV xv 9 (.bool true), by simp [updV, e1, e8], hb, hG.same gk.out g9.out _ rfl⟩
                · refine wpOp_step rfl (fun K' hK => ?_)
                  simp [Region.binds] at hd
                  have e9 : xv 9 = .bool true := hG.get g9.out (by simp [hd])
                  clear hd hin
                  go_simp
                  exact hK _ _ ⟨updV xv 10 (.bool true), by simp [updV, e9], hb, hG.same gk.out g10.out _ rfl⟩
                · refine wpOp_step rfl (fun K' hK => ?_)
                  simp [Region.binds] at hd
                  have e10 : xv 10 = .bool true := hG.get g10.out (by simp [hd])
                  clear hd hin
                  go_simp
                  exact hK _ _ ⟨updV xv 11 (Value.pointer (some { block := a, off := 0 })), by simp [updV, e10], hb, hG.same gk.out g11.out _ rfl⟩
                · refine wpOp_step rfl (fun K' hK => ?_)
                  simp [Region.binds] at hd
                  have e11 : xv 11 = Value.pointer (some { block := a, off := 0 }) := hG.get g11.out (by simp [hd])
                  have e10 : xv 10 = .bool true := hG.get g10.out (by simp [hd])
                  clear hd hin
                  go_simp
                  refine (LC.out W hb).mono ?_
                  rintro e w' ⟨v, rfl, hv, hb'⟩
                  go_wp2_with fail
                  exact ⟨updV xv 12 v, by simp [updV, e11, e10], hb.trans (hb'.mono hb.size), hG.step gk.out hb' g12.out v hv⟩
                · refine wpOp_step rfl (fun K' hK => ?_)
                  simp [Region.binds] at hd
                  have e10 : xv 10 = .bool true := hG.get g10.out (by simp [hd])
                  clear hd hin
                  go_simp
                  exact hK _ _ ⟨updV xv 13 (Value.slice (some { block := qo, off := 0 }) J co), by simp [updV, e10], hb, hG.same gk.out g13.out _ rfl⟩
                · refine wpOp_step rfl (fun K' hK => ?_)
                  simp [Region.binds] at hd
                  have e13 : xv 13 = Value.slice (some { block := qo, off := 0 }) J co := hG.get g13.out (by simp [hd])
                  have e10 : xv 10 = .bool true := hG.get g10.out (by simp [hd])
                  clear hd hin
                  go_simp
                  exact hK _ _ ⟨updV xv 14 (.int .i64 (J : Int)), by simp [updV, e13, e10], hb, hG.same gk.out g14.out _ rfl⟩
                · refine wpOp_step rfl (fun K' hK => ?_)
                  simp [Region.binds] at hd
                  have e12 : xv 12 = .int .i64 (J : Int) := hG.get g12.out (by simp [hd])
                  have e14 : xv 14 = .int .i64 (J : Int) := hG.get g14.out (by simp [hd])
                  have e10 : xv 10 = .bool true := hG.get g10.out (by simp [hd])
                  clear hd hin
                  go_simp
                  exact hK _ _ ⟨updV xv 15 (.bool true), by simp [updV, e12, e14, e10], hb, hG.same gk.out g15.out _ rfl⟩
                · refine wpOp_step rfl (fun K' hK => ?_)
                  simp [Region.binds] at hd
                  have e10 : xv 10 = .bool true := hG.get g10.out (by simp [hd])
                  have e15 : xv 15 = .bool true := hG.get g15.out (by simp [hd])
                  clear hd hin
                  go_simp
                  exact hK _ _ ⟨updV xv 16 (.bool true), by simp [updV, e10, e15], hb, hG.same gk.out g16.out _ rfl⟩
                · refine wpOp_step rfl (fun K' hK => ?_)
                  simp [Region.binds] at hd
                  have e16 : xv 16 = .bool true := hG.get g16.out (by simp [hd])
                  clear hd hin
                  go_simp
                  exact hK _ _ ⟨updV xv 17 (.bool true), by simp [updV, e16], hb, hG.same gk.out g17.out _ rfl⟩
              · rintro listed ac W ⟨xv, rfl, hb, hG⟩ hall
                have e17 : xv 17 = .bool true := hG.get g17.out (hall 17 (by decide))
                have XW : Hid (Below w7.heap.size w7 W) := hb
                clear hall hG hb gk g0 g1 g2 g3 g4 g5 g6 g7 g8 g9 g10 g11 g12 g13 g14 g15 g16 g17
                rw [e17]
                clear e17
                have XE : Hid (Below w.heap.size w W) := XF.out W (X7l.out.trans (XW.out.mono (by have := STz.out.ar.B_le; have := X7.out.size; omega)))
                go_wp2
                go_ret
                exact ⟨rfl, XE.out⟩

end Go.Proofs.Ytpnjednghpbccaa
