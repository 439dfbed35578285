/-
  The walk of the statement FrameOrder.
-/
import Derived.Test.YtijonjiioeahhaaFrO
namespace Go.Proofs.Ytijonjiioeahhaa
open Go.RowKit
set_option linter.unusedVariables false

set_option maxRecDepth 100000 in
set_option maxHeartbeats 4000000 in
theorem frameOrder_walk (S N B Q E F L I : Int) (pv : Value) (p : List UInt8) (v : Int) (pr : Bool) (w : World) (hw : Bs w pv p ∧ Ok .u64 S ∧ Ok .i64 N ∧ Ok .i64 B ∧ Ok .i64 Q ∧ Ok .i64 E ∧ Ok .i64 F ∧ Ok .i64 L ∧ Ok .u64 I) (hv : (Lit.int .u8 v).wf = true) :
    Calls Try.prog 11 #[.agg #[.int .u64 S, .int .i64 N, .int .i64 B, .int .i64 Q, .int .i64 E, .int .i64 F, .int .i64 L, .int .u64 I, pv], .int .u8 v, .bool pr] w fun e w' => e = .returned (.bool true) ∧ Below w.heap.size w w' := by
  obtain ⟨i0, hi, hz0, hz1, hz2⟩ := info_parts Try.infoByte
  obtain ⟨x, rfl⟩ : ∃ x : UInt8, v = (x.toNat : Int) := by
    have h := bounds_u8 hv
    exact ⟨UInt8.ofNat v.toNat, by simp; omega⟩
  clear hv
  obtain ⟨hp, hS, -, -, -, -, -, -, hI⟩ := hw
  have HP : Hid (Bs w pv p) := hp
  have HSI : Hid (Ok .u64 S ∧ Ok .u64 I) := ⟨hS, hI⟩
  obtain ⟨-, pa, pk, rfl, -, -, -, -⟩ := hp
  obtain ⟨n, hn⟩ : ∃ n, p.length = n := ⟨_, rfl⟩
  rw [hn] at HP ⊢
  have HPN : Hid (p.length = n) := hn
  clear hS hI hn
  go_enter Try.func11, Try.ntmps11
  go_wp2_with fail
  refine (speaks6_any _).mono ?_
  rintro e w1 ⟨rfl, hb1⟩
  have X1 : Hid (Below w.heap.size w w1) := below_mid (below_alloc _ _) hb1
  have N1 : Hid (Nine w1 w.heap.size S N B Q E F L I (.slice pa n pk)) := (nine_new w _ S N B Q E F L I _).below hb1
  clear hb1
  obtain ⟨⟨c0, c1, c2, c3, c4, c5, c6, c7⟩, c8⟩ := N1.out
  by_cases h300 : 300 < n
  · have h300I : (300 : Int) < (n : Int) := by omega
    go_wp2
    go_ret
    exact ⟨rfl, X1.out⟩
  have h300I : ¬ (300 : Int) < (n : Int) := by omega
  by_cases hm : MayH N B Q E F L
  · by_cases hlen : (n : Int) = B
    · obtain ⟨n1, n2, n3, n4, n5, n6, rfl, rfl, rfl, rfl, rfl, rfl⟩ := may_nats hm
      obtain ⟨n0, rfl, hn0⟩ := ok_u64 HSI.out.1
      obtain ⟨n7, rfl, hn7⟩ := ok_u64 HSI.out.2
      have hnn : n = n2 := by omega
      subst hnn
      have HM : Hid (MayH n1 n n3 n4 n5 n6) := hm
      have HN : Hid (n0 < 2 ^ 64 ∧ n7 < 2 ^ 64) := ⟨hn0, hn7⟩
      clear hlen hn0 hn7 HSI hm
      go_wp2_with fail
      refine (renc_yes n0 n1 n n3 n4 n5 n6 n7 pa pk p w1 HM.out HN.out.1 HN.out.2 (HP.out.below X1.out) HPN.out (by omega)).mono ?_
      rintro e w2 ⟨xa, xc, rfl, hbx, hb2⟩
      have X2 : Hid (Below w.heap.size w w2) := below_mid X1.out hb2
      obtain ⟨pb, po, rfl⟩ : ∃ pb po, xa = some ⟨pb, po, none⟩ := by
        obtain ⟨-, a', c', e, -, -, -, h⟩ := hbx
        injection e with e1 e2 _
        rcases h with h | ⟨b, off, h, -⟩
        · rw [frameB_length] at h; omega
        · exact ⟨b, off, e1.trans h⟩
      have L2 : Hid (Bs w2 (.slice (some ⟨pb, po, none⟩) (42 + n) xc) (frameB n0 n1 n n3 n4 n5 n6 n7 p)) := hbx
      have HFL : Hid ((frameB n0 n1 n n3 n4 n5 n6 n7 p).length = 42 + n) := by unfold Hid; rw [frameB_length, HPN.out]
      have HPF : Hid (parseE (frameB n0 n1 n n3 n4 n5 n6 n7 p) = 0) := parse_frame n0 n1 n n3 n4 n5 n6 n7 p HN.out.1 HN.out.2 HM.out HPN.out
      have HTK : Hid ((frameB n0 n1 n n3 n4 n5 n6 n7 p).take (38 + n) = headB n0 n1 n n3 n4 n5 n6 n7 ++ p) := by
        unfold Hid frameB sealB
        exact List.take_left' (by rw [List.length_append, headB_length, HPN.out])
      have HSE : Hid (sealB ((frameB n0 n1 n n3 n4 n5 n6 n7 p).take (38 + n)) = frameB n0 n1 n n3 n4 n5 n6 n7 p) := by unfold Hid; rw [HTK.out]; rfl
      clear hbx hb2 X1 N1 HTK c0 c1 c2 c3 c4 c5 c6 c7 c8 HM HN
      generalize frameB n0 n1 n n3 n4 n5 n6 n7 p = l at *
      by_cases hx1 : x.toNat = 1
      · have hx1I : ((x.toNat : Int) == 1) = true := by simp; omega
        go_wp2
        go_ret
        exact ⟨rfl, X2.out⟩
      have hx1I : ((x.toNat : Int) == 1) = false := by simp; omega
      have HX1 : Hid (x.toNat ≠ 1) := hx1
      clear hx1
      go_wp2_with fail
      refine (fnew_any _).mono ?_
      rintro e w3 ⟨c, g, rfl, hco, hb3, -, -, -⟩
      have C3 : Hid (IsCo w3 c g) := hco
      have X3 : Hid (Below w.heap.size w w3) := below_mid X2.out hb3
      have L3 : Hid (Sl 1 w3 (.slice (some ⟨pb, po, none⟩) (42 + n) xc) (42 + n) (l.map bv)) := by
        have h := L2.out.below hb3
        unfold Bs at h
        rw [HFL.out] at h
        exact h
      have LB : Hid (Bs w3 (.slice (some ⟨pb, po, none⟩) (42 + n) xc) l) := L2.out.below hb3
      clear hco hb3 X2 L2
      go_upto_region 10 with (at_builtin; refine wpList_copy w3 rfl (.tmp 37) (.tmp 38) rfl l _ _ rfl rfl rfl LB.out (by rw [HFL.out]; omega) ?_; intro q4 c4 w4 hown hbel; obtain ⟨qx, cx, px, e4, hqx, hbx, hlx, hcm, hcx⟩ := hown; subst hcx; rw [e4]; clear e4)
      have Y4 : Hid (Below w3.heap.size w3 w4) := hbel
      have B4 : Hid (Blk w4 qx [] l px) := hbx
      have HQX : Hid (w3.heap.size ≤ qx) := hqx
      have HPX : Hid (l.length + px.length ≤ maxLen) := hcm
      have hl42 : 42 ≤ l.length := by rw [HFL.out]; omega
      have hl42I : (42 : Int) ≤ (l.length : Int) := by omega
      have hc2 := B4.out.cell 2 _ (map_bv_at l 2 (by omega))
      have hf2 := B4.out.frozen 2
      simp only [List.length_nil, Nat.zero_add] at hc2
      generalize l[2] = y2 at *
      clear hbel hbx hqx hcm hlx L3
      go_wp2_with fail
      have B5 : Hid (Blk (w4.setCell ⟨qx, 2, none⟩ (.int .u8 (x.toNat : Int))) qx [] (l.set 2 x) px) := by
        have h := B4.out.set 2 (by omega) x
        unfold Hid
        simpa [bv] using h
      have Y5 : Hid (Below w3.heap.size w3 (w4.setCell ⟨qx, 2, none⟩ (.int .u8 (x.toNat : Int)))) := Y4.out.setCell HQX.out _
      clear B4 Y4 hc2 hf2
      obtain ⟨w5, hw5⟩ : ∃ w5, w4.setCell ⟨qx, 2, none⟩ (.int .u8 (x.toNat : Int)) = w5 := ⟨_, rfl⟩
      rw [hw5] at B5 Y5 ⊢
      clear hw5
      have HP6 : Hid (parseE (l.set 2 x) = 6) := parse_version l x HPF.out HX1.out
      have S5 : Hid (Bs w5 (.slice (some ⟨qx, 0, none⟩) l.length (l.length + px.length)) (l.set 2 x)) := B5.out.bs0 l.length (l.length + px.length) (List.length_set).symm (Nat.le_add_right _ _) HPX.out
      have HN6 : Hid (parseE (l.set 2 x) ≠ 0) := by unfold Hid; rw [HP6.out]; simp
      refine (parse_no c g _ (l.set 2 x) w5 (C3.out.below Y5.out) S5.out HN6.out).mono ?_
      rintro e w6 ⟨rfl, hb6⟩
      rw [HP6.out]
      have Y6 : Hid (Below w3.heap.size w3 (w6.alloc (.cells #[.int .u64 0, .int .i64 0, .int .i64 0, .int .i64 0, .int .i64 0, .int .i64 0, .int .i64 0, .int .u64 0, .slice none 0 0] 67))) := below_mid (below_mid Y5.out hb6) (below_alloc _ _)
      have B6 : Hid (Blk (w6.alloc (.cells #[.int .u64 0, .int .i64 0, .int .i64 0, .int .i64 0, .int .i64 0, .int .i64 0, .int .i64 0, .int .u64 0, .slice none 0 0] 67)) qx [] (l.set 2 x) px) := (B5.out.below hb6).below (below_alloc _ _)
      clear hb6 Y5 B5 HP6 S5 HN6
      go_upto_region 12 with (fail)
      obtain ⟨w7, hw7⟩ : ∃ w7, w6.alloc (.cells #[.int .u64 0, .int .i64 0, .int .i64 0, .int .i64 0, .int .i64 0, .int .i64 0, .int .i64 0, .int .u64 0, .slice none 0 0] 67) = w7 := ⟨_, rfl⟩
      rw [hw7] at B6 Y6 ⊢
      clear hw7
      obtain ⟨y0, hy0⟩ : ∃ y, (l.set 2 x)[0]? = some y := ⟨_, List.getElem?_eq_getElem (by rw [List.length_set]; omega)⟩
      have hc0 : w7.cell? ⟨qx, 0, none⟩ = some (.int .u8 (y0.toNat : Int)) := by
        have h := B6.out.cell 0 (.int .u8 (y0.toNat : Int)) (by rw [List.getElem?_map, hy0]; rfl)
        simpa using h
      have hf0 := B6.out.frozen 0
      have hyl := y0.toNat_lt
      have HP5 : Hid (parseE ((l.set 2 x).set 0 (y0 + 1)) = 5) := parse_magic l x y0 HPF.out hy0
      clear hy0
      go_wp2_with fail
      have B8 : Hid (Blk (w7.setCell ⟨qx, 0, none⟩ (.int .u8 (((y0.toNat : Int) + 1) % 256))) qx [] ((l.set 2 x).set 0 (y0 + 1)) px) := by
        have h := B6.out.set 0 (by rw [List.length_set]; omega) (y0 + 1)
        rw [inc_byte]
        unfold Hid
        simpa using h
      have Y8 : Hid (Below w3.heap.size w3 (w7.setCell ⟨qx, 0, none⟩ (.int .u8 (((y0.toNat : Int) + 1) % 256)))) := Y6.out.setCell HQX.out _
      obtain ⟨w8, hw8⟩ : ∃ w8, w7.setCell ⟨qx, 0, none⟩ (.int .u8 (((y0.toNat : Int) + 1) % 256)) = w8 := ⟨_, rfl⟩
      rw [hw8] at B8 Y8 ⊢
      clear hw8 B6 Y6 hc0 hf0
      have S8 : Hid (Bs w8 (.slice (some ⟨qx, 0, none⟩) l.length (l.length + px.length)) ((l.set 2 x).set 0 (y0 + 1))) := B8.out.bs0 l.length (l.length + px.length) (by rw [List.length_set, List.length_set]) (Nat.le_add_right _ _) HPX.out
      have HN5 : Hid (parseE ((l.set 2 x).set 0 (y0 + 1)) ≠ 0) := by unfold Hid; rw [HP5.out]; simp
      refine (parse_no c g _ ((l.set 2 x).set 0 (y0 + 1)) w8 (C3.out.below Y8.out) S8.out HN5.out).mono ?_
      rintro e w9 ⟨rfl, hb9⟩
      rw [HP5.out]
      have Y9 : Hid (Below w3.heap.size w3 (w9.alloc (.cells #[.int .u64 0, .int .i64 0, .int .i64 0, .int .i64 0, .int .i64 0, .int .i64 0, .int .i64 0, .int .u64 0, .slice none 0 0] 67))) := below_mid (below_mid Y8.out hb9) (below_alloc _ _)
      clear hb9 Y8 B8 HP5 S8 HN5
      go_upto_region 14 with (fail)
      obtain ⟨wa, hwa⟩ : ∃ wa, w9.alloc (.cells #[.int .u64 0, .int .i64 0, .int .i64 0, .int .i64 0, .int .i64 0, .int .i64 0, .int .i64 0, .int .u64 0, .slice none 0 0] 67) = wa := ⟨_, rfl⟩
      rw [hwa] at Y9 ⊢
      clear hwa
      have LA : Hid (Bs wa (.slice (some ⟨pb, po, none⟩) (42 + n) xc) l) := LB.out.below Y9.out
      have hxc : 42 + n ≤ xc := by obtain ⟨-, _, _, e, h, -⟩ := LB.out; injection e with _ e2 e3; omega
      obtain ⟨M, hM⟩ : ∃ M, M = 38 + n := ⟨_, rfl⟩
      have HMM : Hid (M = 38 + n) := hM
      have s0 : ∀ W, (Instr.slice 28 (.slice (some ⟨pb, po, none⟩) (42 + n) xc) none (some (.int .i64 (M : Int))) none).run Try.prog W = .ok (.slice (some ⟨pb, po, none⟩) M xc) W := fun W => slice_to W _ (42 + n) xc M (by omega)
      have hsub : IntKind.i64.wrap (42 + (n : Int) - 4) = (M : Int) := by rw [IntKind.wrap_i64]; omega
      have TA : Hid (Bs wa (.slice (some ⟨pb, po, none⟩) M xc) (l.take M)) := LA.out.take (by rw [HFL.out]; omega)
      have HTL : Hid ((l.take M).length = M) := by unfold Hid; rw [List.length_take, HFL.out]; omega
      rw [← hM] at HSE
      have hM338 : M ≤ 338 := by omega
      have hM38 : 38 ≤ M := by omega
      clear hM hxc
      have HMG : Hid (num (l.take M) 0 2 = 16716 ∧ num (l.take M) 2 1 = 1) := by
        obtain ⟨h42, -, -, -, -⟩ := frame_parse l HPF.out
        have hh : headE l = 0 := by
          by_cases e : headE l = 0
          · exact e
          · have h := HPF.out
            rw [pe_head (by omega) e] at h
            exact absurd h e
        unfold headE at hh
        unfold Hid
        rw [num_take l 0 2 M (by omega), num_take l 2 1 M (by omega)]
        split at hh
        · simp at hh
        next h1 =>
          split at hh
          · simp at hh
          next h2 => exact ⟨Classical.not_not.1 h1, Classical.not_not.1 h2⟩
      have htl : (l.take M).length ≤ 338 := by rw [HTL.out]; exact hM338
      have htl2 : 38 ≤ (l.take M).length := by rw [HTL.out]; exact hM38
      generalize l.take M = T at *
      go_upto_region 15 with (at_builtin; refine wpList_copy wa rfl (.tmp 60) (.tmp 65) rfl T _ _ rfl rfl rfl TA.out (by omega) ?_; intro q4' c4' wb hown hbel; obtain ⟨qy, cy, py, e4, hqy, hby, hly, hcm, hcy⟩ := hown; subst hcy; rw [e4]; clear e4)
      have YB : Hid (Below w3.heap.size w3 wb) := below_mid Y9.out hbel
      have BB : Hid (Blk wb qy [] T py) := hby
      have HPY : Hid (T.length + py.length ≤ maxLen) := hcm
      have HQY : Hid (w3.heap.size ≤ qy) := Nat.le_trans Y9.out.size hqy
      clear hbel hby hcm hly hqy s0 hsub TA LA Y9
      cases pr with
      | true =>
        have hc17 := BB.out.cell 17 _ (map_bv_at T 17 (by omega))
        have hf17 := BB.out.frozen 17
        have h17 : (17 : Int) < (T.length : Int) := by omega
        simp only [List.length_nil, Nat.zero_add] at hc17
        generalize T[17] = y17 at *
        go_wp2_with fail
        have BC : Hid (Blk (wb.setCell ⟨qy, 17, none⟩ (.int .u8 0)) qy [] (T.set 17 0) py) := by
          have h := BB.out.set 17 (by omega) 0
          unfold Hid
          simpa [bv] using h
        have YC : Hid (Below w3.heap.size w3 (wb.setCell ⟨qy, 17, none⟩ (.int .u8 0))) := YB.out.setCell HQY.out _
        obtain ⟨wc, hwc⟩ : ∃ wc, wb.setCell ⟨qy, 17, none⟩ (.int .u8 0) = wc := ⟨_, rfl⟩
        rw [hwc] at BC YC ⊢
        clear hwc BB YB hc17 hf17
        have SU : Hid (Bs wc (.slice (some ⟨qy, 0, none⟩) T.length (T.length + py.length)) (T.set 17 0)) := BC.out.bs0 T.length (T.length + py.length) (List.length_set).symm (Nat.le_add_right _ _) HPY.out
        refine (rseal_own _ (T.set 17 0) wc SU.out (by rw [List.length_set]; omega)).mono ?_
        rintro e wd ⟨sa, sc, rfl, ho, hbd⟩
        rw [List.length_set] at ho ⊢
        have YD : Hid (Below w3.heap.size w3 wd) := below_mid YC.out hbd
        have OD : Hid (wd.ownsRow wc.heap.size 5 1 (.slice sa (T.length + 4) sc) (T.length + 4) ((sealB (T.set 17 0)).map bv)) := by unfold Hid sealB; exact ho
        have SD : Hid (wc.heap.size ≤ wd.heap.size) := hbd.size
        have SW : Hid (w3.heap.size ≤ wc.heap.size) := YC.out.size
        clear ho hbd SU BC YC
        go_upto_region 18 with (at_builtin; refine wpList_app _ rfl (.tmp 71) (.tmp 72) 28 rfl wc.heap.size 5 i0 (.int .u8 0) 1 1 Try.underlying28 hi hz0 hz1 hz2 rfl (by decide) (.slice sa (T.length + 4) sc) (T.length + 4) ((sealB (T.set 17 0)).map bv) rfl (OD.out.alloc _) (.slice (some ⟨wd.heap.size, 0, none⟩) 1 1) 1 [.int .u8 0] rfl (alloc_one _ _) (by intro u hu; simp at hu; subst hu; rfl) (by unfold maxLen; omega) (by omega) (by have := SD.out; simp; omega) ?_; intro za zc we hoz hgz hatz hnez hncz hcmz)
        have YE : Hid (Below w3.heap.size w3 we) := (YD.out.alloc YD.out.size _).grown hgz (by have := YD.out.size; simp; omega) (fun k hk => Nat.le_trans SW.out (OD.out.lt k hk).1)
        have ZE : Hid (Bs we (.slice za (T.length + 4 + 1) zc) (sealB (T.set 17 0) ++ [0])) := by
          have e : (sealB (T.set 17 0)).map bv ++ [Value.int .u8 0] = (sealB (T.set 17 0) ++ [0]).map bv := by simp [bv]
          rw [e] at hoz
          have h := owned_sl hoz
          unfold Hid Bs
          rw [List.length_append, sealB_length, List.length_set]
          exact h
        clear hoz hgz hatz hnez hncz hcmz OD SD SW YD
        have HPE : Hid (parseE (sealB (T.set 17 0) ++ [0]) = 1) := by have h := parse_params T (be4 (MathA.sum (T.set 17 0)) ++ [0]) (by simp [be4]; omega) htl2 HMG.out.1 HMG.out.2; unfold Hid sealB; rw [List.append_assoc]; exact h
        have HNE : Hid (parseE (sealB (T.set 17 0) ++ [0]) ≠ 0) := by unfold Hid; rw [HPE.out]; simp
        go_wp2_with fail
        refine (parse_no c g _ (sealB (T.set 17 0) ++ [0]) we (C3.out.below YE.out) ZE.out HNE.out).mono ?_
        rintro e wf ⟨rfl, hbf⟩
        rw [HPE.out]
        have XF : Hid (Below w.heap.size w wf) := below_mid X3.out (below_mid YE.out hbf)
        clear hbf YE ZE HPE HNE
        go_wp2
        go_ret
        exact ⟨rfl, XF.out.alloc XF.out.size _⟩
      | false =>
        go_wp2_with fail
        have SU : Hid (Bs wb (.slice (some ⟨qy, 0, none⟩) T.length (T.length + py.length)) T) := BB.out.bs0 T.length (T.length + py.length) rfl (Nat.le_add_right _ _) HPY.out
        refine (rseal_own _ T wb SU.out (by omega)).mono ?_
        rintro e wd ⟨sa, sc, rfl, ho, hbd⟩
        skip
        have YD : Hid (Below w3.heap.size w3 wd) := below_mid YB.out hbd
        have OD : Hid (wd.ownsRow wb.heap.size 5 1 (.slice sa (T.length + 4) sc) (T.length + 4) ((sealB T).map bv)) := by unfold Hid sealB; exact ho
        have SD : Hid (wb.heap.size ≤ wd.heap.size) := hbd.size
        have SW : Hid (w3.heap.size ≤ wb.heap.size) := YB.out.size
        clear ho hbd SU BB YB
        go_upto_region 18 with (at_builtin; refine wpList_app _ rfl (.tmp 71) (.tmp 72) 28 rfl wb.heap.size 5 i0 (.int .u8 0) 1 1 Try.underlying28 hi hz0 hz1 hz2 rfl (by decide) (.slice sa (T.length + 4) sc) (T.length + 4) ((sealB T).map bv) rfl (OD.out.alloc _) (.slice (some ⟨wd.heap.size, 0, none⟩) 1 1) 1 [.int .u8 0] rfl (alloc_one _ _) (by intro u hu; simp at hu; subst hu; rfl) (by unfold maxLen; omega) (by omega) (by have := SD.out; simp; omega) ?_; intro za zc we hoz hgz hatz hnez hncz hcmz)
        have YE : Hid (Below w3.heap.size w3 we) := (YD.out.alloc YD.out.size _).grown hgz (by have := YD.out.size; simp; omega) (fun k hk => Nat.le_trans SW.out (OD.out.lt k hk).1)
        have ZE : Hid (Bs we (.slice za (T.length + 4 + 1) zc) (sealB T ++ [0])) := by
          have e : (sealB T).map bv ++ [Value.int .u8 0] = (sealB T ++ [0]).map bv := by simp [bv]
          rw [e] at hoz
          have h := owned_sl hoz
          unfold Hid Bs
          rw [List.length_append, sealB_length]
          exact h
        clear hoz hgz hatz hnez hncz hcmz OD SD SW YD
        have HPE : Hid (parseE (sealB T ++ [0]) = 7) := by have h := parse_more l [0] HPF.out (by simp); unfold Hid; rw [HSE.out]; exact h
        have HNE : Hid (parseE (sealB T ++ [0]) ≠ 0) := by unfold Hid; rw [HPE.out]; simp
        go_wp2_with fail
        refine (parse_no c g _ (sealB T ++ [0]) we (C3.out.below YE.out) ZE.out HNE.out).mono ?_
        rintro e wf ⟨rfl, hbf⟩
        rw [HPE.out]
        have XF : Hid (Below w.heap.size w wf) := below_mid X3.out (below_mid YE.out hbf)
        clear hbf YE ZE HPE HNE
        go_wp2
        go_ret
        exact ⟨rfl, XF.out.alloc XF.out.size _⟩
    · go_wp2_with fail
      refine (renc_len S N B Q E F L I pa n pk w1 hm hlen).mono ?_
      rintro e w2 ⟨rfl, hb2⟩
      have X2 : Hid (Below w.heap.size w w2) := below_mid X1.out hb2
      clear hb2 X1 N1 c0 c1 c2 c3 c4 c5 c6 c7 c8 hm
      go_wp2
      go_ret
      exact ⟨rfl, X2.out⟩
  · go_wp2_with fail
    refine (renc_no S N B Q E F L I (.slice pa n pk) w1 hm).mono ?_
    rintro e w2 ⟨rfl, hb2⟩
    have X2 : Hid (Below w.heap.size w w2) := below_mid X1.out hb2
    clear hb2 X1 N1 c0 c1 c2 c3 c4 c5 c6 c7 c8 hm
    go_wp2
    go_ret
    exact ⟨rfl, X2.out⟩

end Go.Proofs.Ytijonjiioeahhaa
