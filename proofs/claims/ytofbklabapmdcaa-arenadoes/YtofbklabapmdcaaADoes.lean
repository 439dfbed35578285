/-
  The walk of the statement ArenaDoes.
-/
import Derived.Test.YtofbklabapmdcaaDoH
namespace Go.Proofs.Ytofbklabapmdcaa
open Go.RowKit
set_option linter.unusedVariables false

/-- The same list in a new row. -/
theorem DoSt.renew {w w1 : World} {a B : Nat} {s : Ar} {size room : Nat} {vl vl' ve : Value} {l : List RB} {es : List Nat} (h : DoSt w a s size room vl ve l es) (hb : Below w.heap.size w w1) (hB : w.heap.size ≤ B) (hO : w1.ownsRow B 37 2 vl' l.length (l.flatMap (rbCells size))) : DoSt w1 a s size room vl' ve l es :=
  ⟨h.ar.below hb, h.sz, h.most, h.made, h.out.newRow hb hB hO (h.out.below hb).blk h.ar.own_lt h.ar.B_le, h.same⟩

set_option maxRecDepth 100000 in
set_option maxHeartbeats 40000000 in
theorem arenaDoes_walk (z m : Int) (v2 : Value) (xs : List Ac) (w : World) (hz : (Lit.int .u8 z).wf = true) (hm : (Lit.int .u8 m).wf = true) (h2 : Acts w v2 xs) :
    Calls Try.prog 3 #[.int .u8 z, .int .u8 m, v2] w fun e w' => e = .returned (.bool true) ∧ Below w.heap.size w w' := by
  obtain ⟨i0, hi, hz0, hz1, hz2⟩ := info_parts Try.infoByte
  obtain ⟨j0, gi, gz0, gz1, gz2⟩ := info_parts Try.infoRBlock
  obtain ⟨t0, ti, tz0, tz1, tz2⟩ := info_parts Try.infoInt
  obtain ⟨hzl, hzu⟩ := bounds_u8 hz
  obtain ⟨hml, hmu⟩ := bounds_u8 hm
  obtain ⟨N0, rfl⟩ := Int.eq_ofNat_of_zero_le hzl
  obtain ⟨N1, rfl⟩ := Int.eq_ofNat_of_zero_le hml
  clear hz hm hzl hml
  have H2 : Hid (Acts w v2 xs) := h2
  obtain ⟨⟨-, a2, c2, rfl, hc2, hm2, -, -⟩, -⟩ := h2
  unfold maxLen at hm2
  obtain ⟨T, hT⟩ : ∃ T, xs.length = T := ⟨_, rfl⟩
  have HT : Hid (xs.length = T) := hT
  rw [hT] at H2 hc2 ⊢
  clear hT
  by_cases hA : 150 < T
  · go_enter Try.func3, Try.ntmps3
    go_wp2_with fail
    refine (speaks4_any w).mono ?_
    rintro e w1 ⟨rfl, hb1⟩
    have X1 : Hid (Below w.heap.size w w1) := hb1
    clear hb1
    go_wp2
    go_ret
    exact ⟨rfl, X1.out⟩
  have hT2 : T ≤ 150 := by omega
  clear hA
  obtain ⟨n, hn, hn40⟩ : ∃ n : Nat, (N0 : Int).tmod 40 = (n : Int) ∧ n < 40 := ⟨N0 % 40, (Int.ofNat_tmod N0 40).symm, Nat.mod_lt _ (by omega)⟩
  obtain ⟨room, hr, hr12⟩ : ∃ n : Nat, (N1 : Int).tmod 12 = (n : Int) ∧ n < 12 := ⟨N1 % 12, (Int.ofNat_tmod N1 12).symm, Nat.mod_lt _ (by omega)⟩
  go_enter Try.func3, Try.ntmps3
  go_wp2_with fail
  refine (speaks4_any w).mono ?_
  rintro e w1 ⟨rfl, hb1⟩
  have X1 : Hid (Below w.heap.size w w1) := hb1
  clear hb1
  go_wp2_with fail
  refine (anew_any (n : Int) (room : Int) w1 (by omega)).mono ?_
  rintro e w2 ⟨rfl, hA2, hb2⟩
  have eS : (max (n : Int) 0).toNat = n := by omega
  rw [eS] at hA2
  have A2 : Hid (IsAr w2 w1.heap.size w1.heap.size ⟨n, room, .slice none 0 0, .slice none 0 0, [], []⟩) := hA2
  have X2 : Hid (Below w1.heap.size w1 w2) := hb2
  clear hA2 hb2 eS hn hr
  obtain ⟨a, ha⟩ : ∃ a, w1.heap.size = a := ⟨_, rfl⟩
  rw [ha] at A2 X2 ⊢
  have Ha : Hid (w1.heap.size = a) := ha
  clear ha
  have XF : Hid (∀ V, Below a w1 V → Below w.heap.size w V) := fun V hV => by
    rw [← Ha.out] at hV
    exact X1.out.trans (hV.mono X1.out.size)
  go_wp2
  go_loopw [10, 11, 12, 39] (fun vl ve pk c wr => ∃ (t E P : Nat) (s : Ar) (l : List RB) (es : List Nat), t ≤ T ∧ c = .int .i64 t ∧ pk = .int .i64 P ∧ s.bl.length = P ∧ es.length = E ∧ E ≤ t ∧ DoSt wr a s n room vl ve l es ∧ Below a w1 wr) (fun _ _ _ c _ => T - (intOf c).toNat)
  case atStart =>
    refine ⟨0, 0, 0, _, [], [], by omega, rfl, rfl, rfl, rfl, by omega, ⟨A2.out, rfl, rfl, by simp, ⟨World.ownsRow_nil _ _ _ _, World.ownsRow_nil _ _ _ _, fun i x h => by simp at h, fun q h => by simp [Value.ownBlock] at h, fun q h => by simp [Value.ownBlock] at h⟩, ⟨fun i x h => by simp at h, fun k h => by simp [Ar.has] at h, by simp, by simp [Ar.live]⟩⟩, X2.out⟩
  case round =>
    obtain ⟨t, E, P, s, l, es, ht, rfl, rfl, hP, hE, hEt, hst, hX⟩ := hrel
    have ST : Hid (DoSt wr a s n room u10 u11 l es) := hst
    have PP : Hid (s.bl.length = P ∧ es.length = E) := ⟨hP, hE⟩
    have XB : Hid (Below a w1 wr) := hX
    obtain ⟨al, cl, hvl, hcl, hclm, -⟩ := owned_slice hst.out.row
    obtain ⟨ae, ce, hve, hce, hcem, -⟩ := owned_slice hst.out.ever
    have hLr : l.length ≤ room := Nat.le_trans hst.len hst.made
    subst hvl
    subst hve
    obtain ⟨L, hL⟩ : ∃ L, l.length = L := ⟨_, rfl⟩
    have HL : Hid (l.length = L) := hL
    rw [hL] at ST hcl hLr ⊢
    rw [hE] at ST hce ⊢
    unfold maxLen at hclm hcem
    clear hst hX hP hE hL
    by_cases htT : t < T
    · have htl : t < xs.length := by rw [HT.out]; exact htT
      obtain ⟨b2, o2, hb2, hcc⟩ : ∃ b off, a2 = some ⟨b, off, none⟩ ∧ ∀ j u, (xs.flatMap Ac.cells)[j]? = some u → w.cell? ⟨b, off + j, none⟩ = some u := by
        obtain ⟨⟨_, a', c', hv, _, _, _, h5⟩, _⟩ := H2.out
        injection hv with e1 _ _
        subst e1
        rcases h5 with h | ⟨b, off, h, hc⟩
        · omega
        · exact ⟨b, off, h, hc⟩
      subst hb2
      have hbw := XF.out _ XB.out
      have hcell : ∀ (j : Nat) u, j < 5 → (xs[t].cells)[j]? = some u → wr.cell? ⟨b2, o2 + t * 5 + j, none⟩ = some u := fun j u hj hu => by
        have h := hcc (t * 5 + j) u (by rw [acts_at xs t htl j hj]; exact hu)
        rw [← Nat.add_assoc] at h
        exact (hbw.cell (cell_block_lt h)).trans h
      have BV : Hid (∀ V, Below a w1 V → Bs V xs[t].v xs[t].b) := fun V hV => (H2.out.2 _ (List.getElem_mem htl)).below (XF.out V hV)
      generalize xs[t] = x at *
      obtain ⟨kd, xi, xk, ev, xv0, xb⟩ := x
      have q0 : wr.cell? ⟨b2, o2 + t * 5, none⟩ = some (.int .i64 kd) := hcell 0 _ (by omega) rfl
      have q1 : wr.cell? ⟨b2, o2 + t * 5 + 1, none⟩ = some (.int .i64 xi) := hcell 1 _ (by omega) rfl
      have q2 : wr.cell? ⟨b2, o2 + t * 5 + 2, none⟩ = some (.int .i64 xk) := hcell 2 _ (by omega) rfl
      have q3 : wr.cell? ⟨b2, o2 + t * 5 + 3, none⟩ = some (.bool ev) := hcell 3 _ (by omega) rfl
      have q4 : wr.cell? ⟨b2, o2 + t * 5 + 4, none⟩ = some xv0 := hcell 4 _ (by omega) rfl
      obtain ⟨-, ab, cb, hvb, hcb, hcbm, -, -⟩ := BV.out wr XB.out
      have hvb' : xv0 = .slice ab xb.length cb := hvb
      subst hvb'
      unfold maxLen at hcbm
      clear hvb hcell hcc hbw
      simp only at BV hcb
      obtain ⟨lb, hlb⟩ : ∃ lb, xb.length = lb := ⟨_, rfl⟩
      have HLB : Hid (xb.length = lb) := hlb
      rw [hlb] at BV hcb q4
      clear hlb
      by_cases hB : 100 < lb
      · have XE : Hid (Below w.heap.size w (wr.alloc (.cells #[.int .i64 kd, .int .i64 xi, .int .i64 xk, .bool ev, .slice ab lb cb] 30))) := XF.out _ (XB.out.trans ((below_alloc _ _).mono ST.out.ar.B_le))
        go_wp2
        go_ret
        exact ⟨rfl, XE.out⟩
      have hlb100 : lb ≤ 100 := by omega
      clear hB
      have XB3 : Hid (Below a w1 (wr.alloc (.cells #[.int .i64 kd, .int .i64 xi, .int .i64 xk, .bool ev, .slice ab lb cb] 30))) := XB.out.trans ((below_alloc _ _).mono ST.out.ar.B_le)
      have ST3 : Hid (DoSt (wr.alloc (.cells #[.int .i64 kd, .int .i64 xi, .int .i64 xk, .bool ev, .slice ab lb cb] 30)) a s n room (.slice al L cl) (.slice ae E ce) l es) := ST.out.below (below_alloc _ _)
      have QB : Hid (∀ V, Below (wr.alloc (.cells #[.int .i64 kd, .int .i64 xi, .int .i64 xk, .bool ev, .slice ab lb cb] 30)).heap.size (wr.alloc (.cells #[.int .i64 kd, .int .i64 xi, .int .i64 xk, .bool ev, .slice ab lb cb] 30)) V → V.cell? ⟨wr.heap.size, 0, none⟩ = some (.int .i64 kd) ∧ V.cell? ⟨wr.heap.size, 4, none⟩ = some (.slice ab lb cb)) := by
        intro V hV
        refine ⟨(hV.cell (by simp)).trans ?_, (hV.cell (by simp)).trans ?_⟩
        · rw [World.cell?_alloc_new]; rfl
        · rw [World.cell?_alloc_new]; rfl
      go_wp2_with fail
      refine (meant_any kd xi xk ev ab lb cb _ es _ ST3.out.nums (by rw [PP.out.2]; omega)).mono ?_
      rintro e w4 ⟨i, k, rfl, hb4⟩
      have ST4 : Hid (DoSt w4 a s n room (.slice al L cl) (.slice ae E ce) l es) := ST3.out.below hb4
      have XB4 : Hid (Below a w1 w4) := XB3.out.trans (hb4.mono ST3.out.ar.B_le)
      obtain ⟨qk0, qk4⟩ := QB.out w4 hb4
      have B4 : Hid (Bs w4 (.slice ab lb cb) xb) := BV.out w4 XB4.out
      clear hb4 ST3 XB3 QB ST XB q0 q1 q2 q3 q4
      have hPr : P ≤ room := by have := ST4.out.made; rw [PP.out.1] at this; exact this
      have hLP : L ≤ P := by have := ST4.out.len; rw [PP.out.1, HL.out] at this; exact this
      have LV : Hid ((s.bl.length : Int) - (s.back.length : Int) = (L : Int)) := by have := ST4.out.same.live; rw [HL.out] at this; exact this
      by_cases hk0 : kd = 0
      · as_aux_lemma =>
          subst hk0
          by_cases hLroom : L < room
          · have HLV : Hid (s.live < s.most) := by unfold Hid Ar.live; rw [ST4.out.most, LV.out]; omega
            go_wp2_with fail
            refine (alloc_yes a a s w4 ST4.out.ar HLV.out (by rw [PP.out.1]; omega)).mono ?_
            rintro e w5 ⟨kk, s5, rfl, hA5, hk5, how5, hS5⟩
            have O5 : Hid (DoOut w5 a (s5.own a) n (.slice al L cl) (.slice ae E ce) l es) := ST4.out.out.keep hk5 how5
            have A5 : Hid (IsAr w5 a a s5) := hA5
            have X5 : Hid (Below a w1 w5) := ST4.out.ar.step XB4.out hk5 ST4.out.ar.B_le
            have S5 : Hid (Alloced s s5 kk ∧ s.size = n ∧ s5.size = n ∧ s5.most = (room : Int)) := ⟨hS5, ST4.out.sz, by rw [hS5.size]; exact ST4.out.sz, by rw [hS5.most]; exact ST4.out.most⟩
            have HP5 : Hid (s5.bl.length ≤ room ∧ max (P : Int) ((L : Int) + 1) = (s5.bl.length : Int)) := by
              have e := hS5.len
              have lv := LV.out
              have p1 := PP.out.1
              by_cases hbk : s.back = []
              · rw [if_pos hbk] at e
                rw [hbk] at lv
                simp at lv
                exact ⟨by omega, by omega⟩
              · rw [if_neg hbk] at e
                have := List.length_pos_iff.2 hbk
                exact ⟨by omega, by omega⟩
            have HK5 : Hid (kk < room) := by
              obtain ⟨q, hq⟩ := hS5.there
              have := (List.getElem?_eq_some_iff.1 hq).1
              have := HP5.out.1
              unfold Hid
              omega
            have HFN : Hid (findI l (kk : Int) = -1) := by
              rcases find_same ST4.out.same (kk : Int) with ⟨j, y, q, hj, hy, hf, hq, hh⟩ | ⟨hf, -, -⟩
              · exfalso
                have e : y.n = kk := by omega
                rw [e] at hq
                have := hS5.was _ hq
                cases this
              · exact hf
            have RB5 : Hid (RBs w5 n (.slice al L cl) l) := owned_slN O5.out.row
            have SM5 : Hid (∀ q, SameL (l ++ [⟨kk, q, zeros n⟩]) s5) := fun q => by have h := ST4.out.same.alloc (q := q) hS5; rw [ST4.out.sz] at h; exact h
            clear hA5 hk5 how5 hS5 HLV ST4 XB4
            have hkr : (kk : Int) < (room : Int) := by have := HK5.out; omega
            have hkr' : ¬ (kk : Int) ≥ (room : Int) := by omega
            have hk00 : ¬ (kk : Int) < 0 := by omega
            go_wp2_with fail
            refine (find_any n _ l (kk : Int) w5 RB5.out).mono ?_
            rintro e wd ⟨rfl, hwd⟩
            obtain rfl := hwd.symm
            rw [HFN.out]
            clear RB5 HFN
            go_upto_region 25 with (first
              | (at_make; refine wpList_make_full _ rfl _ _ 28 rfl w5.heap.size 5 i0 (.int .u8 0) 1 Try.underlying28 hi hz0 hz1 _ _ _ _ n rfl rfl rfl rfl (by rw [hz2]; omega) (by unfold maxLen; omega) (Nat.le_refl _) ?_; intro w6 ho hgrow; have B6 : Hid (Blk w6 w5.heap.size [] (zeros n) []) := made_blk ho; have X6 : Hid (Below w5.heap.size w5 w6) := below_new hgrow; clear ho hgrow; have O6 : Hid (DoOut w6 a (s5.own a) n (.slice al L cl) (.slice ae E ce) l es) := O5.out.below X6.out; have N6 : Hid (a ≤ w5.heap.size ∧ ¬ s5.own a w5.heap.size) := ⟨A5.out.B_le, fun h => by have := A5.out.own_lt _ h; omega⟩; have A6 : Hid (IsAr w6 a a s5) := A5.out.below X6.out; have XZ6 : Hid (Below a w1 w6) := X5.out.trans (X6.out.mono A5.out.B_le); clear O5 A5 X5 X6; generalize w5.heap.size = qn at *; have O6a : Hid (DoOut (w6.alloc (.cells #[.int .i64 (kk : Int), .slice (some ⟨qn, 0, none⟩) n n] 37)) a (s5.own a) n (.slice al L cl) (.slice ae E ce) l es) := O6.out.below (below_alloc _ _); have HO6 : (w6.alloc (.cells #[.int .i64 (kk : Int), .slice (some ⟨qn, 0, none⟩) n n] 37)).ownsRow a 37 2 (.slice al L cl) L (l.flatMap (rbCells n)) := (by have h := O6a.out.row; rw [HL.out] at h; exact h))
              | (at_builtin; (refine wpList_app _ rfl (.tmp 80) (.tmp 85) 26 rfl a 37 j0 _ 2 32 Try.underlying26 gi gz0 gz1 gz2 rfl (by decide) (.slice al L cl) L (l.flatMap (rbCells n)) rfl HO6 _ 1 _ rfl (lit2 _ _ _ _) (by simp [Value.oneCell']) (by unfold maxLen; omega) (by omega) (by have := A6.out.B_le; simp; omega) ?_); intro a7 c7 w7 hO7 hg7 hat7 hne7 hnc7 hcm7)
              | (at_builtin; (refine wpList_app _ rfl (.tmp 87) (.tmp 89) 27 rfl a 3 t0 (.int .i64 0) 1 8 Try.underlying27 ti tz0 tz1 tz2 rfl (by decide) (.slice ae E ce) E (natRow es) rfl (by have h := O6a.out.ever_kept hg7; rw [PP.out.2] at h; exact h.alloc _) _ 1 _ rfl (alloc_one _ _) (by simp [Value.oneCell']) (by unfold maxLen; omega) (by omega) (by have := A6.out.B_le; have := hg7.size; simp at this ⊢; omega) ?_); intro a9 c9 w9 hO9 hg9 hat9 hne9 hnc9 hcm9))
            have A6a : Hid (IsAr (w6.alloc (.cells #[.int .i64 (kk : Int), .slice (some ⟨qn, 0, none⟩) n n] 37)) a a s5) := A6.out.below (below_alloc _ _)
            obtain ⟨O9, hS9⟩ := O6a.out.push (x := ⟨kk, qn, zeros n⟩) (B6.out.below (below_alloc _ _)) (by simp [zeros]) N6.out.1 N6.out.2 (fun j hj => A6a.out.own_lt j hj) hg7 (by rw [HL.out]; exact hO7) hat7 (below_alloc _ _) hg9 (by rw [PP.out.2]; exact hO9) hat9
            have A9 : IsAr w9 a a s5 := A6a.out.kept (fun k hk => hS9 k (A6a.out.own_lt k hk) hk)
            have D9 : DoSt w9 a s5 n room (.slice a7 (L + 1) c7) (.slice a9 (E + 1) c9) (l ++ [⟨kk, qn, zeros n⟩]) (es ++ [kk]) := ⟨A9, S5.out.2.2.1, S5.out.2.2.2, HP5.out.1, O9, SM5.out qn⟩
            have XZ : Hid (Below a w1 w9) := by
              have b6 : Below a w1 (w6.alloc (.cells #[.int .i64 (kk : Int), .slice (some ⟨qn, 0, none⟩) n n] 37)) := XZ6.out.trans ((below_alloc _ _).mono A6.out.B_le)
              have b7 : Below a w1 w7 := b6.grown hg7 A6a.out.B_le (fun k hk => (HO6.lt k hk).1)
              have s7 : a ≤ w7.heap.size := Nat.le_trans A6a.out.B_le hg7.size
              have b8 := b7.trans ((below_alloc w7 (.cells #[.int .i64 (kk : Int)] 3)).mono s7)
              exact b8.grown hg9 (Nat.le_trans s7 (below_alloc _ _).size) (fun k hk => (O6a.out.ever.lt k hk).1)
            have eL : (l ++ [(⟨kk, qn, zeros n⟩ : RB)]).length = L + 1 := by rw [List.length_append, HL.out]; rfl
            have eE : (es ++ [kk]).length = E + 1 := by rw [List.length_append, PP.out.2]; rfl
            have HM0 := HP5.out.2
            have hPr9 := HP5.out.1
            unfold maxLen at hcm7 hcm9
            clear O9 hS9 A9 hO7 hg7 hat7 hne7 hO9 hg9 hat9 hne9 HO6 O6 O6a A6 A6a XZ6 N6 B6 S5 HP5 HK5 SM5 LV
            generalize l ++ [(⟨kk, qn, zeros n⟩ : RB)] = l9 at *
            generalize es ++ [kk] = es9 at *
            obtain ⟨L9, hL9⟩ : ∃ x, L + 1 = x := ⟨_, rfl⟩
            obtain ⟨E9, hE9⟩ : ∃ x, E + 1 = x := ⟨_, rfl⟩
            obtain ⟨P9, hP9⟩ : ∃ x, s5.bl.length = x := ⟨_, rfl⟩
            have hL9I : (L : Int) + 1 = (L9 : Int) := by omega
            rw [hL9] at D9 eL hnc7 ⊢
            rw [hE9] at D9 eE hnc9 ⊢
            rw [hL9I, hP9] at HM0
            rw [hP9] at hPr9
            have hE9t : E9 ≤ t + 1 := by omega
            have hLP9 : L9 ≤ P9 := by have := D9.len; rw [eL, hP9] at this; exact this
            have DS : Hid (DoSt w9 a s5 n room (.slice a7 L9 c7) (.slice a9 E9 c9) l9 es9) := D9
            have DL : Hid (l9.length = L9 ∧ es9.length = E9 ∧ s5.bl.length = P9) := ⟨eL, eE, hP9⟩
            have DV : Hid ((s5.bl.length : Int) - (s5.back.length : Int) = (L9 : Int)) := by have := D9.same.live; rw [eL] at this; exact this
            have HM : Hid (max (P : Int) (L9 : Int) = (P9 : Int)) := HM0
            clear D9 eL eE HM0 hP9 hL9 hE9 hL9I
            as_aux_lemma =>
              have hmx := max2 (P : Int) (L9 : Int)
              rw [HM.out] at hmx
              go_wp2_with fail
              refine (alive_any a a s5 w9 DS.out.ar).mono ?_
              rintro e wa ⟨rfl, nd, rfl⟩
              rw [DV.out]
              go_wp2_with fail
              refine (apeak_any a a s5 _ (DS.out.ar.below (below_drewN (Below.refl _ _) _))).mono ?_
              rintro e wb ⟨rfl, hwb⟩
              obtain rfl := hwb.symm
              rw [DL.out.2.2]
              have DS1 : Hid (DoSt (w9.drewN nd) a s5 n room (.slice a7 L9 c7) (.slice a9 E9 c9) l9 es9) := DS.out.below (below_drewN (Below.refl _ _) _)
              have XZ1 : Hid (Below a w1 (w9.drewN nd)) := below_drewN XZ.out _
              clear DS XZ hmx
              go_wp2_with fail
              refine (same_any a s5 n _ l9 room (w9.drewN nd) DS1.out.ar DS1.out.sz DS1.out.rbs DS1.out.same (fun i x hx => ⟨(DS1.out.out.blk i x hx).1, (DS1.out.out.blk i x hx).2.1⟩) (by have := DS1.out.len; have := DS1.out.made; omega) (by omega) (by omega)).mono ?_
              rintro e wc ⟨rfl, hbc⟩
              have DS2 : Hid (DoSt wc a s5 n room (.slice a7 L9 c7) (.slice a9 E9 c9) l9 es9) := DS1.out.below hbc
              have XZ2 : Hid (Below a w1 wc) := XZ1.out.trans (hbc.mono DS1.out.ar.B_le)
              clear DS1 XZ1 hbc
              rcases find_same DS2.out.same i with ⟨j, y, q, hj, hy, hf, hq, hh⟩ | ⟨hf, hh, -⟩
              · have hjL : j < L9 := by rw [← DL.out.1]; exact (List.getElem?_eq_some_iff.1 hj).1
                have hcc := DS2.out.rbs.cells hj
                obtain ⟨bl0, ol0, hal, -, hcl1⟩ := hcc
                have hby := DS2.out.out.blk j y hj
                have BY : Hid (Bs wc (.slice (some ⟨y.q, 0, none⟩) n n) y.b) := hby.1.bs0 n n hby.2.1.symm (Nat.le_refl _) (by unfold maxLen; omega)
                have eZ : (s5.has i && zeroB (s5.bytes i)) = zeroB y.b := by
                  rw [hh]
                  have e2 : s5.bytes i = y.b := by rw [← hy]; simp [Ar.bytes, hq]
                  rw [e2]
                  rfl
                have HZZ : Hid ((s5.has i && zeroB (s5.bytes i)) = zeroB y.b) := eZ
                have HF : Hid (findI l9 i = (j : Int)) := hf
                have HH : Hid (s5.has i = true) := hh
                have hjI : (j : Int) < (L9 : Int) := by omega
                clear eZ hf hh hq hj hy hby
                subst hal
                go_wp2_with fail
                refine (find_any n _ l9 i wc DS2.out.rbs).mono ?_
                rintro e wd ⟨rfl, hwd⟩
                obtain rfl := hwd.symm
                rw [HF.out]
                go_wp2_with fail
                refine (has_any a a s5 i wc DS2.out.ar).mono ?_
                rintro e wd ⟨rfl, hwd⟩
                obtain rfl := hwd.symm
                rw [HH.out]
                go_wp2_with fail
                refine (azero_any a a s5 i wc DS2.out.ar).mono ?_
                rintro e wd ⟨rfl, hwd⟩
                obtain rfl := hwd.symm
                rw [HZZ.out]
                generalize y.b = yb at *
                go_wp2_with fail
                refine (rzero_any _ yb wc BY.out).mono ?_
                rintro e wd ⟨rfl, hwd⟩
                obtain rfl := hwd.symm
                go_wp2
                go_roundw
                case rel => exact ⟨t + 1, E9, P9, s5, l9, es9, by omega, by go_num, rfl, DL.out.2.2, DL.out.2.1, by omega, DS2.out, XZ2.out⟩
                case measure => simp [intOf]; omega
              · have HF : Hid (findI l9 i = -1) := hf
                have HH : Hid (s5.has i = false) := hh
                clear hf hh
                go_wp2_with fail
                refine (find_any n _ l9 i wc DS2.out.rbs).mono ?_
                rintro e wd ⟨rfl, hwd⟩
                obtain rfl := hwd.symm
                rw [HF.out]
                go_wp2_with fail
                refine (has_any a a s5 i wc DS2.out.ar).mono ?_
                rintro e wd ⟨rfl, hwd⟩
                obtain rfl := hwd.symm
                rw [HH.out]
                go_wp2_with fail
                refine (azero_any a a s5 i wc DS2.out.ar).mono ?_
                rintro e wd ⟨rfl, hwd⟩
                obtain rfl := hwd.symm
                rw [HH.out]
                go_wp2
                go_roundw
                case rel => exact ⟨t + 1, E9, P9, s5, l9, es9, by omega, by go_num, rfl, DL.out.2.2, DL.out.2.1, by omega, DS2.out, XZ2.out⟩
                case measure => simp [intOf]; omega
          · have hLre : room ≤ L := by omega
            clear hLroom
            have HLV : Hid (s.most ≤ s.live) := by unfold Hid Ar.live; rw [ST4.out.most, LV.out]; omega
            go_wp2_with fail
            refine (alloc_no a a s w4 ST4.out.ar HLV.out).mono ?_
            rintro e w7 ⟨rfl, hx7⟩
            have DS : Hid (DoSt w7 a s n room (.slice al L cl) (.slice ae E ce) l es) := ST4.out.below hx7
            have XZ : Hid (Below a w1 w7) := XB4.out.trans (hx7.mono ST4.out.ar.B_le)
            clear hx7 ST4 XB4 HLV
            have DL : Hid (l.length = L ∧ es.length = E ∧ s.bl.length = P) := ⟨HL.out, PP.out.2, PP.out.1⟩
            have DV : Hid ((s.bl.length : Int) - (s.back.length : Int) = (L : Int)) := LV.out
            have HM : Hid (max (P : Int) (L : Int) = (P : Int)) := by unfold Hid; omega
            as_aux_lemma =>
              have hmx := max2 (P : Int) (L : Int)
              rw [HM.out] at hmx
              go_wp2_with fail
              refine (alive_any a a s w7 DS.out.ar).mono ?_
              rintro e wa ⟨rfl, nd, rfl⟩
              rw [DV.out]
              go_wp2_with fail
              refine (apeak_any a a s _ (DS.out.ar.below (below_drewN (Below.refl _ _) _))).mono ?_
              rintro e wb ⟨rfl, hwb⟩
              obtain rfl := hwb.symm
              rw [DL.out.2.2]
              have DS1 : Hid (DoSt (w7.drewN nd) a s n room (.slice al L cl) (.slice ae E ce) l es) := DS.out.below (below_drewN (Below.refl _ _) _)
              have XZ1 : Hid (Below a w1 (w7.drewN nd)) := below_drewN XZ.out _
              clear DS XZ hmx
              go_wp2_with fail
              refine (same_any a s n _ l room (w7.drewN nd) DS1.out.ar DS1.out.sz DS1.out.rbs DS1.out.same (fun i x hx => ⟨(DS1.out.out.blk i x hx).1, (DS1.out.out.blk i x hx).2.1⟩) (by have := DS1.out.len; have := DS1.out.made; omega) (by omega) (by omega)).mono ?_
              rintro e wc ⟨rfl, hbc⟩
              have DS2 : Hid (DoSt wc a s n room (.slice al L cl) (.slice ae E ce) l es) := DS1.out.below hbc
              have XZ2 : Hid (Below a w1 wc) := XZ1.out.trans (hbc.mono DS1.out.ar.B_le)
              clear DS1 XZ1 hbc
              rcases find_same DS2.out.same i with ⟨j, y, q, hj, hy, hf, hq, hh⟩ | ⟨hf, hh, -⟩
              · have hjL : j < L := by rw [← DL.out.1]; exact (List.getElem?_eq_some_iff.1 hj).1
                have hcc := DS2.out.rbs.cells hj
                obtain ⟨bl0, ol0, hal, -, hcl1⟩ := hcc
                have hby := DS2.out.out.blk j y hj
                have BY : Hid (Bs wc (.slice (some ⟨y.q, 0, none⟩) n n) y.b) := hby.1.bs0 n n hby.2.1.symm (Nat.le_refl _) (by unfold maxLen; omega)
                have eZ : (s.has i && zeroB (s.bytes i)) = zeroB y.b := by
                  rw [hh]
                  have e2 : s.bytes i = y.b := by rw [← hy]; simp [Ar.bytes, hq]
                  rw [e2]
                  rfl
                have HZZ : Hid ((s.has i && zeroB (s.bytes i)) = zeroB y.b) := eZ
                have HF : Hid (findI l i = (j : Int)) := hf
                have HH : Hid (s.has i = true) := hh
                have hjI : (j : Int) < (L : Int) := by omega
                clear eZ hf hh hq hj hy hby
                subst hal
                go_wp2_with fail
                refine (find_any n _ l i wc DS2.out.rbs).mono ?_
                rintro e wd ⟨rfl, hwd⟩
                obtain rfl := hwd.symm
                rw [HF.out]
                go_wp2_with fail
                refine (has_any a a s i wc DS2.out.ar).mono ?_
                rintro e wd ⟨rfl, hwd⟩
                obtain rfl := hwd.symm
                rw [HH.out]
                go_wp2_with fail
                refine (azero_any a a s i wc DS2.out.ar).mono ?_
                rintro e wd ⟨rfl, hwd⟩
                obtain rfl := hwd.symm
                rw [HZZ.out]
                generalize y.b = yb at *
                go_wp2_with fail
                refine (rzero_any _ yb wc BY.out).mono ?_
                rintro e wd ⟨rfl, hwd⟩
                obtain rfl := hwd.symm
                go_wp2
                go_roundw
                case rel => exact ⟨t + 1, E, P, s, l, es, by omega, by go_num, rfl, DL.out.2.2, DL.out.2.1, by omega, DS2.out, XZ2.out⟩
                case measure => simp [intOf]; omega
              · have HF : Hid (findI l i = -1) := hf
                have HH : Hid (s.has i = false) := hh
                clear hf hh
                go_wp2_with fail
                refine (find_any n _ l i wc DS2.out.rbs).mono ?_
                rintro e wd ⟨rfl, hwd⟩
                obtain rfl := hwd.symm
                rw [HF.out]
                go_wp2_with fail
                refine (has_any a a s i wc DS2.out.ar).mono ?_
                rintro e wd ⟨rfl, hwd⟩
                obtain rfl := hwd.symm
                rw [HH.out]
                go_wp2_with fail
                refine (azero_any a a s i wc DS2.out.ar).mono ?_
                rintro e wd ⟨rfl, hwd⟩
                obtain rfl := hwd.symm
                rw [HH.out]
                go_wp2
                go_roundw
                case rel => exact ⟨t + 1, E, P, s, l, es, by omega, by go_num, rfl, DL.out.2.2, DL.out.2.1, by omega, DS2.out, XZ2.out⟩
                case measure => simp [intOf]; omega
      by_cases hk1 : kd = 1
      · as_aux_lemma =>
          subst hk1
          rcases find_same ST4.out.same i with ⟨j, y, q, hj, hy, hf, hq, hh⟩ | ⟨hf, hh, hno⟩
          · obtain ⟨kk, hkk⟩ : ∃ kk : Nat, i = (kk : Int) := ⟨y.n, hy.symm⟩
            subst hkk
            have hyk : y.n = kk := by omega
            rw [hyk] at hq
            have HF : Hid (findI l (kk : Int) = (j : Int)) := hf
            have HQ : Hid (s.bl[kk]? = some ⟨q, y.b, true⟩) := hq
            clear hf hq hh hj hy hyk hk0
            go_wp2_with fail
            refine (find_any n _ l kk w4 ST4.out.rbs).mono ?_
            rintro e wd ⟨rfl, hwd⟩
            obtain rfl := hwd.symm
            rw [HF.out]
            go_wp2_with fail
            refine (free_yes a a s kk _ w4 ST4.out.ar HQ.out rfl (by rw [PP.out.1]; omega)).mono ?_
            rintro e w5 ⟨rfl, vb5, hA5, hk5, hv5⟩
            have RB5 : Hid (RBs w5 n (.slice al L cl) l) := owned_slN (owns_kept ST4.out.out.row (fun q hq => hk5.block q (ST4.out.out.row.lt q hq).2 (ST4.out.out.offl q hq)))
            have X5 : Hid (Below a w1 w5) := ST4.out.ar.step XB4.out hk5 ST4.out.ar.B_le
            have A5 : Hid (IsAr w5 a a (s.freed kk vb5) ∧ KeepsBut (s.own a) w4 w5 ∧ (vb5.ownBlock = s.vb.ownBlock ∨ ∃ q, vb5.ownBlock = some q ∧ w4.heap.size ≤ q)) := ⟨hA5, hk5, hv5⟩
            clear hA5 hk5 hv5
            go_wp2_with fail
            refine (drop_any n _ l (kk : Int) w5 RB5.out (by rw [HL.out]; omega)).mono ?_
            rintro e w6 ⟨v6, rfl, hO6, hb6⟩
            have D6 := ST4.out.free HQ.out rfl A5.out.1 A5.out.2.1 A5.out.2.2 hb6 (Nat.le_refl _) hO6
            have XZ : Hid (Below a w1 w6) := X5.out.trans (hb6.mono A5.out.1.B_le)
            have eP : (s.freed kk vb5).bl.length = P := by
              rw [← PP.out.1]
              show (s.bl.modify kk fun x => { x with g := false }).length = _
              simp
            obtain ⟨al6, cl6, hv6, hc6, hcm6, -⟩ := owned_slice hO6
            subst hv6
            unfold maxLen at hcm6
            clear hO6 hb6 A5 X5 RB5 HQ ST4 XB4 LV
            generalize l.filter (offN (kk : Int)) = l6 at *
            generalize s.freed kk vb5 = s6 at *
            obtain ⟨L6, hL6⟩ : ∃ L6, l6.length = L6 := ⟨_, rfl⟩
            rw [hL6] at D6 hc6 ⊢
            have hLP6 : L6 ≤ P := by have := D6.len; rw [eP, hL6] at this; exact this
            have DS : Hid (DoSt w6 a s6 n room (.slice al6 L6 cl6) (.slice ae E ce) l6 es) := D6
            have DL : Hid (l6.length = L6 ∧ es.length = E ∧ s6.bl.length = P) := ⟨hL6, PP.out.2, eP⟩
            have DV : Hid ((s6.bl.length : Int) - (s6.back.length : Int) = (L6 : Int)) := by have := D6.same.live; rw [hL6] at this; exact this
            have HM : Hid (max (P : Int) (L6 : Int) = (P : Int)) := by unfold Hid; omega
            clear D6 eP hL6
            as_aux_lemma =>
              have hmx := max2 (P : Int) (L6 : Int)
              rw [HM.out] at hmx
              go_wp2_with fail
              refine (alive_any a a s6 w6 DS.out.ar).mono ?_
              rintro e wa ⟨rfl, nd, rfl⟩
              rw [DV.out]
              go_wp2_with fail
              refine (apeak_any a a s6 _ (DS.out.ar.below (below_drewN (Below.refl _ _) _))).mono ?_
              rintro e wb ⟨rfl, hwb⟩
              obtain rfl := hwb.symm
              rw [DL.out.2.2]
              have DS1 : Hid (DoSt (w6.drewN nd) a s6 n room (.slice al6 L6 cl6) (.slice ae E ce) l6 es) := DS.out.below (below_drewN (Below.refl _ _) _)
              have XZ1 : Hid (Below a w1 (w6.drewN nd)) := below_drewN XZ.out _
              clear DS XZ hmx
              go_wp2_with fail
              refine (same_any a s6 n _ l6 room (w6.drewN nd) DS1.out.ar DS1.out.sz DS1.out.rbs DS1.out.same (fun i x hx => ⟨(DS1.out.out.blk i x hx).1, (DS1.out.out.blk i x hx).2.1⟩) (by have := DS1.out.len; have := DS1.out.made; omega) (by omega) (by omega)).mono ?_
              rintro e wc ⟨rfl, hbc⟩
              have DS2 : Hid (DoSt wc a s6 n room (.slice al6 L6 cl6) (.slice ae E ce) l6 es) := DS1.out.below hbc
              have XZ2 : Hid (Below a w1 wc) := XZ1.out.trans (hbc.mono DS1.out.ar.B_le)
              clear DS1 XZ1 hbc
              rcases find_same DS2.out.same (kk : Int) with ⟨j, y, q, hj, hy, hf, hq, hh⟩ | ⟨hf, hh, -⟩
              · have hjL : j < L6 := by rw [← DL.out.1]; exact (List.getElem?_eq_some_iff.1 hj).1
                have hcc := DS2.out.rbs.cells hj
                obtain ⟨bl0, ol0, hal, -, hcl1⟩ := hcc
                have hby := DS2.out.out.blk j y hj
                have BY : Hid (Bs wc (.slice (some ⟨y.q, 0, none⟩) n n) y.b) := hby.1.bs0 n n hby.2.1.symm (Nat.le_refl _) (by unfold maxLen; omega)
                have eZ : (s6.has (kk : Int) && zeroB (s6.bytes (kk : Int))) = zeroB y.b := by
                  rw [hh]
                  have e2 : s6.bytes (kk : Int) = y.b := by rw [← hy]; simp [Ar.bytes, hq]
                  rw [e2]
                  rfl
                have HZZ : Hid ((s6.has (kk : Int) && zeroB (s6.bytes (kk : Int))) = zeroB y.b) := eZ
                have HF : Hid (findI l6 (kk : Int) = (j : Int)) := hf
                have HH : Hid (s6.has (kk : Int) = true) := hh
                have hjI : (j : Int) < (L6 : Int) := by omega
                clear eZ hf hh hq hj hy hby
                subst hal
                go_wp2_with fail
                refine (find_any n _ l6 (kk : Int) wc DS2.out.rbs).mono ?_
                rintro e wd ⟨rfl, hwd⟩
                obtain rfl := hwd.symm
                rw [HF.out]
                go_wp2_with fail
                refine (has_any a a s6 (kk : Int) wc DS2.out.ar).mono ?_
                rintro e wd ⟨rfl, hwd⟩
                obtain rfl := hwd.symm
                rw [HH.out]
                go_wp2_with fail
                refine (azero_any a a s6 (kk : Int) wc DS2.out.ar).mono ?_
                rintro e wd ⟨rfl, hwd⟩
                obtain rfl := hwd.symm
                rw [HZZ.out]
                generalize y.b = yb at *
                go_wp2_with fail
                refine (rzero_any _ yb wc BY.out).mono ?_
                rintro e wd ⟨rfl, hwd⟩
                obtain rfl := hwd.symm
                go_wp2
                go_roundw
                case rel => exact ⟨t + 1, E, P, s6, l6, es, by omega, by go_num, rfl, DL.out.2.2, DL.out.2.1, by omega, DS2.out, XZ2.out⟩
                case measure => simp [intOf]; omega
              · have HF : Hid (findI l6 (kk : Int) = -1) := hf
                have HH : Hid (s6.has (kk : Int) = false) := hh
                clear hf hh
                go_wp2_with fail
                refine (find_any n _ l6 (kk : Int) wc DS2.out.rbs).mono ?_
                rintro e wd ⟨rfl, hwd⟩
                obtain rfl := hwd.symm
                rw [HF.out]
                go_wp2_with fail
                refine (has_any a a s6 (kk : Int) wc DS2.out.ar).mono ?_
                rintro e wd ⟨rfl, hwd⟩
                obtain rfl := hwd.symm
                rw [HH.out]
                go_wp2_with fail
                refine (azero_any a a s6 (kk : Int) wc DS2.out.ar).mono ?_
                rintro e wd ⟨rfl, hwd⟩
                obtain rfl := hwd.symm
                rw [HH.out]
                go_wp2
                go_roundw
                case rel => exact ⟨t + 1, E, P, s6, l6, es, by omega, by go_num, rfl, DL.out.2.2, DL.out.2.1, by omega, DS2.out, XZ2.out⟩
                case measure => simp [intOf]; omega
          · have HF : Hid (findI l i = -1) := hf
            have HQ : Hid (s.has i = false) := hh
            have HN : Hid (l.filter (offN i) = l) := by
              unfold Hid
              rw [List.filter_eq_self]
              intro x hx
              obtain ⟨k', hk', rfl⟩ := List.mem_iff_getElem.1 hx
              simpa [offN] using hno k' _ (List.getElem?_eq_getElem hk')
            clear hf hh hno hk0
            go_wp2_with fail
            refine (find_any n _ l i w4 ST4.out.rbs).mono ?_
            rintro e wd ⟨rfl, hwd⟩
            obtain rfl := hwd.symm
            rw [HF.out]
            go_wp2_with fail
            refine (free_no a a s i w4 ST4.out.ar HQ.out).mono ?_
            rintro e wd ⟨rfl, hwd⟩
            obtain rfl := hwd.symm
            go_wp2_with fail
            refine (drop_any n _ l i w4 ST4.out.rbs (by rw [HL.out]; omega)).mono ?_
            rintro e w6 ⟨v6, rfl, hO6, hb6⟩
            rw [HN.out] at hO6
            have D6 := ST4.out.renew hb6 (Nat.le_refl _) hO6
            have XZ : Hid (Below a w1 w6) := XB4.out.trans (hb6.mono ST4.out.ar.B_le)
            obtain ⟨al6, cl6, hv6, hc6, hcm6, -⟩ := owned_slice hO6
            subst hv6
            unfold maxLen at hcm6
            clear hO6 hb6 ST4 XB4
            rw [HL.out] at D6 hc6 ⊢
            have DS : Hid (DoSt w6 a s n room (.slice al6 L cl6) (.slice ae E ce) l es) := D6
            have DL : Hid (l.length = L ∧ es.length = E ∧ s.bl.length = P) := ⟨HL.out, PP.out.2, PP.out.1⟩
            have DV : Hid ((s.bl.length : Int) - (s.back.length : Int) = (L : Int)) := LV.out
            have HM : Hid (max (P : Int) (L : Int) = (P : Int)) := by unfold Hid; omega
            clear D6 HF HQ
            as_aux_lemma =>
              have hmx := max2 (P : Int) (L : Int)
              rw [HM.out] at hmx
              go_wp2_with fail
              refine (alive_any a a s w6 DS.out.ar).mono ?_
              rintro e wa ⟨rfl, nd, rfl⟩
              rw [DV.out]
              go_wp2_with fail
              refine (apeak_any a a s _ (DS.out.ar.below (below_drewN (Below.refl _ _) _))).mono ?_
              rintro e wb ⟨rfl, hwb⟩
              obtain rfl := hwb.symm
              rw [DL.out.2.2]
              have DS1 : Hid (DoSt (w6.drewN nd) a s n room (.slice al6 L cl6) (.slice ae E ce) l es) := DS.out.below (below_drewN (Below.refl _ _) _)
              have XZ1 : Hid (Below a w1 (w6.drewN nd)) := below_drewN XZ.out _
              clear DS XZ hmx
              go_wp2_with fail
              refine (same_any a s n _ l room (w6.drewN nd) DS1.out.ar DS1.out.sz DS1.out.rbs DS1.out.same (fun i x hx => ⟨(DS1.out.out.blk i x hx).1, (DS1.out.out.blk i x hx).2.1⟩) (by have := DS1.out.len; have := DS1.out.made; omega) (by omega) (by omega)).mono ?_
              rintro e wc ⟨rfl, hbc⟩
              have DS2 : Hid (DoSt wc a s n room (.slice al6 L cl6) (.slice ae E ce) l es) := DS1.out.below hbc
              have XZ2 : Hid (Below a w1 wc) := XZ1.out.trans (hbc.mono DS1.out.ar.B_le)
              clear DS1 XZ1 hbc
              rcases find_same DS2.out.same i with ⟨j, y, q, hj, hy, hf, hq, hh⟩ | ⟨hf, hh, -⟩
              · have hjL : j < L := by rw [← DL.out.1]; exact (List.getElem?_eq_some_iff.1 hj).1
                have hcc := DS2.out.rbs.cells hj
                obtain ⟨bl0, ol0, hal, -, hcl1⟩ := hcc
                have hby := DS2.out.out.blk j y hj
                have BY : Hid (Bs wc (.slice (some ⟨y.q, 0, none⟩) n n) y.b) := hby.1.bs0 n n hby.2.1.symm (Nat.le_refl _) (by unfold maxLen; omega)
                have eZ : (s.has i && zeroB (s.bytes i)) = zeroB y.b := by
                  rw [hh]
                  have e2 : s.bytes i = y.b := by rw [← hy]; simp [Ar.bytes, hq]
                  rw [e2]
                  rfl
                have HZZ : Hid ((s.has i && zeroB (s.bytes i)) = zeroB y.b) := eZ
                have HF : Hid (findI l i = (j : Int)) := hf
                have HH : Hid (s.has i = true) := hh
                have hjI : (j : Int) < (L : Int) := by omega
                clear eZ hf hh hq hj hy hby
                subst hal
                go_wp2_with fail
                refine (find_any n _ l i wc DS2.out.rbs).mono ?_
                rintro e wd ⟨rfl, hwd⟩
                obtain rfl := hwd.symm
                rw [HF.out]
                go_wp2_with fail
                refine (has_any a a s i wc DS2.out.ar).mono ?_
                rintro e wd ⟨rfl, hwd⟩
                obtain rfl := hwd.symm
                rw [HH.out]
                go_wp2_with fail
                refine (azero_any a a s i wc DS2.out.ar).mono ?_
                rintro e wd ⟨rfl, hwd⟩
                obtain rfl := hwd.symm
                rw [HZZ.out]
                generalize y.b = yb at *
                go_wp2_with fail
                refine (rzero_any _ yb wc BY.out).mono ?_
                rintro e wd ⟨rfl, hwd⟩
                obtain rfl := hwd.symm
                go_wp2
                go_roundw
                case rel => exact ⟨t + 1, E, P, s, l, es, by omega, by go_num, rfl, DL.out.2.2, DL.out.2.1, by omega, DS2.out, XZ2.out⟩
                case measure => simp [intOf]; omega
              · have HF : Hid (findI l i = -1) := hf
                have HH : Hid (s.has i = false) := hh
                clear hf hh
                go_wp2_with fail
                refine (find_any n _ l i wc DS2.out.rbs).mono ?_
                rintro e wd ⟨rfl, hwd⟩
                obtain rfl := hwd.symm
                rw [HF.out]
                go_wp2_with fail
                refine (has_any a a s i wc DS2.out.ar).mono ?_
                rintro e wd ⟨rfl, hwd⟩
                obtain rfl := hwd.symm
                rw [HH.out]
                go_wp2_with fail
                refine (azero_any a a s i wc DS2.out.ar).mono ?_
                rintro e wd ⟨rfl, hwd⟩
                obtain rfl := hwd.symm
                rw [HH.out]
                go_wp2
                go_roundw
                case rel => exact ⟨t + 1, E, P, s, l, es, by omega, by go_num, rfl, DL.out.2.2, DL.out.2.1, by omega, DS2.out, XZ2.out⟩
                case measure => simp [intOf]; omega
      by_cases hk2 : kd = 2
      · as_aux_lemma =>
          subst hk2
          have STA : Hid (DoSt (w4.alloc (.cells #[.slice ab lb cb] 28)) a s n room (.slice al L cl) (.slice ae E ce) l es) := ST4.out.below (below_alloc _ _)
          have XBA : Hid (Below a w1 (w4.alloc (.cells #[.slice ab lb cb] 28))) := XB4.out.trans ((below_alloc _ _).mono ST4.out.ar.B_le)
          have BA : Hid (Bs (w4.alloc (.cells #[.slice ab lb cb] 28)) (.slice ab lb cb) xb) := B4.out.below (below_alloc _ _)
          have CA : Hid ((w4.alloc (.cells #[.slice ab lb cb] 28)).cell? ⟨w4.heap.size, 0, none⟩ = some (.slice ab lb cb)) := by unfold Hid; rw [World.cell?_alloc_new]; rfl
          have qA4 : (w4.alloc (.cells #[.slice ab lb cb] 28)).cell? ⟨wr.heap.size, 4, none⟩ = some (.slice ab lb cb) := ((below_alloc _ _).cell (cell_block_lt qk4)).trans qk4
          rcases find_same ST4.out.same i with ⟨j, y, q, hj, hy, hf, hq, hh⟩ | ⟨hf, hh, hno⟩
          · obtain ⟨kk, hkk⟩ : ∃ kk : Nat, i = (kk : Int) := ⟨y.n, hy.symm⟩
            subst hkk
            have HF : Hid (findI l (kk : Int) = (j : Int)) := hf
            have HJ : Hid (l[j]? = some y ∧ (y.n : Int) = (kk : Int) ∧ y.n = kk ∧ s.bl[y.n]? = some ⟨q, y.b, true⟩ ∧ s.bl[kk]? = some ⟨q, y.b, true⟩) := ⟨hj, hy, by omega, hq, by rw [show kk = y.n by omega]; exact hq⟩
            clear hf hq hh hj hy hk0 hk1
            by_cases hln : lb = n
            · have HLN : Hid (xb.length = n ∧ y.b.length = n ∧ (xorL y.b xb).length = n) := by
                have h1 : xb.length = n := by rw [HLB.out]; exact hln
                have h2 : y.b.length = n := (ST4.out.out.blk j y HJ.out.1).2.1
                exact ⟨h1, h2, by rw [xorL_length (by rw [h1, h2]), h2]⟩
              clear hln
              go_wp2_with fail
              refine (rput_yes n _ l (kk : Int) j y w4.heap.size (.slice ab lb cb) xb (w4.alloc (.cells #[.slice ab lb cb] 28)) STA.out.rbs HF.out HJ.out.1 HJ.out.2.1 (STA.out.out.blk j y HJ.out.1).1 HLN.out.2.1 CA.out BA.out HLN.out.1 (by rw [HL.out]; omega) (by omega)).mono ?_
              rintro e w6 ⟨v6, q6, rfl, hO6, hq6, hb6q, hx6⟩
              obtain ⟨al6, cl6, hv6, hc6, hcm6, -⟩ := owned_slice hO6
              subst hv6
              unfold maxLen at hcm6
              have A6 : Hid (IsAr w6 a a s) := STA.out.ar.below hx6
              have B6 : Hid (Bs w6 (.slice ab lb cb) xb) := BA.out.below hx6
              have X6 : Hid (Below a w1 w6) := XBA.out.trans (hx6.mono STA.out.ar.B_le)
              have OF6 : Hid (Off q (.slice ab lb cb)) := Bs.off_new (BV.out w1 (Below.refl _ _)) (by rw [Ha.out]; exact (A6.out.blk kk _ HJ.out.2.2.2.2).1)
              have q64 : w6.cell? ⟨wr.heap.size, 4, none⟩ = some (.slice ab lb cb) := (hx6.cell (cell_block_lt qA4)).trans qA4
              have R6 : Hid (w6.ownsRow (w4.alloc (.cells #[.slice ab lb cb] 28)).heap.size 37 2 (.slice al6 l.length cl6) l.length ((l.set j ⟨y.n, q6, xorL y.b xb⟩).flatMap (rbCells n)) ∧ (w4.alloc (.cells #[.slice ab lb cb] 28)).heap.size ≤ q6 ∧ Blk w6 q6 [] (xorL y.b xb) [] ∧ Below (w4.alloc (.cells #[.slice ab lb cb] 28)).heap.size (w4.alloc (.cells #[.slice ab lb cb] 28)) w6) := ⟨hO6, hq6, hb6q, hx6⟩
              clear hO6 hq6 hb6q hx6 qA4 qk4
              go_wp2_with fail
              refine (aput_top a a s kk _ (.slice ab lb cb) xb w6 A6.out HJ.out.2.2.2.2 rfl B6.out OF6.out (by rw [HLN.out.1]; exact ST4.out.sz.symm) _ rfl).mono ?_
              rintro e w7 ⟨rfl, hA7, hg7, hs7⟩
              have hk7 : KeepsBut (s.own a) w6 w7 := KeepsBut.ofGrown hg7 (.inr (.inr (.inr ⟨_, List.mem_of_getElem? HJ.out.2.2.2.2, rfl⟩)))
              have D7 := STA.out.set HJ.out.1 HJ.out.2.2.2.1 R6.out.2.2.2 (Nat.le_refl _) R6.out.1 R6.out.2.1 R6.out.2.2.1 HLN.out.2.2 (by rw [HJ.out.2.2.1]; exact hA7) hk7
              have XZ : Hid (Below a w1 w7) := A6.out.step X6.out hk7 A6.out.B_le
              have eP : (s.setB y.n (xorL y.b xb)).bl.length = P := by rw [setB_len]; exact PP.out.1
              have eL : (l.set j ⟨y.n, q6, xorL y.b xb⟩).length = L := by rw [List.length_set]; exact HL.out
              clear hA7 hg7 hs7 hk7 R6 A6 B6 X6 OF6 STA XBA BA CA ST4 XB4 LV HF HJ HLN
              generalize l.set j ⟨y.n, q6, xorL y.b xb⟩ = l6 at *
              generalize s.setB y.n (xorL y.b xb) = s6 at *
              rw [HL.out] at D7 hc6 ⊢
              have DS : Hid (DoSt w7 a s6 n room (.slice al6 L cl6) (.slice ae E ce) l6 es) := D7
              have DL : Hid (l6.length = L ∧ es.length = E ∧ s6.bl.length = P) := ⟨eL, PP.out.2, eP⟩
              have DV : Hid ((s6.bl.length : Int) - (s6.back.length : Int) = (L : Int)) := by have := D7.same.live; rw [eL] at this; exact this
              have HM : Hid (max (P : Int) (L : Int) = (P : Int)) := by unfold Hid; omega
              clear D7 eP eL
              as_aux_lemma =>
                have hmx := max2 (P : Int) (L : Int)
                rw [HM.out] at hmx
                go_wp2_with fail
                refine (alive_any a a s6 w7 DS.out.ar).mono ?_
                rintro e wa ⟨rfl, nd, rfl⟩
                rw [DV.out]
                go_wp2_with fail
                refine (apeak_any a a s6 _ (DS.out.ar.below (below_drewN (Below.refl _ _) _))).mono ?_
                rintro e wb ⟨rfl, hwb⟩
                obtain rfl := hwb.symm
                rw [DL.out.2.2]
                have DS1 : Hid (DoSt (w7.drewN nd) a s6 n room (.slice al6 L cl6) (.slice ae E ce) l6 es) := DS.out.below (below_drewN (Below.refl _ _) _)
                have XZ1 : Hid (Below a w1 (w7.drewN nd)) := below_drewN XZ.out _
                clear DS XZ hmx
                go_wp2_with fail
                refine (same_any a s6 n _ l6 room (w7.drewN nd) DS1.out.ar DS1.out.sz DS1.out.rbs DS1.out.same (fun i x hx => ⟨(DS1.out.out.blk i x hx).1, (DS1.out.out.blk i x hx).2.1⟩) (by have := DS1.out.len; have := DS1.out.made; omega) (by omega) (by omega)).mono ?_
                rintro e wc ⟨rfl, hbc⟩
                have DS2 : Hid (DoSt wc a s6 n room (.slice al6 L cl6) (.slice ae E ce) l6 es) := DS1.out.below hbc
                have XZ2 : Hid (Below a w1 wc) := XZ1.out.trans (hbc.mono DS1.out.ar.B_le)
                clear DS1 XZ1 hbc
                rcases find_same DS2.out.same (kk : Int) with ⟨j, y, q, hj, hy, hf, hq, hh⟩ | ⟨hf, hh, -⟩
                · have hjL : j < L := by rw [← DL.out.1]; exact (List.getElem?_eq_some_iff.1 hj).1
                  have hcc := DS2.out.rbs.cells hj
                  obtain ⟨bl0, ol0, hal, -, hcl1⟩ := hcc
                  have hby := DS2.out.out.blk j y hj
                  have BY : Hid (Bs wc (.slice (some ⟨y.q, 0, none⟩) n n) y.b) := hby.1.bs0 n n hby.2.1.symm (Nat.le_refl _) (by unfold maxLen; omega)
                  have eZ : (s6.has (kk : Int) && zeroB (s6.bytes (kk : Int))) = zeroB y.b := by
                    rw [hh]
                    have e2 : s6.bytes (kk : Int) = y.b := by rw [← hy]; simp [Ar.bytes, hq]
                    rw [e2]
                    rfl
                  have HZZ : Hid ((s6.has (kk : Int) && zeroB (s6.bytes (kk : Int))) = zeroB y.b) := eZ
                  have HF : Hid (findI l6 (kk : Int) = (j : Int)) := hf
                  have HH : Hid (s6.has (kk : Int) = true) := hh
                  have hjI : (j : Int) < (L : Int) := by omega
                  clear eZ hf hh hq hj hy hby
                  subst hal
                  go_wp2_with fail
                  refine (find_any n _ l6 (kk : Int) wc DS2.out.rbs).mono ?_
                  rintro e wd ⟨rfl, hwd⟩
                  obtain rfl := hwd.symm
                  rw [HF.out]
                  go_wp2_with fail
                  refine (has_any a a s6 (kk : Int) wc DS2.out.ar).mono ?_
                  rintro e wd ⟨rfl, hwd⟩
                  obtain rfl := hwd.symm
                  rw [HH.out]
                  go_wp2_with fail
                  refine (azero_any a a s6 (kk : Int) wc DS2.out.ar).mono ?_
                  rintro e wd ⟨rfl, hwd⟩
                  obtain rfl := hwd.symm
                  rw [HZZ.out]
                  generalize y.b = yb at *
                  go_wp2_with fail
                  refine (rzero_any _ yb wc BY.out).mono ?_
                  rintro e wd ⟨rfl, hwd⟩
                  obtain rfl := hwd.symm
                  go_wp2
                  go_roundw
                  case rel => exact ⟨t + 1, E, P, s6, l6, es, by omega, by go_num, rfl, DL.out.2.2, DL.out.2.1, by omega, DS2.out, XZ2.out⟩
                  case measure => simp [intOf]; omega
                · have HF : Hid (findI l6 (kk : Int) = -1) := hf
                  have HH : Hid (s6.has (kk : Int) = false) := hh
                  clear hf hh
                  go_wp2_with fail
                  refine (find_any n _ l6 (kk : Int) wc DS2.out.rbs).mono ?_
                  rintro e wd ⟨rfl, hwd⟩
                  obtain rfl := hwd.symm
                  rw [HF.out]
                  go_wp2_with fail
                  refine (has_any a a s6 (kk : Int) wc DS2.out.ar).mono ?_
                  rintro e wd ⟨rfl, hwd⟩
                  obtain rfl := hwd.symm
                  rw [HH.out]
                  go_wp2_with fail
                  refine (azero_any a a s6 (kk : Int) wc DS2.out.ar).mono ?_
                  rintro e wd ⟨rfl, hwd⟩
                  obtain rfl := hwd.symm
                  rw [HH.out]
                  go_wp2
                  go_roundw
                  case rel => exact ⟨t + 1, E, P, s6, l6, es, by omega, by go_num, rfl, DL.out.2.2, DL.out.2.1, by omega, DS2.out, XZ2.out⟩
                  case measure => simp [intOf]; omega
            · have HNE : Hid (xb.length ≠ n) := by unfold Hid; rw [HLB.out]; exact hln
              clear hln
              go_wp2_with fail
              refine (rput_bad n _ l (kk : Int) j y w4.heap.size (.slice ab lb cb) xb (w4.alloc (.cells #[.slice ab lb cb] 28)) STA.out.rbs HF.out HJ.out.1 CA.out BA.out HNE.out (by rw [HL.out]; omega)).mono ?_
              rintro e wd ⟨rfl, hwd⟩
              rw [← hwd] at STA XBA BA qA4
              clear hwd CA
              go_wp2_with fail
              refine (aput_top_no a a s kk (.slice ab lb cb) xb wd STA.out.ar BA.out (.inr (by rw [STA.out.sz]; exact HNE.out)) _ rfl).mono ?_
              rintro e w7 ⟨rfl, hx7⟩
              have DS : Hid (DoSt w7 a s n room (.slice al L cl) (.slice ae E ce) l es) := STA.out.below hx7
              have XZ : Hid (Below a w1 w7) := XBA.out.trans (hx7.mono STA.out.ar.B_le)
              clear hx7 STA XBA BA ST4 XB4 HF HJ HNE qA4 qk4
              have DL : Hid (l.length = L ∧ es.length = E ∧ s.bl.length = P) := ⟨HL.out, PP.out.2, PP.out.1⟩
              have DV : Hid ((s.bl.length : Int) - (s.back.length : Int) = (L : Int)) := LV.out
              have HM : Hid (max (P : Int) (L : Int) = (P : Int)) := by unfold Hid; omega
              as_aux_lemma =>
                have hmx := max2 (P : Int) (L : Int)
                rw [HM.out] at hmx
                go_wp2_with fail
                refine (alive_any a a s w7 DS.out.ar).mono ?_
                rintro e wa ⟨rfl, nd, rfl⟩
                rw [DV.out]
                go_wp2_with fail
                refine (apeak_any a a s _ (DS.out.ar.below (below_drewN (Below.refl _ _) _))).mono ?_
                rintro e wb ⟨rfl, hwb⟩
                obtain rfl := hwb.symm
                rw [DL.out.2.2]
                have DS1 : Hid (DoSt (w7.drewN nd) a s n room (.slice al L cl) (.slice ae E ce) l es) := DS.out.below (below_drewN (Below.refl _ _) _)
                have XZ1 : Hid (Below a w1 (w7.drewN nd)) := below_drewN XZ.out _
                clear DS XZ hmx
                go_wp2_with fail
                refine (same_any a s n _ l room (w7.drewN nd) DS1.out.ar DS1.out.sz DS1.out.rbs DS1.out.same (fun i x hx => ⟨(DS1.out.out.blk i x hx).1, (DS1.out.out.blk i x hx).2.1⟩) (by have := DS1.out.len; have := DS1.out.made; omega) (by omega) (by omega)).mono ?_
                rintro e wc ⟨rfl, hbc⟩
                have DS2 : Hid (DoSt wc a s n room (.slice al L cl) (.slice ae E ce) l es) := DS1.out.below hbc
                have XZ2 : Hid (Below a w1 wc) := XZ1.out.trans (hbc.mono DS1.out.ar.B_le)
                clear DS1 XZ1 hbc
                rcases find_same DS2.out.same (kk : Int) with ⟨j, y, q, hj, hy, hf, hq, hh⟩ | ⟨hf, hh, -⟩
                · have hjL : j < L := by rw [← DL.out.1]; exact (List.getElem?_eq_some_iff.1 hj).1
                  have hcc := DS2.out.rbs.cells hj
                  obtain ⟨bl0, ol0, hal, -, hcl1⟩ := hcc
                  have hby := DS2.out.out.blk j y hj
                  have BY : Hid (Bs wc (.slice (some ⟨y.q, 0, none⟩) n n) y.b) := hby.1.bs0 n n hby.2.1.symm (Nat.le_refl _) (by unfold maxLen; omega)
                  have eZ : (s.has (kk : Int) && zeroB (s.bytes (kk : Int))) = zeroB y.b := by
                    rw [hh]
                    have e2 : s.bytes (kk : Int) = y.b := by rw [← hy]; simp [Ar.bytes, hq]
                    rw [e2]
                    rfl
                  have HZZ : Hid ((s.has (kk : Int) && zeroB (s.bytes (kk : Int))) = zeroB y.b) := eZ
                  have HF : Hid (findI l (kk : Int) = (j : Int)) := hf
                  have HH : Hid (s.has (kk : Int) = true) := hh
                  have hjI : (j : Int) < (L : Int) := by omega
                  clear eZ hf hh hq hj hy hby
                  subst hal
                  go_wp2_with fail
                  refine (find_any n _ l (kk : Int) wc DS2.out.rbs).mono ?_
                  rintro e wd ⟨rfl, hwd⟩
                  obtain rfl := hwd.symm
                  rw [HF.out]
                  go_wp2_with fail
                  refine (has_any a a s (kk : Int) wc DS2.out.ar).mono ?_
                  rintro e wd ⟨rfl, hwd⟩
                  obtain rfl := hwd.symm
                  rw [HH.out]
                  go_wp2_with fail
                  refine (azero_any a a s (kk : Int) wc DS2.out.ar).mono ?_
                  rintro e wd ⟨rfl, hwd⟩
                  obtain rfl := hwd.symm
                  rw [HZZ.out]
                  generalize y.b = yb at *
                  go_wp2_with fail
                  refine (rzero_any _ yb wc BY.out).mono ?_
                  rintro e wd ⟨rfl, hwd⟩
                  obtain rfl := hwd.symm
                  go_wp2
                  go_roundw
                  case rel => exact ⟨t + 1, E, P, s, l, es, by omega, by go_num, rfl, DL.out.2.2, DL.out.2.1, by omega, DS2.out, XZ2.out⟩
                  case measure => simp [intOf]; omega
                · have HF : Hid (findI l (kk : Int) = -1) := hf
                  have HH : Hid (s.has (kk : Int) = false) := hh
                  clear hf hh
                  go_wp2_with fail
                  refine (find_any n _ l (kk : Int) wc DS2.out.rbs).mono ?_
                  rintro e wd ⟨rfl, hwd⟩
                  obtain rfl := hwd.symm
                  rw [HF.out]
                  go_wp2_with fail
                  refine (has_any a a s (kk : Int) wc DS2.out.ar).mono ?_
                  rintro e wd ⟨rfl, hwd⟩
                  obtain rfl := hwd.symm
                  rw [HH.out]
                  go_wp2_with fail
                  refine (azero_any a a s (kk : Int) wc DS2.out.ar).mono ?_
                  rintro e wd ⟨rfl, hwd⟩
                  obtain rfl := hwd.symm
                  rw [HH.out]
                  go_wp2
                  go_roundw
                  case rel => exact ⟨t + 1, E, P, s, l, es, by omega, by go_num, rfl, DL.out.2.2, DL.out.2.1, by omega, DS2.out, XZ2.out⟩
                  case measure => simp [intOf]; omega
          · have HF : Hid (findI l i = -1) := hf
            have HQ : Hid (s.has i = false) := hh
            clear hf hh hno hk0 hk1
            go_wp2_with fail
            refine (rput_miss n _ l i _ (w4.alloc (.cells #[.slice ab lb cb] 28)) STA.out.rbs HF.out).mono ?_
            rintro e wd ⟨rfl, hwd⟩
            rw [← hwd] at STA XBA BA qA4
            clear hwd CA
            go_wp2_with fail
            refine (aput_top_no a a s i (.slice ab lb cb) xb wd STA.out.ar BA.out (.inl HQ.out) _ rfl).mono ?_
            rintro e w7 ⟨rfl, hx7⟩
            have DS : Hid (DoSt w7 a s n room (.slice al L cl) (.slice ae E ce) l es) := STA.out.below hx7
            have XZ : Hid (Below a w1 w7) := XBA.out.trans (hx7.mono STA.out.ar.B_le)
            clear hx7 STA XBA BA ST4 XB4 HF HQ qA4 qk4
            have DL : Hid (l.length = L ∧ es.length = E ∧ s.bl.length = P) := ⟨HL.out, PP.out.2, PP.out.1⟩
            have DV : Hid ((s.bl.length : Int) - (s.back.length : Int) = (L : Int)) := LV.out
            have HM : Hid (max (P : Int) (L : Int) = (P : Int)) := by unfold Hid; omega
            as_aux_lemma =>
              have hmx := max2 (P : Int) (L : Int)
              rw [HM.out] at hmx
              go_wp2_with fail
              refine (alive_any a a s w7 DS.out.ar).mono ?_
              rintro e wa ⟨rfl, nd, rfl⟩
              rw [DV.out]
              go_wp2_with fail
              refine (apeak_any a a s _ (DS.out.ar.below (below_drewN (Below.refl _ _) _))).mono ?_
              rintro e wb ⟨rfl, hwb⟩
              obtain rfl := hwb.symm
              rw [DL.out.2.2]
              have DS1 : Hid (DoSt (w7.drewN nd) a s n room (.slice al L cl) (.slice ae E ce) l es) := DS.out.below (below_drewN (Below.refl _ _) _)
              have XZ1 : Hid (Below a w1 (w7.drewN nd)) := below_drewN XZ.out _
              clear DS XZ hmx
              go_wp2_with fail
              refine (same_any a s n _ l room (w7.drewN nd) DS1.out.ar DS1.out.sz DS1.out.rbs DS1.out.same (fun i x hx => ⟨(DS1.out.out.blk i x hx).1, (DS1.out.out.blk i x hx).2.1⟩) (by have := DS1.out.len; have := DS1.out.made; omega) (by omega) (by omega)).mono ?_
              rintro e wc ⟨rfl, hbc⟩
              have DS2 : Hid (DoSt wc a s n room (.slice al L cl) (.slice ae E ce) l es) := DS1.out.below hbc
              have XZ2 : Hid (Below a w1 wc) := XZ1.out.trans (hbc.mono DS1.out.ar.B_le)
              clear DS1 XZ1 hbc
              rcases find_same DS2.out.same i with ⟨j, y, q, hj, hy, hf, hq, hh⟩ | ⟨hf, hh, -⟩
              · have hjL : j < L := by rw [← DL.out.1]; exact (List.getElem?_eq_some_iff.1 hj).1
                have hcc := DS2.out.rbs.cells hj
                obtain ⟨bl0, ol0, hal, -, hcl1⟩ := hcc
                have hby := DS2.out.out.blk j y hj
                have BY : Hid (Bs wc (.slice (some ⟨y.q, 0, none⟩) n n) y.b) := hby.1.bs0 n n hby.2.1.symm (Nat.le_refl _) (by unfold maxLen; omega)
                have eZ : (s.has i && zeroB (s.bytes i)) = zeroB y.b := by
                  rw [hh]
                  have e2 : s.bytes i = y.b := by rw [← hy]; simp [Ar.bytes, hq]
                  rw [e2]
                  rfl
                have HZZ : Hid ((s.has i && zeroB (s.bytes i)) = zeroB y.b) := eZ
                have HF : Hid (findI l i = (j : Int)) := hf
                have HH : Hid (s.has i = true) := hh
                have hjI : (j : Int) < (L : Int) := by omega
                clear eZ hf hh hq hj hy hby
                subst hal
                go_wp2_with fail
                refine (find_any n _ l i wc DS2.out.rbs).mono ?_
                rintro e wd ⟨rfl, hwd⟩
                obtain rfl := hwd.symm
                rw [HF.out]
                go_wp2_with fail
                refine (has_any a a s i wc DS2.out.ar).mono ?_
                rintro e wd ⟨rfl, hwd⟩
                obtain rfl := hwd.symm
                rw [HH.out]
                go_wp2_with fail
                refine (azero_any a a s i wc DS2.out.ar).mono ?_
                rintro e wd ⟨rfl, hwd⟩
                obtain rfl := hwd.symm
                rw [HZZ.out]
                generalize y.b = yb at *
                go_wp2_with fail
                refine (rzero_any _ yb wc BY.out).mono ?_
                rintro e wd ⟨rfl, hwd⟩
                obtain rfl := hwd.symm
                go_wp2
                go_roundw
                case rel => exact ⟨t + 1, E, P, s, l, es, by omega, by go_num, rfl, DL.out.2.2, DL.out.2.1, by omega, DS2.out, XZ2.out⟩
                case measure => simp [intOf]; omega
              · have HF : Hid (findI l i = -1) := hf
                have HH : Hid (s.has i = false) := hh
                clear hf hh
                go_wp2_with fail
                refine (find_any n _ l i wc DS2.out.rbs).mono ?_
                rintro e wd ⟨rfl, hwd⟩
                obtain rfl := hwd.symm
                rw [HF.out]
                go_wp2_with fail
                refine (has_any a a s i wc DS2.out.ar).mono ?_
                rintro e wd ⟨rfl, hwd⟩
                obtain rfl := hwd.symm
                rw [HH.out]
                go_wp2_with fail
                refine (azero_any a a s i wc DS2.out.ar).mono ?_
                rintro e wd ⟨rfl, hwd⟩
                obtain rfl := hwd.symm
                rw [HH.out]
                go_wp2
                go_roundw
                case rel => exact ⟨t + 1, E, P, s, l, es, by omega, by go_num, rfl, DL.out.2.2, DL.out.2.1, by omega, DS2.out, XZ2.out⟩
                case measure => simp [intOf]; omega
      by_cases hk3 : kd = 3
      · as_aux_lemma =>
          subst hk3
          by_cases hik : i = k
          · subst hik
            obtain ⟨f, hf⟩ : ∃ f, findI l i = f := ⟨_, rfl⟩
            have HF : Hid (findI l i = f) := hf
            clear hf hk0 hk1 hk2
            go_wp2_with fail
            refine (find_any n _ l i w4 ST4.out.rbs).mono ?_
            rintro e wd ⟨rfl, hwd⟩
            obtain rfl := hwd.symm
            rw [HF.out]
            go_wp2_with fail
            refine (onto_no a a s i i w4 ST4.out.ar (.inl rfl)).mono ?_
            rintro e w7 ⟨rfl, hx7⟩
            have DS : Hid (DoSt w7 a s n room (.slice al L cl) (.slice ae E ce) l es) := ST4.out.below hx7
            have XZ : Hid (Below a w1 w7) := XB4.out.trans (hx7.mono ST4.out.ar.B_le)
            clear hx7 ST4 XB4 HF
            have DL : Hid (l.length = L ∧ es.length = E ∧ s.bl.length = P) := ⟨HL.out, PP.out.2, PP.out.1⟩
            have DV : Hid ((s.bl.length : Int) - (s.back.length : Int) = (L : Int)) := LV.out
            have HM : Hid (max (P : Int) (L : Int) = (P : Int)) := by unfold Hid; omega
            as_aux_lemma =>
              have hmx := max2 (P : Int) (L : Int)
              rw [HM.out] at hmx
              go_wp2_with fail
              refine (alive_any a a s w7 DS.out.ar).mono ?_
              rintro e wa ⟨rfl, nd, rfl⟩
              rw [DV.out]
              go_wp2_with fail
              refine (apeak_any a a s _ (DS.out.ar.below (below_drewN (Below.refl _ _) _))).mono ?_
              rintro e wb ⟨rfl, hwb⟩
              obtain rfl := hwb.symm
              rw [DL.out.2.2]
              have DS1 : Hid (DoSt (w7.drewN nd) a s n room (.slice al L cl) (.slice ae E ce) l es) := DS.out.below (below_drewN (Below.refl _ _) _)
              have XZ1 : Hid (Below a w1 (w7.drewN nd)) := below_drewN XZ.out _
              clear DS XZ hmx
              go_wp2_with fail
              refine (same_any a s n _ l room (w7.drewN nd) DS1.out.ar DS1.out.sz DS1.out.rbs DS1.out.same (fun i x hx => ⟨(DS1.out.out.blk i x hx).1, (DS1.out.out.blk i x hx).2.1⟩) (by have := DS1.out.len; have := DS1.out.made; omega) (by omega) (by omega)).mono ?_
              rintro e wc ⟨rfl, hbc⟩
              have DS2 : Hid (DoSt wc a s n room (.slice al L cl) (.slice ae E ce) l es) := DS1.out.below hbc
              have XZ2 : Hid (Below a w1 wc) := XZ1.out.trans (hbc.mono DS1.out.ar.B_le)
              clear DS1 XZ1 hbc
              rcases find_same DS2.out.same i with ⟨j, y, q, hj, hy, hf, hq, hh⟩ | ⟨hf, hh, -⟩
              · have hjL : j < L := by rw [← DL.out.1]; exact (List.getElem?_eq_some_iff.1 hj).1
                have hcc := DS2.out.rbs.cells hj
                obtain ⟨bl0, ol0, hal, -, hcl1⟩ := hcc
                have hby := DS2.out.out.blk j y hj
                have BY : Hid (Bs wc (.slice (some ⟨y.q, 0, none⟩) n n) y.b) := hby.1.bs0 n n hby.2.1.symm (Nat.le_refl _) (by unfold maxLen; omega)
                have eZ : (s.has i && zeroB (s.bytes i)) = zeroB y.b := by
                  rw [hh]
                  have e2 : s.bytes i = y.b := by rw [← hy]; simp [Ar.bytes, hq]
                  rw [e2]
                  rfl
                have HZZ : Hid ((s.has i && zeroB (s.bytes i)) = zeroB y.b) := eZ
                have HF : Hid (findI l i = (j : Int)) := hf
                have HH : Hid (s.has i = true) := hh
                have hjI : (j : Int) < (L : Int) := by omega
                clear eZ hf hh hq hj hy hby
                subst hal
                go_wp2_with fail
                refine (find_any n _ l i wc DS2.out.rbs).mono ?_
                rintro e wd ⟨rfl, hwd⟩
                obtain rfl := hwd.symm
                rw [HF.out]
                go_wp2_with fail
                refine (has_any a a s i wc DS2.out.ar).mono ?_
                rintro e wd ⟨rfl, hwd⟩
                obtain rfl := hwd.symm
                rw [HH.out]
                go_wp2_with fail
                refine (azero_any a a s i wc DS2.out.ar).mono ?_
                rintro e wd ⟨rfl, hwd⟩
                obtain rfl := hwd.symm
                rw [HZZ.out]
                generalize y.b = yb at *
                go_wp2_with fail
                refine (rzero_any _ yb wc BY.out).mono ?_
                rintro e wd ⟨rfl, hwd⟩
                obtain rfl := hwd.symm
                go_wp2
                go_roundw
                case rel => exact ⟨t + 1, E, P, s, l, es, by omega, by go_num, rfl, DL.out.2.2, DL.out.2.1, by omega, DS2.out, XZ2.out⟩
                case measure => simp [intOf]; omega
              · have HF : Hid (findI l i = -1) := hf
                have HH : Hid (s.has i = false) := hh
                clear hf hh
                go_wp2_with fail
                refine (find_any n _ l i wc DS2.out.rbs).mono ?_
                rintro e wd ⟨rfl, hwd⟩
                obtain rfl := hwd.symm
                rw [HF.out]
                go_wp2_with fail
                refine (has_any a a s i wc DS2.out.ar).mono ?_
                rintro e wd ⟨rfl, hwd⟩
                obtain rfl := hwd.symm
                rw [HH.out]
                go_wp2_with fail
                refine (azero_any a a s i wc DS2.out.ar).mono ?_
                rintro e wd ⟨rfl, hwd⟩
                obtain rfl := hwd.symm
                rw [HH.out]
                go_wp2
                go_roundw
                case rel => exact ⟨t + 1, E, P, s, l, es, by omega, by go_num, rfl, DL.out.2.2, DL.out.2.1, by omega, DS2.out, XZ2.out⟩
                case measure => simp [intOf]; omega
          · have hikI : (i == k) = false := by simpa using hik
            rcases find_same ST4.out.same k with ⟨jf, yf, qf, hjf, hyf, hff, hqf, hhf⟩ | ⟨hff, hhf, -⟩
            · obtain ⟨kf, hkf⟩ : ∃ kf : Nat, k = (kf : Int) := ⟨yf.n, hyf.symm⟩
              subst hkf
              have HFF : Hid (findI l (kf : Int) = (jf : Int)) := hff
              have HJF : Hid (l[jf]? = some yf ∧ s.bl[kf]? = some ⟨qf, yf.b, true⟩) := ⟨hjf, by rw [show kf = yf.n by omega]; exact hqf⟩
              have hjL : (jf : Int) < (L : Int) := by have := (List.getElem?_eq_some_iff.1 hjf).1; rw [HL.out] at this; omega
              obtain ⟨bl0, ol0, hal, -, hcl1⟩ := ST4.out.rbs.cells hjf
              subst hal
              have hbyf := ST4.out.out.blk jf yf hjf
              have HLF : Hid (yf.b.length = n) := hbyf.2.1
              have BF : Hid (Bs w4 (.slice (some ⟨yf.q, 0, none⟩) n n) yf.b) := hbyf.1.bs0 n n hbyf.2.1.symm (Nat.le_refl _) (by unfold maxLen; omega)
              have STA : Hid (DoSt (w4.alloc (.cells #[.slice (some ⟨yf.q, 0, none⟩) n n] 28)) a s n room (.slice (some ⟨bl0, ol0, none⟩) L cl) (.slice ae E ce) l es) := ST4.out.below (below_alloc _ _)
              have XBA : Hid (Below a w1 (w4.alloc (.cells #[.slice (some ⟨yf.q, 0, none⟩) n n] 28))) := XB4.out.trans ((below_alloc _ _).mono ST4.out.ar.B_le)
              have BA : Hid (Bs (w4.alloc (.cells #[.slice (some ⟨yf.q, 0, none⟩) n n] 28)) (.slice (some ⟨yf.q, 0, none⟩) n n) yf.b) := BF.out.below (below_alloc _ _)
              have CA : Hid ((w4.alloc (.cells #[.slice (some ⟨yf.q, 0, none⟩) n n] 28)).cell? ⟨w4.heap.size, 0, none⟩ = some (.slice (some ⟨yf.q, 0, none⟩) n n)) := by unfold Hid; rw [World.cell?_alloc_new]; rfl
              clear hff hqf hhf hjf hyf hbyf hk0 hk1 hk2 BF
              go_wp2_with fail
              refine (find_any n _ l kf w4 ST4.out.rbs).mono ?_
              rintro e wd ⟨rfl, hwd⟩
              obtain rfl := hwd.symm
              rw [HFF.out]
              rcases find_same ST4.out.same i with ⟨j, y, q, hj, hy, hf, hq, hh⟩ | ⟨hf, hh, hno⟩
              · obtain ⟨kk, hkk⟩ : ∃ kk : Nat, i = (kk : Int) := ⟨y.n, hy.symm⟩
                subst hkk
                have HF : Hid (findI l (kk : Int) = (j : Int)) := hf
                have HJ : Hid (l[j]? = some y ∧ (y.n : Int) = (kk : Int) ∧ y.n = kk ∧ s.bl[y.n]? = some ⟨q, y.b, true⟩ ∧ s.bl[kk]? = some ⟨q, y.b, true⟩) := ⟨hj, hy, by omega, hq, by rw [show kk = y.n by omega]; exact hq⟩
                have HLN : Hid (y.b.length = n ∧ (xorL y.b yf.b).length = n) := by
                  have h2 : y.b.length = n := (ST4.out.out.blk j y HJ.out.1).2.1
                  exact ⟨h2, by rw [xorL_length (by rw [HLF.out, h2]), h2]⟩
                have HNK : Hid (kk ≠ kf) := fun e => hik (by rw [e])
                clear hf hq hh hj hy
                go_wp2_with fail
                refine (rput_yes n _ l (kk : Int) j y w4.heap.size (.slice (some ⟨yf.q, 0, none⟩) n n) yf.b (w4.alloc (.cells #[.slice (some ⟨yf.q, 0, none⟩) n n] 28)) STA.out.rbs HF.out HJ.out.1 HJ.out.2.1 (STA.out.out.blk j y HJ.out.1).1 HLN.out.1 CA.out BA.out HLF.out (by rw [HL.out]; omega) (by omega)).mono ?_
                rintro e w6 ⟨v6, q6, rfl, hO6, hq6, hb6q, hx6⟩
                obtain ⟨al6, cl6, hv6, hc6, hcm6, -⟩ := owned_slice hO6
                subst hv6
                unfold maxLen at hcm6
                have A6 : Hid (IsAr w6 a a s) := STA.out.ar.below hx6
                have X6 : Hid (Below a w1 w6) := XBA.out.trans (hx6.mono STA.out.ar.B_le)
                have R6 : Hid (w6.ownsRow (w4.alloc (.cells #[.slice (some ⟨yf.q, 0, none⟩) n n] 28)).heap.size 37 2 (.slice al6 l.length cl6) l.length ((l.set j ⟨y.n, q6, xorL y.b yf.b⟩).flatMap (rbCells n)) ∧ (w4.alloc (.cells #[.slice (some ⟨yf.q, 0, none⟩) n n] 28)).heap.size ≤ q6 ∧ Blk w6 q6 [] (xorL y.b yf.b) [] ∧ Below (w4.alloc (.cells #[.slice (some ⟨yf.q, 0, none⟩) n n] 28)).heap.size (w4.alloc (.cells #[.slice (some ⟨yf.q, 0, none⟩) n n] 28)) w6) := ⟨hO6, hq6, hb6q, hx6⟩
                clear hO6 hq6 hb6q hx6 hcl1
                go_wp2_with fail
                refine (onto_yes a a s kk kf _ _ w6 A6.out HNK.out HJ.out.2.2.2.2 rfl HJF.out.2 rfl).mono ?_
                rintro e w7 ⟨rfl, hA7, hg7, hs7⟩
                have hk7 : KeepsBut (s.own a) w6 w7 := KeepsBut.ofGrown hg7 (.inr (.inr (.inr ⟨_, List.mem_of_getElem? HJ.out.2.2.2.2, rfl⟩)))
                have D7 := STA.out.set HJ.out.1 HJ.out.2.2.2.1 R6.out.2.2.2 (Nat.le_refl _) R6.out.1 R6.out.2.1 R6.out.2.2.1 HLN.out.2 (by rw [HJ.out.2.2.1]; exact hA7) hk7
                have XZ : Hid (Below a w1 w7) := A6.out.step X6.out hk7 A6.out.B_le
                have eP : (s.setB y.n (xorL y.b yf.b)).bl.length = P := by rw [setB_len]; exact PP.out.1
                have eL : (l.set j ⟨y.n, q6, xorL y.b yf.b⟩).length = L := by rw [List.length_set]; exact HL.out
                clear hA7 hg7 hs7 hk7 R6 A6 X6 STA XBA BA CA ST4 XB4 LV HF HJ HLN HNK HFF HJF HLF
                generalize l.set j ⟨y.n, q6, xorL y.b yf.b⟩ = l6 at *
                generalize s.setB y.n (xorL y.b yf.b) = s6 at *
                rw [HL.out] at D7 hc6 ⊢
                have DS : Hid (DoSt w7 a s6 n room (.slice al6 L cl6) (.slice ae E ce) l6 es) := D7
                have DL : Hid (l6.length = L ∧ es.length = E ∧ s6.bl.length = P) := ⟨eL, PP.out.2, eP⟩
                have DV : Hid ((s6.bl.length : Int) - (s6.back.length : Int) = (L : Int)) := by have := D7.same.live; rw [eL] at this; exact this
                have HM : Hid (max (P : Int) (L : Int) = (P : Int)) := by unfold Hid; omega
                clear D7 eP eL
                as_aux_lemma =>
                  have hmx := max2 (P : Int) (L : Int)
                  rw [HM.out] at hmx
                  go_wp2_with fail
                  refine (alive_any a a s6 w7 DS.out.ar).mono ?_
                  rintro e wa ⟨rfl, nd, rfl⟩
                  rw [DV.out]
                  go_wp2_with fail
                  refine (apeak_any a a s6 _ (DS.out.ar.below (below_drewN (Below.refl _ _) _))).mono ?_
                  rintro e wb ⟨rfl, hwb⟩
                  obtain rfl := hwb.symm
                  rw [DL.out.2.2]
                  have DS1 : Hid (DoSt (w7.drewN nd) a s6 n room (.slice al6 L cl6) (.slice ae E ce) l6 es) := DS.out.below (below_drewN (Below.refl _ _) _)
                  have XZ1 : Hid (Below a w1 (w7.drewN nd)) := below_drewN XZ.out _
                  clear DS XZ hmx
                  go_wp2_with fail
                  refine (same_any a s6 n _ l6 room (w7.drewN nd) DS1.out.ar DS1.out.sz DS1.out.rbs DS1.out.same (fun i x hx => ⟨(DS1.out.out.blk i x hx).1, (DS1.out.out.blk i x hx).2.1⟩) (by have := DS1.out.len; have := DS1.out.made; omega) (by omega) (by omega)).mono ?_
                  rintro e wc ⟨rfl, hbc⟩
                  have DS2 : Hid (DoSt wc a s6 n room (.slice al6 L cl6) (.slice ae E ce) l6 es) := DS1.out.below hbc
                  have XZ2 : Hid (Below a w1 wc) := XZ1.out.trans (hbc.mono DS1.out.ar.B_le)
                  clear DS1 XZ1 hbc
                  rcases find_same DS2.out.same (kk : Int) with ⟨j, y, q, hj, hy, hf, hq, hh⟩ | ⟨hf, hh, -⟩
                  · have hjL : j < L := by rw [← DL.out.1]; exact (List.getElem?_eq_some_iff.1 hj).1
                    have hcc := DS2.out.rbs.cells hj
                    obtain ⟨bl0, ol0, hal, -, hcl1⟩ := hcc
                    have hby := DS2.out.out.blk j y hj
                    have BY : Hid (Bs wc (.slice (some ⟨y.q, 0, none⟩) n n) y.b) := hby.1.bs0 n n hby.2.1.symm (Nat.le_refl _) (by unfold maxLen; omega)
                    have eZ : (s6.has (kk : Int) && zeroB (s6.bytes (kk : Int))) = zeroB y.b := by
                      rw [hh]
                      have e2 : s6.bytes (kk : Int) = y.b := by rw [← hy]; simp [Ar.bytes, hq]
                      rw [e2]
                      rfl
                    have HZZ : Hid ((s6.has (kk : Int) && zeroB (s6.bytes (kk : Int))) = zeroB y.b) := eZ
                    have HF : Hid (findI l6 (kk : Int) = (j : Int)) := hf
                    have HH : Hid (s6.has (kk : Int) = true) := hh
                    have hjI : (j : Int) < (L : Int) := by omega
                    clear eZ hf hh hq hj hy hby
                    subst hal
                    go_wp2_with fail
                    refine (find_any n _ l6 (kk : Int) wc DS2.out.rbs).mono ?_
                    rintro e wd ⟨rfl, hwd⟩
                    obtain rfl := hwd.symm
                    rw [HF.out]
                    go_wp2_with fail
                    refine (has_any a a s6 (kk : Int) wc DS2.out.ar).mono ?_
                    rintro e wd ⟨rfl, hwd⟩
                    obtain rfl := hwd.symm
                    rw [HH.out]
                    go_wp2_with fail
                    refine (azero_any a a s6 (kk : Int) wc DS2.out.ar).mono ?_
                    rintro e wd ⟨rfl, hwd⟩
                    obtain rfl := hwd.symm
                    rw [HZZ.out]
                    generalize y.b = yb at *
                    go_wp2_with fail
                    refine (rzero_any _ yb wc BY.out).mono ?_
                    rintro e wd ⟨rfl, hwd⟩
                    obtain rfl := hwd.symm
                    go_wp2
                    go_roundw
                    case rel => exact ⟨t + 1, E, P, s6, l6, es, by omega, by go_num, rfl, DL.out.2.2, DL.out.2.1, by omega, DS2.out, XZ2.out⟩
                    case measure => simp [intOf]; omega
                  · have HF : Hid (findI l6 (kk : Int) = -1) := hf
                    have HH : Hid (s6.has (kk : Int) = false) := hh
                    clear hf hh
                    go_wp2_with fail
                    refine (find_any n _ l6 (kk : Int) wc DS2.out.rbs).mono ?_
                    rintro e wd ⟨rfl, hwd⟩
                    obtain rfl := hwd.symm
                    rw [HF.out]
                    go_wp2_with fail
                    refine (has_any a a s6 (kk : Int) wc DS2.out.ar).mono ?_
                    rintro e wd ⟨rfl, hwd⟩
                    obtain rfl := hwd.symm
                    rw [HH.out]
                    go_wp2_with fail
                    refine (azero_any a a s6 (kk : Int) wc DS2.out.ar).mono ?_
                    rintro e wd ⟨rfl, hwd⟩
                    obtain rfl := hwd.symm
                    rw [HH.out]
                    go_wp2
                    go_roundw
                    case rel => exact ⟨t + 1, E, P, s6, l6, es, by omega, by go_num, rfl, DL.out.2.2, DL.out.2.1, by omega, DS2.out, XZ2.out⟩
                    case measure => simp [intOf]; omega
              · have HF : Hid (findI l i = -1) := hf
                have HQ : Hid (s.has i = false) := hh
                clear hf hh hno
                go_wp2_with fail
                refine (rput_miss n _ l i _ (w4.alloc (.cells #[.slice (some ⟨yf.q, 0, none⟩) n n] 28)) STA.out.rbs HF.out).mono ?_
                rintro e wd ⟨rfl, hwd⟩
                rw [← hwd] at STA XBA
                clear hwd CA BA hcl1
                go_wp2_with fail
                refine (onto_no a a s i kf wd STA.out.ar (.inr (.inr HQ.out))).mono ?_
                rintro e w7 ⟨rfl, hx7⟩
                have DS : Hid (DoSt w7 a s n room (.slice (some ⟨bl0, ol0, none⟩) L cl) (.slice ae E ce) l es) := STA.out.below hx7
                have XZ : Hid (Below a w1 w7) := XBA.out.trans (hx7.mono STA.out.ar.B_le)
                clear hx7 STA XBA ST4 XB4 HF HQ HFF HJF HLF
                have DL : Hid (l.length = L ∧ es.length = E ∧ s.bl.length = P) := ⟨HL.out, PP.out.2, PP.out.1⟩
                have DV : Hid ((s.bl.length : Int) - (s.back.length : Int) = (L : Int)) := LV.out
                have HM : Hid (max (P : Int) (L : Int) = (P : Int)) := by unfold Hid; omega
                generalize (some (⟨bl0, ol0, none⟩ : Addr)) = al0 at *
                as_aux_lemma =>
                  have hmx := max2 (P : Int) (L : Int)
                  rw [HM.out] at hmx
                  go_wp2_with fail
                  refine (alive_any a a s w7 DS.out.ar).mono ?_
                  rintro e wa ⟨rfl, nd, rfl⟩
                  rw [DV.out]
                  go_wp2_with fail
                  refine (apeak_any a a s _ (DS.out.ar.below (below_drewN (Below.refl _ _) _))).mono ?_
                  rintro e wb ⟨rfl, hwb⟩
                  obtain rfl := hwb.symm
                  rw [DL.out.2.2]
                  have DS1 : Hid (DoSt (w7.drewN nd) a s n room (.slice al0 L cl) (.slice ae E ce) l es) := DS.out.below (below_drewN (Below.refl _ _) _)
                  have XZ1 : Hid (Below a w1 (w7.drewN nd)) := below_drewN XZ.out _
                  clear DS XZ hmx
                  go_wp2_with fail
                  refine (same_any a s n _ l room (w7.drewN nd) DS1.out.ar DS1.out.sz DS1.out.rbs DS1.out.same (fun i x hx => ⟨(DS1.out.out.blk i x hx).1, (DS1.out.out.blk i x hx).2.1⟩) (by have := DS1.out.len; have := DS1.out.made; omega) (by omega) (by omega)).mono ?_
                  rintro e wc ⟨rfl, hbc⟩
                  have DS2 : Hid (DoSt wc a s n room (.slice al0 L cl) (.slice ae E ce) l es) := DS1.out.below hbc
                  have XZ2 : Hid (Below a w1 wc) := XZ1.out.trans (hbc.mono DS1.out.ar.B_le)
                  clear DS1 XZ1 hbc
                  rcases find_same DS2.out.same i with ⟨j, y, q, hj, hy, hf, hq, hh⟩ | ⟨hf, hh, -⟩
                  · have hjL : j < L := by rw [← DL.out.1]; exact (List.getElem?_eq_some_iff.1 hj).1
                    have hcc := DS2.out.rbs.cells hj
                    obtain ⟨bl0, ol0, hal, -, hcl1⟩ := hcc
                    have hby := DS2.out.out.blk j y hj
                    have BY : Hid (Bs wc (.slice (some ⟨y.q, 0, none⟩) n n) y.b) := hby.1.bs0 n n hby.2.1.symm (Nat.le_refl _) (by unfold maxLen; omega)
                    have eZ : (s.has i && zeroB (s.bytes i)) = zeroB y.b := by
                      rw [hh]
                      have e2 : s.bytes i = y.b := by rw [← hy]; simp [Ar.bytes, hq]
                      rw [e2]
                      rfl
                    have HZZ : Hid ((s.has i && zeroB (s.bytes i)) = zeroB y.b) := eZ
                    have HF : Hid (findI l i = (j : Int)) := hf
                    have HH : Hid (s.has i = true) := hh
                    have hjI : (j : Int) < (L : Int) := by omega
                    clear eZ hf hh hq hj hy hby
                    subst hal
                    go_wp2_with fail
                    refine (find_any n _ l i wc DS2.out.rbs).mono ?_
                    rintro e wd ⟨rfl, hwd⟩
                    obtain rfl := hwd.symm
                    rw [HF.out]
                    go_wp2_with fail
                    refine (has_any a a s i wc DS2.out.ar).mono ?_
                    rintro e wd ⟨rfl, hwd⟩
                    obtain rfl := hwd.symm
                    rw [HH.out]
                    go_wp2_with fail
                    refine (azero_any a a s i wc DS2.out.ar).mono ?_
                    rintro e wd ⟨rfl, hwd⟩
                    obtain rfl := hwd.symm
                    rw [HZZ.out]
                    generalize y.b = yb at *
                    go_wp2_with fail
                    refine (rzero_any _ yb wc BY.out).mono ?_
                    rintro e wd ⟨rfl, hwd⟩
                    obtain rfl := hwd.symm
                    go_wp2
                    go_roundw
                    case rel => exact ⟨t + 1, E, P, s, l, es, by omega, by go_num, rfl, DL.out.2.2, DL.out.2.1, by omega, DS2.out, XZ2.out⟩
                    case measure => simp [intOf]; omega
                  · have HF : Hid (findI l i = -1) := hf
                    have HH : Hid (s.has i = false) := hh
                    clear hf hh
                    go_wp2_with fail
                    refine (find_any n _ l i wc DS2.out.rbs).mono ?_
                    rintro e wd ⟨rfl, hwd⟩
                    obtain rfl := hwd.symm
                    rw [HF.out]
                    go_wp2_with fail
                    refine (has_any a a s i wc DS2.out.ar).mono ?_
                    rintro e wd ⟨rfl, hwd⟩
                    obtain rfl := hwd.symm
                    rw [HH.out]
                    go_wp2_with fail
                    refine (azero_any a a s i wc DS2.out.ar).mono ?_
                    rintro e wd ⟨rfl, hwd⟩
                    obtain rfl := hwd.symm
                    rw [HH.out]
                    go_wp2
                    go_roundw
                    case rel => exact ⟨t + 1, E, P, s, l, es, by omega, by go_num, rfl, DL.out.2.2, DL.out.2.1, by omega, DS2.out, XZ2.out⟩
                    case measure => simp [intOf]; omega
            · have HF : Hid (findI l k = -1) := hff
              have HQ : Hid (s.has k = false) := hhf
              clear hff hhf hk0 hk1 hk2
              go_wp2_with fail
              refine (find_any n _ l k w4 ST4.out.rbs).mono ?_
              rintro e wd ⟨rfl, hwd⟩
              obtain rfl := hwd.symm
              rw [HF.out]
              go_wp2_with fail
              refine (onto_no a a s i k w4 ST4.out.ar (.inr (.inl HQ.out))).mono ?_
              rintro e w7 ⟨rfl, hx7⟩
              have DS : Hid (DoSt w7 a s n room (.slice al L cl) (.slice ae E ce) l es) := ST4.out.below hx7
              have XZ : Hid (Below a w1 w7) := XB4.out.trans (hx7.mono ST4.out.ar.B_le)
              clear hx7 ST4 XB4 HF HQ
              have DL : Hid (l.length = L ∧ es.length = E ∧ s.bl.length = P) := ⟨HL.out, PP.out.2, PP.out.1⟩
              have DV : Hid ((s.bl.length : Int) - (s.back.length : Int) = (L : Int)) := LV.out
              have HM : Hid (max (P : Int) (L : Int) = (P : Int)) := by unfold Hid; omega
              as_aux_lemma =>
                have hmx := max2 (P : Int) (L : Int)
                rw [HM.out] at hmx
                go_wp2_with fail
                refine (alive_any a a s w7 DS.out.ar).mono ?_
                rintro e wa ⟨rfl, nd, rfl⟩
                rw [DV.out]
                go_wp2_with fail
                refine (apeak_any a a s _ (DS.out.ar.below (below_drewN (Below.refl _ _) _))).mono ?_
                rintro e wb ⟨rfl, hwb⟩
                obtain rfl := hwb.symm
                rw [DL.out.2.2]
                have DS1 : Hid (DoSt (w7.drewN nd) a s n room (.slice al L cl) (.slice ae E ce) l es) := DS.out.below (below_drewN (Below.refl _ _) _)
                have XZ1 : Hid (Below a w1 (w7.drewN nd)) := below_drewN XZ.out _
                clear DS XZ hmx
                go_wp2_with fail
                refine (same_any a s n _ l room (w7.drewN nd) DS1.out.ar DS1.out.sz DS1.out.rbs DS1.out.same (fun i x hx => ⟨(DS1.out.out.blk i x hx).1, (DS1.out.out.blk i x hx).2.1⟩) (by have := DS1.out.len; have := DS1.out.made; omega) (by omega) (by omega)).mono ?_
                rintro e wc ⟨rfl, hbc⟩
                have DS2 : Hid (DoSt wc a s n room (.slice al L cl) (.slice ae E ce) l es) := DS1.out.below hbc
                have XZ2 : Hid (Below a w1 wc) := XZ1.out.trans (hbc.mono DS1.out.ar.B_le)
                clear DS1 XZ1 hbc
                rcases find_same DS2.out.same i with ⟨j, y, q, hj, hy, hf, hq, hh⟩ | ⟨hf, hh, -⟩
                · have hjL : j < L := by rw [← DL.out.1]; exact (List.getElem?_eq_some_iff.1 hj).1
                  have hcc := DS2.out.rbs.cells hj
                  obtain ⟨bl0, ol0, hal, -, hcl1⟩ := hcc
                  have hby := DS2.out.out.blk j y hj
                  have BY : Hid (Bs wc (.slice (some ⟨y.q, 0, none⟩) n n) y.b) := hby.1.bs0 n n hby.2.1.symm (Nat.le_refl _) (by unfold maxLen; omega)
                  have eZ : (s.has i && zeroB (s.bytes i)) = zeroB y.b := by
                    rw [hh]
                    have e2 : s.bytes i = y.b := by rw [← hy]; simp [Ar.bytes, hq]
                    rw [e2]
                    rfl
                  have HZZ : Hid ((s.has i && zeroB (s.bytes i)) = zeroB y.b) := eZ
                  have HF : Hid (findI l i = (j : Int)) := hf
                  have HH : Hid (s.has i = true) := hh
                  have hjI : (j : Int) < (L : Int) := by omega
                  clear eZ hf hh hq hj hy hby
                  subst hal
                  go_wp2_with fail
                  refine (find_any n _ l i wc DS2.out.rbs).mono ?_
                  rintro e wd ⟨rfl, hwd⟩
                  obtain rfl := hwd.symm
                  rw [HF.out]
                  go_wp2_with fail
                  refine (has_any a a s i wc DS2.out.ar).mono ?_
                  rintro e wd ⟨rfl, hwd⟩
                  obtain rfl := hwd.symm
                  rw [HH.out]
                  go_wp2_with fail
                  refine (azero_any a a s i wc DS2.out.ar).mono ?_
                  rintro e wd ⟨rfl, hwd⟩
                  obtain rfl := hwd.symm
                  rw [HZZ.out]
                  generalize y.b = yb at *
                  go_wp2_with fail
                  refine (rzero_any _ yb wc BY.out).mono ?_
                  rintro e wd ⟨rfl, hwd⟩
                  obtain rfl := hwd.symm
                  go_wp2
                  go_roundw
                  case rel => exact ⟨t + 1, E, P, s, l, es, by omega, by go_num, rfl, DL.out.2.2, DL.out.2.1, by omega, DS2.out, XZ2.out⟩
                  case measure => simp [intOf]; omega
                · have HF : Hid (findI l i = -1) := hf
                  have HH : Hid (s.has i = false) := hh
                  clear hf hh
                  go_wp2_with fail
                  refine (find_any n _ l i wc DS2.out.rbs).mono ?_
                  rintro e wd ⟨rfl, hwd⟩
                  obtain rfl := hwd.symm
                  rw [HF.out]
                  go_wp2_with fail
                  refine (has_any a a s i wc DS2.out.ar).mono ?_
                  rintro e wd ⟨rfl, hwd⟩
                  obtain rfl := hwd.symm
                  rw [HH.out]
                  go_wp2_with fail
                  refine (azero_any a a s i wc DS2.out.ar).mono ?_
                  rintro e wd ⟨rfl, hwd⟩
                  obtain rfl := hwd.symm
                  rw [HH.out]
                  go_wp2
                  go_roundw
                  case rel => exact ⟨t + 1, E, P, s, l, es, by omega, by go_num, rfl, DL.out.2.2, DL.out.2.1, by omega, DS2.out, XZ2.out⟩
                  case measure => simp [intOf]; omega
      have hd0 : (kd == 0) = false := by simpa using hk0
      have hd1 : (kd == 1) = false := by simpa using hk1
      have hd2 : (kd == 2) = false := by simpa using hk2
      have hd3 : (kd == 3) = false := by simpa using hk3
      clear hk0 hk1 hk2 hk3
      have DS : Hid (DoSt w4 a s n room (.slice al L cl) (.slice ae E ce) l es) := ST4.out
      have XZ : Hid (Below a w1 w4) := XB4.out
      have DL : Hid (l.length = L ∧ es.length = E ∧ s.bl.length = P) := ⟨HL.out, PP.out.2, PP.out.1⟩
      have DV : Hid ((s.bl.length : Int) - (s.back.length : Int) = (L : Int)) := LV.out
      have HM : Hid (max (P : Int) (L : Int) = (P : Int)) := by unfold Hid; omega
      as_aux_lemma =>
        have hmx := max2 (P : Int) (L : Int)
        rw [HM.out] at hmx
        go_wp2_with fail
        refine (alive_any a a s w4 DS.out.ar).mono ?_
        rintro e wa ⟨rfl, nd, rfl⟩
        rw [DV.out]
        go_wp2_with fail
        refine (apeak_any a a s _ (DS.out.ar.below (below_drewN (Below.refl _ _) _))).mono ?_
        rintro e wb ⟨rfl, hwb⟩
        obtain rfl := hwb.symm
        rw [DL.out.2.2]
        have DS1 : Hid (DoSt (w4.drewN nd) a s n room (.slice al L cl) (.slice ae E ce) l es) := DS.out.below (below_drewN (Below.refl _ _) _)
        have XZ1 : Hid (Below a w1 (w4.drewN nd)) := below_drewN XZ.out _
        clear DS XZ hmx
        go_wp2_with fail
        refine (same_any a s n _ l room (w4.drewN nd) DS1.out.ar DS1.out.sz DS1.out.rbs DS1.out.same (fun i x hx => ⟨(DS1.out.out.blk i x hx).1, (DS1.out.out.blk i x hx).2.1⟩) (by have := DS1.out.len; have := DS1.out.made; omega) (by omega) (by omega)).mono ?_
        rintro e wc ⟨rfl, hbc⟩
        have DS2 : Hid (DoSt wc a s n room (.slice al L cl) (.slice ae E ce) l es) := DS1.out.below hbc
        have XZ2 : Hid (Below a w1 wc) := XZ1.out.trans (hbc.mono DS1.out.ar.B_le)
        clear DS1 XZ1 hbc
        rcases find_same DS2.out.same i with ⟨j, y, q, hj, hy, hf, hq, hh⟩ | ⟨hf, hh, -⟩
        · have hjL : j < L := by rw [← DL.out.1]; exact (List.getElem?_eq_some_iff.1 hj).1
          have hcc := DS2.out.rbs.cells hj
          obtain ⟨bl0, ol0, hal, -, hcl1⟩ := hcc
          have hby := DS2.out.out.blk j y hj
          have BY : Hid (Bs wc (.slice (some ⟨y.q, 0, none⟩) n n) y.b) := hby.1.bs0 n n hby.2.1.symm (Nat.le_refl _) (by unfold maxLen; omega)
          have eZ : (s.has i && zeroB (s.bytes i)) = zeroB y.b := by
            rw [hh]
            have e2 : s.bytes i = y.b := by rw [← hy]; simp [Ar.bytes, hq]
            rw [e2]
            rfl
          have HZZ : Hid ((s.has i && zeroB (s.bytes i)) = zeroB y.b) := eZ
          have HF : Hid (findI l i = (j : Int)) := hf
          have HH : Hid (s.has i = true) := hh
          have hjI : (j : Int) < (L : Int) := by omega
          clear eZ hf hh hq hj hy hby
          subst hal
          go_wp2_with fail
          refine (find_any n _ l i wc DS2.out.rbs).mono ?_
          rintro e wd ⟨rfl, hwd⟩
          obtain rfl := hwd.symm
          rw [HF.out]
          go_wp2_with fail
          refine (has_any a a s i wc DS2.out.ar).mono ?_
          rintro e wd ⟨rfl, hwd⟩
          obtain rfl := hwd.symm
          rw [HH.out]
          go_wp2_with fail
          refine (azero_any a a s i wc DS2.out.ar).mono ?_
          rintro e wd ⟨rfl, hwd⟩
          obtain rfl := hwd.symm
          rw [HZZ.out]
          generalize y.b = yb at *
          go_wp2_with fail
          refine (rzero_any _ yb wc BY.out).mono ?_
          rintro e wd ⟨rfl, hwd⟩
          obtain rfl := hwd.symm
          go_wp2
          go_roundw
          case rel => exact ⟨t + 1, E, P, s, l, es, by omega, by go_num, rfl, DL.out.2.2, DL.out.2.1, by omega, DS2.out, XZ2.out⟩
          case measure => simp [intOf]; omega
        · have HF : Hid (findI l i = -1) := hf
          have HH : Hid (s.has i = false) := hh
          clear hf hh
          go_wp2_with fail
          refine (find_any n _ l i wc DS2.out.rbs).mono ?_
          rintro e wd ⟨rfl, hwd⟩
          obtain rfl := hwd.symm
          rw [HF.out]
          go_wp2_with fail
          refine (has_any a a s i wc DS2.out.ar).mono ?_
          rintro e wd ⟨rfl, hwd⟩
          obtain rfl := hwd.symm
          rw [HH.out]
          go_wp2_with fail
          refine (azero_any a a s i wc DS2.out.ar).mono ?_
          rintro e wd ⟨rfl, hwd⟩
          obtain rfl := hwd.symm
          rw [HH.out]
          go_wp2
          go_roundw
          case rel => exact ⟨t + 1, E, P, s, l, es, by omega, by go_num, rfl, DL.out.2.2, DL.out.2.1, by omega, DS2.out, XZ2.out⟩
          case measure => simp [intOf]; omega
    · go_wp2_with fail
      refine (asize_any a a s wr ST.out.ar).mono ?_
      rintro e wd ⟨rfl, hwd⟩
      obtain rfl := hwd.symm
      rw [ST.out.sz]
      go_wp2
      go_ret
      exact ⟨rfl, XF.out _ XB.out⟩

end Go.Proofs.Ytofbklabapmdcaa
