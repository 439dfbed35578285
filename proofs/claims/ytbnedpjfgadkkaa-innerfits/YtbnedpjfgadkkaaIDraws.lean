/-
  InnerDraws.
-/
import Derived.Test.YtbnedpjfgadkkaaInS
import Derived.Test.YtbnedpjfgadkkaaLStruct
namespace Go.Proofs.Ytbnedpjfgadkkaa
open Go.RowKit
set_option linter.unusedVariables false

def IsZs (l : List Int) : Value → World → Prop := fun v W => Zs W v l
theorem stays_zs (l : List Int) : Stays (IsZs l) := fun _ _ _ hb h => Zs.below h hb

set_option maxRecDepth 100000 in
set_option maxHeartbeats 4000000 in
theorem innerDraws_walk (N B Q E F : Int) (S : Nat) (iv : Value) (ids : List Nat) (w : World) (hS : S < 18446744073709551616) (hi : Us w iv ids) :
    Calls Try.prog 3 #[.agg #[.int .i64 N, .int .i64 B, .int .i64 Q, .int .i64 E, .int .i64 F], .int .u64 S, iv] w fun e w' => e = .returned (.bool true) ∧ Below w.heap.size w w' := by
  have HU : Hid (Us w iv ids) := hi
  obtain ⟨⟨-, ao, cap, rfl, h2, h3, -, -⟩, -⟩ := hi
  unfold maxLen at h3
  obtain ⟨m, hm⟩ : ∃ m, ids.length = m := ⟨_, rfl⟩
  rw [hm] at h2 HU ⊢
  have HL : Hid (ids.length = m) := hm
  have HS : Hid (S < 18446744073709551616) := hS
  clear hm hS
  go_enter Try.func3, Try.ntmps3
  go_wp2_with fail
  refine (speaks11_any _).mono ?_
  rintro e w1 ⟨rfl, hb⟩
  have B1 : Hid (Below w.heap.size w w1) := below_on (below_alloc _ _) hb
  have P1 : Hid (Five w1 w.heap.size N B Q E F) := (five_new w _ _ _ _ _ _).below hb
  clear hb
  obtain ⟨c0, c1, c2, c3, c4⟩ := P1.out
  by_cases hm50 : m > 50
  · have km : (m : Int) > 50 := by omega
    go_wp2
    go_ret
    exact ⟨rfl, B1.out⟩
  · have km : ¬ (m : Int) > 50 := by omega
    by_cases hM : May N B Q E F
    · obtain ⟨E, F, rfl, rfl, hmd⟩ := may_nat hM
      obtain ⟨A, hA, -, hA2⟩ := all_nat hM
      have f4 := hmd.f4
      by_cases hF : F > 200
      · have kF : (F : Int) > 200 := by omega
        have kF2 : (F : Int) ≤ 4096 := by omega
        clear hA hM
        go_wp2
        go_ret
        exact ⟨rfl, B1.out⟩
      · have kF : ¬ (F : Int) > 200 := by omega
        have CN : Hid (∀ W, Calls Try.prog 12 #[.agg #[.int .i64 N, .int .i64 B, .int .i64 Q, .int .i64 (E : Nat), .int .i64 (F : Nat)], .int .u64 S] W fun e w' => ∃ a t, e = .returned (.tuple #[.pointer (some ⟨a, 0, none⟩), .int .i64 0]) ∧ W.heap.size ≤ a ∧ IsSrc w' a t F E S A ∧ Below W.heap.size W w') := fun W => inew_yes N B Q E F S A W hM hA
        have CX : Hid (∀ W, Calls Try.prog 13 #[.agg #[.int .i64 N, .int .i64 B, .int .i64 Q, .int .i64 (E : Nat), .int .i64 (F : Nat)]] W fun e w' => e = .returned (.bool true) ∧ Below W.heap.size W w') := fun W => rmay_yes _ _ _ _ _ W hM
        have CI : Hid (∀ id k l, Chk F E S A id k l → id < 18446744073709551616 → ∀ W a t, IsSrc W a t F E S A → Calls Try.prog 15 #[.pointer (some ⟨a, 0, none⟩), .int .u64 id] W fun e w' => ∃ v, e = .returned v ∧ IsZs l v w' ∧ Below W.heap.size W w') := by
          intro id k l hc hid W a t h
          refine (iblocks_chk hc a t W h hmd hA2 HS.out hid).mono ?_
          rintro e w' ⟨b, c, rfl, ho, hb⟩
          exact ⟨_, rfl, ho.zs, hb⟩
        have CR : Hid (∀ id k l, Chk F E S A id k l → id < 18446744073709551616 → ∀ W, Calls Try.prog 16 #[.agg #[.int .i64 N, .int .i64 B, .int .i64 Q, .int .i64 (E : Nat), .int .i64 (F : Nat)], .int .u64 S, .int .u64 id] W fun e w' => ∃ v, e = .returned v ∧ IsZs l v w' ∧ Below W.heap.size W w') := by
          intro id k l hc hid W
          refine (rblocks_chk hc N B Q W hM hmd hA HS.out hid).mono ?_
          rintro e w' ⟨b, c, rfl, ho, hb⟩
          exact ⟨_, rfl, ho.zs, hb⟩
        have HCh : Hid (∀ id, ∃ k l, Chk F E S A id k l) := fun id => chk_is E S A id hmd.f2
        clear hA hM hA2 hmd f4
        go_wp2_with fail
        refine (CN.out _).mono ?_
        rintro e w2 ⟨a, t, rfl, -, hs, hb⟩
        have B2 : Hid (Below w.heap.size w w2) := below_on B1.out hb
        have P2 : Hid (Five w2 w.heap.size N B Q E F) := P1.out.below hb
        have S2 : Hid (IsSrc w2 a t F E S A) := hs
        clear hb hs CN c0 c1 c2 c3 c4 P1 B1
        obtain ⟨c0, c1, c2, c3, c4⟩ := P2.out
        go_wp2_with fail
        refine (CX.out _).mono ?_
        rintro e w3 ⟨rfl, hb⟩
        have B3 : Hid (Below w.heap.size w w3) := below_on B2.out hb
        have P3 : Hid (Five w3 w.heap.size N B Q E F) := P2.out.below hb
        have S3 : Hid (IsSrc w3 a t F E S A) := S2.out.below hb
        clear hb CX c0 c1 c2 c3 c4 P2 B2 S2
        go_wp2
        go_loopw [49] (fun xv wr => ∃ i : Nat, i ≤ m ∧ xv = .int .i64 i ∧ Hid (Below w3.heap.size w3 wr)) (fun xv _ => m - (intOf xv).toNat)
        case atStart => exact ⟨0, by omega, rfl, Below.refl _ _⟩
        case round =>
          obtain ⟨i, hi, rfl, BB⟩ := hrel
          by_cases hlt : i < m
          · have hil : i < ids.length := by rw [HL.out]; exact hlt
            obtain ⟨⟨-, ao', cap', hv0, -, -, -, h5⟩, hbd⟩ := HU.out
            injection hv0 with e1 e2 e3
            subst e1
            obtain ⟨b0, o0, rfl, hc0⟩ : ∃ b off, ao = some ⟨b, off, none⟩ ∧ ∀ j u, (ids.map uv)[j]? = some u → w.cell? ⟨b, off + j, none⟩ = some u := by
              rcases h5 with h0 | h0
              · omega
              · exact h0
            have ck0 := hc0 i _ (map_uv_at ids i hil)
            have ck := ((below_on B3.out BB.out).cell (cell_block_lt ck0)).trans ck0
            have HI : Hid (ids[i] < 18446744073709551616) := hbd _ (List.getElem_mem hil)
            clear hc0 ck0 e2 e3 hbd
            generalize ids[i] = id at *
            obtain ⟨k, l, hch⟩ := HCh.out id
            have BX : Hid (∀ W, Below wr.heap.size wr W → Five W w.heap.size N B Q E F) := fun W hW => (P3.out.below BB.out).below hW
            have C1 : Hid (∀ W, Below wr.heap.size wr W → Calls Try.prog 15 #[.pointer (some ⟨a, 0, none⟩), .int .u64 id] W fun e w' => ∃ v, e = .returned v ∧ IsZs l v w' ∧ Below W.heap.size W w') := fun W hW => CI.out id k l hch HI.out W a t ((S3.out.below BB.out).below hW)
            have C2 : Hid (∀ W, Below wr.heap.size wr W → Calls Try.prog 16 #[.agg #[.int .i64 N, .int .i64 B, .int .i64 Q, .int .i64 (E : Nat), .int .i64 (F : Nat)], .int .u64 S, .int .u64 id] W fun e w' => ∃ v, e = .returned v ∧ IsZs l v w' ∧ Below W.heap.size W w') := fun W hW => CR.out id k l hch HI.out W
            have C3 : Hid (∀ W v1 v2, Below wr.heap.size wr W → IsZs l v1 W → IsZs l v2 W → Calls Try.prog 14 #[v1, v2] W fun e w' => ∃ v, e = .returned v ∧ IsV (.int .i64 1) v w' ∧ Below W.heap.size W w') := by
              intro W v1 v2 hW h1 h2
              refine (same9_any v1 v2 l l W h1 h2).mono ?_
              rintro e w' ⟨rfl, hb⟩
              rw [sameI_self]
              exact ⟨_, rfl, rfl, hb⟩
            clear hch HI
            go_upto_region 13 with fail
            refine wp_region_any (by kernel_rfl) ?_
            obtain ⟨gs, hgs⟩ : ∃ gs : List (Value → World → Prop), gs = [IsV (Value.pointer (some { block := a, off := 0 })), IsV (Value.int IntKind.u64 ↑id), IsAnyV, IsV (.agg #[.int .i64 N, .int .i64 B, .int .i64 Q, .int .i64 (E : Int), .int .i64 (F : Int)]), IsV (Value.int IntKind.u64 ↑S), IsV (Value.int IntKind.u64 ↑id), IsAnyV, IsV (.int .i64 1), IsV (.bool false)] := ⟨_, rfl⟩
            have g0 : Hid (gs[0]? = some (IsV (Value.pointer (some { block := a, off := 0 })))) := by unfold Hid; rw [hgs]; rfl
            have g1 : Hid (gs[1]? = some (IsV (Value.int IntKind.u64 ↑id))) := by unfold Hid; rw [hgs]; rfl
            have g2 : Hid (gs[2]? = some (IsAnyV)) := by unfold Hid; rw [hgs]; rfl
            have g3 : Hid (gs[3]? = some (IsV (.agg #[.int .i64 N, .int .i64 B, .int .i64 Q, .int .i64 (E : Int), .int .i64 (F : Int)]))) := by unfold Hid; rw [hgs]; rfl
            have g4 : Hid (gs[4]? = some (IsV (Value.int IntKind.u64 ↑S))) := by unfold Hid; rw [hgs]; rfl
            have g5 : Hid (gs[5]? = some (IsV (Value.int IntKind.u64 ↑id))) := by unfold Hid; rw [hgs]; rfl
            have g6 : Hid (gs[6]? = some (IsAnyV)) := by unfold Hid; rw [hgs]; rfl
            have g7 : Hid (gs[7]? = some (IsV (.int .i64 1))) := by unfold Hid; rw [hgs]; rfl
            have g8 : Hid (gs[8]? = some (IsV (.bool false))) := by unfold Hid; rw [hgs]; rfl
            have gk : Hid (∀ p ∈ gs, ∀ v (U U' : World), p v U → p v U') := by
              unfold Hid
              rw [hgs]
              simp only [List.forall_mem_cons]
              exact ⟨(fun _ _ _ h => h), (fun _ _ _ h => h), (fun _ _ _ h => h), (fun _ _ _ h => h), (fun _ _ _ h => h), (fun _ _ _ h => h), (fun _ _ _ h => h), (fun _ _ _ h => h), (fun _ _ _ h => h), by simp⟩
            clear hgs
            have JS : Hid (∀ W W', Below W.heap.size W W' → (fun W => Below wr.heap.size wr W) W → (fun W => Below wr.heap.size wr W) W') := fun W W' hb h => h.trans (hb.mono h.size)
            have st2 : Hid (Stays (IsZs l)) := stays_zs _
            have st6 : Hid (Stays (IsZs l)) := stays_zs _
            refine wpAny_inv4 (fun listed ac W => ∃ xv : Nat → Value, ac = ⟨#[Value.agg #[Value.int IntKind.i64 N, Value.int IntKind.i64 B, Value.int IntKind.i64 Q, Value.int IntKind.i64 ↑E, Value.int IntKind.i64 ↑F], Value.int IntKind.u64 ↑S, Value.slice (some { block := b0, off := o0 }) m cap, Value.pointer (some { block := w.heap.size, off := 0 }), undef, undef, u6, Value.pointer (some { block := a, off := 0 }), Value.int IntKind.i64 (0 : Int), undef, Value.int IntKind.u64 ↑id, Value.bool true, Value.bool false, Value.slice (some { block := b0, off := o0 }) m cap, Value.int IntKind.i64 ↑m, Value.bool (decide ((50 : Int) < ↑m)), Value.bool (decide ((50 : Int) < ↑m)), Value.pointer (some { block := w.heap.size, off := 4 }), Value.int IntKind.i64 ↑F, Value.bool false, Value.bool false, undef, undef, undef, Value.bool false, Value.bool (decide ((50 : Int) < ↑m)), Value.tuple #[Value.pointer (some { block := a, off := 0 }), Value.int IntKind.i64 (0 : Int)], Value.agg #[Value.int IntKind.i64 N, Value.int IntKind.i64 B, Value.int IntKind.i64 Q, Value.int IntKind.i64 ↑E, Value.int IntKind.i64 ↑F], Value.int IntKind.u64 ↑S, Value.tuple #[Value.pointer (some { block := a, off := 0 }), Value.int IntKind.i64 (0 : Int)], Value.pointer (some { block := a, off := 0 }), Value.int IntKind.i64 (0 : Int), Value.agg #[Value.int IntKind.i64 N, Value.int IntKind.i64 B, Value.int IntKind.i64 Q, Value.int IntKind.i64 ↑E, Value.int IntKind.i64 ↑F], Value.bool true, Value.bool false, undef, undef, undef, undef, undef, undef, Value.int IntKind.i64 (0 : Int), Value.bool false, Value.bool false, Value.pointer (some { block := a, off := 0 }), Value.bool false, Value.bool false, Value.slice (some { block := b0, off := o0 }) m cap, Value.int IntKind.i64 ↑m, Value.int IntKind.i64 ↑i, Value.bool true, Value.pointer (some { block := b0, off := o0 + i }), Value.int IntKind.u64 ↑id, xv 0, xv 1, xv 2, xv 3, xv 4, xv 5, xv 6, xv 7, xv 8, u62], []⟩ ∧ (fun W => Below wr.heap.size wr W) W ∧ Lst gs listed xv W ∧ Fe listed xv W 2 (IsZs l) ∧ Fe listed xv W 6 (IsZs l)) (by kernel_rfl) ?_ ?_ _ _ _ _ (by kernel_rfl) (of_decide_eq_true (by kernel_rfl)) (Down.start _) ⟨fun jx => if jx = 0 then u53 else if jx = 1 then u54 else if jx = 2 then u55 else if jx = 3 then u56 else if jx = 4 then u57 else if jx = 5 then u58 else if jx = 6 then u59 else if jx = 7 then u60 else if jx = 8 then u61 else undef, rfl, below0 _, Lst.start _ _ _ _, Fe.start _ _ _ _ _, Fe.start _ _ _ _ _⟩
            · rintro listed ac W ⟨xv, rfl, hb, hG, hF2, hF6⟩ hD i hi hnl hd
              have hin : i < 9 := hi
              clear hi
              have hcase : i = 0 ∨ i = 1 ∨ i = 2 ∨ i = 3 ∨ i = 4 ∨ i = 5 ∨ i = 6 ∨ i = 7 ∨ i = 8 := by omega
              rcases hcase with rfl | rfl | rfl | rfl | rfl | rfl | rfl | rfl | rfl
              · refine wpOp_step rfl (fun K' hK => ?_)
                clear hd hin hD
                go_simp
                exact hK _ _ ⟨updV xv 0 (Value.pointer (some { block := a, off := 0 })), by simp [updV], hb, hG.any gk.out g0.out _ rfl, hF2.step (fun _ h => h) (by decide) _, hF6.step (fun _ h => h) (by decide) _⟩
              · refine wpOp_step rfl (fun K' hK => ?_)
                clear hd hin hD
                go_simp
                exact hK _ _ ⟨updV xv 1 (Value.int IntKind.u64 ↑id), by simp [updV], hb, hG.any gk.out g1.out _ rfl, hF2.step (fun _ h => h) (by decide) _, hF6.step (fun _ h => h) (by decide) _⟩
              · refine wpOp_step rfl (fun K' hK => ?_)
                simp [Region.binds] at hd
                have e0 : xv 0 = Value.pointer (some { block := a, off := 0 }) := hG.get g0.out (by simp [hd])
                have e1 : xv 1 = Value.int IntKind.u64 ↑id := hG.get g1.out (by simp [hd])
                clear hd hin hD
                go_simp
                refine (C1.out W hb).mono ?_
                rintro e w' ⟨v, rfl, hv, hb'⟩
                go_wp2_with fail
                exact ⟨updV xv 2 v, by simp [updV, e0, e1], JS.out _ _ hb' hb, hG.any gk.out g2.out v trivial, Fe.new (hv), hF6.on st6.out hb' (by decide) _⟩
              · refine wpOp_step rfl (fun K' hK => ?_)
                obtain ⟨c0, c1, c2, c3, c4⟩ := BX.out W hb
                clear hd hin hD
                go_simp
                exact hK _ _ ⟨updV xv 3 (.agg #[.int .i64 N, .int .i64 B, .int .i64 Q, .int .i64 (E : Int), .int .i64 (F : Int)]), by simp [updV], hb, hG.any gk.out g3.out _ rfl, hF2.step (fun _ h => h) (by decide) _, hF6.step (fun _ h => h) (by decide) _⟩
              · refine wpOp_step rfl (fun K' hK => ?_)
                clear hd hin hD
                go_simp
                exact hK _ _ ⟨updV xv 4 (Value.int IntKind.u64 ↑S), by simp [updV], hb, hG.any gk.out g4.out _ rfl, hF2.step (fun _ h => h) (by decide) _, hF6.step (fun _ h => h) (by decide) _⟩
              · refine wpOp_step rfl (fun K' hK => ?_)
                clear hd hin hD
                go_simp
                exact hK _ _ ⟨updV xv 5 (Value.int IntKind.u64 ↑id), by simp [updV], hb, hG.any gk.out g5.out _ rfl, hF2.step (fun _ h => h) (by decide) _, hF6.step (fun _ h => h) (by decide) _⟩
              · refine wpOp_step rfl (fun K' hK => ?_)
                simp [Region.binds] at hd
                have e3 : xv 3 = .agg #[.int .i64 N, .int .i64 B, .int .i64 Q, .int .i64 (E : Int), .int .i64 (F : Int)] := hG.get g3.out (by simp [hd])
                have e4 : xv 4 = Value.int IntKind.u64 ↑S := hG.get g4.out (by simp [hd])
                have e5 : xv 5 = Value.int IntKind.u64 ↑id := hG.get g5.out (by simp [hd])
                clear hd hin hD
                go_simp
                refine (C2.out W hb).mono ?_
                rintro e w' ⟨v, rfl, hv, hb'⟩
                go_wp2_with fail
                exact ⟨updV xv 6 v, by simp [updV, e3, e4, e5], JS.out _ _ hb' hb, hG.any gk.out g6.out v trivial, hF2.on st2.out hb' (by decide) _, Fe.new (hv)⟩
              · refine wpOp_step rfl (fun K' hK => ?_)
                simp [Region.binds] at hd
                have l2 : listed.getD 2 false = true := by simp [hd]
                have m2 := hF2 l2
                have l6 : listed.getD 6 false = true := by simp [hd]
                have m6 := hF6 l6
                clear hd hin hD
                go_simp
                refine (C3.out W _ _ hb m2 m6).mono ?_
                rintro e w' ⟨v, rfl, hv, hb'⟩
                go_wp2_with fail
                exact ⟨updV xv 7 v, by simp [updV], JS.out _ _ hb' hb, hG.any gk.out g7.out v hv, hF2.on st2.out hb' (by decide) _, hF6.on st6.out hb' (by decide) _⟩
              · refine wpOp_step rfl (fun K' hK => ?_)
                simp [Region.binds] at hd
                have e7 : xv 7 = .int .i64 1 := hG.get g7.out (by simp [hd])
                clear hd hin hD
                go_simp
                exact hK _ _ ⟨updV xv 8 (.bool false), by simp [updV, e7], hb, hG.any gk.out g8.out _ rfl, hF2.step (fun _ h => h) (by decide) _, hF6.step (fun _ h => h) (by decide) _⟩
            · rintro listed ac W ⟨xv, rfl, hb, hG, hF2, hF6⟩ hall
              have e8 : xv 8 = .bool false := hG.get g8.out (hall 8 (by decide))
              have XW : Hid ((fun W => Below wr.heap.size wr W) W) := hb
              clear hall hG hb gk JS g0 g1 g2 g3 g4 g5 g6 g7 g8 hF2 st2 hF6 st6
              rw [e8]
              clear e8
              have BB2 : Hid (Below w3.heap.size w3 W) := below_on BB.out XW.out
              clear BX C1 C2 C3 XW BB ck
              go_wp2
              go_roundw
              case rel => exact ⟨i + 1, by omega, by go_num, BB2⟩
              case measure => simp [intOf]; omega
          · have BW : Hid (Below w.heap.size w wr) := below_on B3.out BB.out
            go_wp2
            go_ret
            exact ⟨rfl, BW.out⟩
    · have CN : Hid (∀ W, Calls Try.prog 12 #[.agg #[.int .i64 N, .int .i64 B, .int .i64 Q, .int .i64 E, .int .i64 F], .int .u64 S] W fun e w' => e = .returned (.tuple #[.pointer none, .int .i64 1]) ∧ Below W.heap.size W w') := fun W => inew_no N B Q E F S W hM
      have CX : Hid (∀ W, Calls Try.prog 13 #[.agg #[.int .i64 N, .int .i64 B, .int .i64 Q, .int .i64 E, .int .i64 F]] W fun e w' => e = .returned (.bool false) ∧ Below W.heap.size W w') := fun W => rmay_no _ _ _ _ _ W hM
      clear hM
      by_cases hF : F > 200
      · by_cases hF2 : F ≤ 4096
        · go_wp2
          go_ret
          exact ⟨rfl, B1.out⟩
        · go_wp2_with fail
          refine (CN.out _).mono ?_
          rintro e w2 ⟨rfl, hb⟩
          have B2 : Hid (Below w.heap.size w w2) := below_on B1.out hb
          have P2 : Hid (Five w2 w.heap.size N B Q E F) := P1.out.below hb
          clear hb CN c0 c1 c2 c3 c4 P1 B1
          obtain ⟨c0, c1, c2, c3, c4⟩ := P2.out
          go_wp2_with fail
          refine (CX.out _).mono ?_
          rintro e w3 ⟨rfl, hb⟩
          have B3 : Hid (Below w.heap.size w w3) := below_on B2.out hb
          clear hb CX c0 c1 c2 c3 c4 P2 B2
          go_wp2
          go_ret
          exact ⟨rfl, B3.out⟩
      · go_wp2_with fail
        refine (CN.out _).mono ?_
        rintro e w2 ⟨rfl, hb⟩
        have B2 : Hid (Below w.heap.size w w2) := below_on B1.out hb
        have P2 : Hid (Five w2 w.heap.size N B Q E F) := P1.out.below hb
        clear hb CN c0 c1 c2 c3 c4 P1 B1
        obtain ⟨c0, c1, c2, c3, c4⟩ := P2.out
        go_wp2_with fail
        refine (CX.out _).mono ?_
        rintro e w3 ⟨rfl, hb⟩
        have B3 : Hid (Below w.heap.size w w3) := below_on B2.out hb
        clear hb CX c0 c1 c2 c3 c4 P2 B2
        go_wp2
        go_ret
        exact ⟨rfl, B3.out⟩

theorem innerDraws_law (N B Q E F : Int) (S : Int) (iv : Value) (l : List Int) (w : World) (h : Ok .i64 N ∧ Ok .i64 B ∧ Ok .i64 Q ∧ Ok .i64 E ∧ Ok .i64 F) (hS : (Lit.int .u64 S).wf = true) (h0 : Sl 1 w iv l.length (l.map (Value.int .u64))) (k0 : ∀ z ∈ l, (Lit.int .u64 z).wf = true) :
    Calls Try.prog 3 #[.agg #[.int .i64 N, .int .i64 B, .int .i64 Q, .int .i64 E, .int .i64 F], .int .u64 S, iv] w fun e w' => e = .returned (.bool true) ∧ Below w.heap.size w w' := by
  simp [Lit.wf, IntKind.min, IntKind.max, IntKind.bits, IntKind.signed] at hS
  obtain ⟨s, rfl⟩ : ∃ s : Nat, S = s := ⟨S.toNat, by omega⟩
  obtain ⟨ids, hs⟩ := us_of h0 k0
  exact innerDraws_walk N B Q E F s iv ids w (by omega) hs

end Go.Proofs.Ytbnedpjfgadkkaa
