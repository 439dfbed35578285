/-
  EmitBlocks.
-/
import Derived.Test.YtehpbnakdadedaaEmS
import Derived.Test.YtehpbnakdadedaaLCase
import Derived.RegionTactic
namespace Go.Proofs.Ytehpbnakdadedaa
open Go.RowKit
set_option linter.unusedVariables false

/-- A case in a box. -/
def CaseC (W : World) (b : Nat) (N B Q E F S : Int) (ov iv : Value) : Prop := W.cell? ⟨b, 0, none⟩ = some (.int .i64 N) ∧ W.cell? ⟨b, 1, none⟩ = some (.int .i64 B) ∧ W.cell? ⟨b, 2, none⟩ = some (.int .i64 Q) ∧ W.cell? ⟨b, 3, none⟩ = some (.int .i64 E) ∧ W.cell? ⟨b, 4, none⟩ = some (.int .i64 F) ∧ W.cell? ⟨b, 5, none⟩ = some (.int .u64 S) ∧ W.cell? ⟨b, 6, none⟩ = some ov ∧ W.cell? ⟨b, 7, none⟩ = some iv
theorem CaseC.below {W W' : World} {b : Nat} {N B Q E F S : Int} {ov iv : Value} (h : CaseC W b N B Q E F S ov iv) (hb : Below W.heap.size W W') : CaseC W' b N B Q E F S ov iv := by
  obtain ⟨h0, h1, h2, h3, h4, h5, h6, h7⟩ := h
  exact ⟨(hb.cell (cell_block_lt h0)).trans h0, (hb.cell (cell_block_lt h1)).trans h1, (hb.cell (cell_block_lt h2)).trans h2, (hb.cell (cell_block_lt h3)).trans h3, (hb.cell (cell_block_lt h4)).trans h4, (hb.cell (cell_block_lt h5)).trans h5, (hb.cell (cell_block_lt h6)).trans h6, (hb.cell (cell_block_lt h7)).trans h7⟩
theorem case_new (w : World) (t : TypeId) (N B Q E F S : Int) (ov iv : Value) : CaseC (w.alloc (.cells #[.int .i64 N, .int .i64 B, .int .i64 Q, .int .i64 E, .int .i64 F, .int .u64 S, ov, iv] t)) w.heap.size N B Q E F S ov iv := by
  refine ⟨?_, ?_, ?_, ?_, ?_, ?_, ?_, ?_⟩ <;> simp
theorem pr_natE {N B Q E F : Int} (h : May N B Q E F) : ∃ n b q e f A : Nat, N = (n : Int) ∧ B = (b : Int) ∧ Q = (q : Int) ∧ E = (e : Int) ∧ F = (f : Int) ∧ PrOk (n : Int) (b : Int) (q : Int) (e : Int) (f : Int) n q A ∧ MayD f e := by
  obtain ⟨n, b, q, A, h1, h2, h3, hp⟩ := pr_nat h
  obtain ⟨e, f, rfl, rfl, hd⟩ := may_nat h
  exact ⟨n, b, q, e, f, A, h1, h2, h3, rfl, rfl, hp, hd⟩

set_option maxRecDepth 100000 in
set_option maxHeartbeats 4000000 in
theorem emitBlocks_walk (N B Q E F : Int) (S : Nat) (ov : Value) (l : List UInt8) (iv : Value) (i : Int) (w : World) (hS : S < 18446744073709551616) (ho : Bs w ov l) :
    Calls Try.prog 8 #[.agg #[.int .i64 N, .int .i64 B, .int .i64 Q, .int .i64 E, .int .i64 F, .int .u64 (S : Int), ov, iv], .int .i64 i] w fun e w' => e = .returned (.bool true) ∧ Below w.heap.size w w' := by
  have HO : Hid (Bs w ov l) := ho
  have HS : Hid (S < 18446744073709551616) := hS
  obtain ⟨-, ao, cap, rfl, h2, h3, -, -⟩ := ho
  unfold maxLen at h3
  obtain ⟨n, hn⟩ : ∃ n, l.length = n := ⟨_, rfl⟩
  rw [hn] at h2 HO ⊢
  have HL : Hid (l.length = n) := hn
  clear hn hS
  go_enter Try.func8, Try.ntmps8
  go_wp2_with fail
  refine (speaks14_any _).mono ?_
  rintro e w1 ⟨rfl, hb⟩
  have B1 : Hid (Below w.heap.size w w1) := on_below (below_alloc _ _) hb
  have F1 : Hid (CaseC w1 w.heap.size N B Q E F S (.slice ao n cap) iv) := (case_new w _ N B Q E F S _ _).below hb
  clear hb
  obtain ⟨c0, c1, c2, c3, c4, c5, c6, c7⟩ := F1.out
  have hsz : w.heap.size < w1.heap.size := cell_block_lt c0
  go_wp2_with fail
  go_region
  have B2 : Hid (Below w.heap.size w (w1.alloc (.cells #[.int .i64 N, .int .i64 B, .int .i64 Q, .int .i64 E, .int .i64 F] 23)).drew) := on_below (on_below B1.out (below_alloc _ _)) (below0 _)
  have P2 : Hid (Five (w1.alloc (.cells #[.int .i64 N, .int .i64 B, .int .i64 Q, .int .i64 E, .int .i64 F] 23)).drew w1.heap.size N B Q E F) := (five_new w1 _ N B Q E F).below (below0 _)
  obtain ⟨w2, hw2⟩ : ∃ W, (w1.alloc (.cells #[.int .i64 N, .int .i64 B, .int .i64 Q, .int .i64 E, .int .i64 F] 23)).drew = W := ⟨_, rfl⟩
  rw [hw2] at B2 P2 ⊢
  clear hw2 B1 F1 c0 c1 c2 c3 c4 c5 c6 c7 hsz
  generalize w1.heap.size = b0 at *
  obtain ⟨c0, c1, c2, c3, c4⟩ := P2.out
  go_wp2_with fail
  refine (small14_any N B Q E F _ l n w2 (HO.out.below B2.out) HL.out).mono ?_
  rintro e w3 ⟨⟨b, rfl, hb⟩, hx⟩
  have B3 : Hid (Below w.heap.size w w3) := on_below B2.out hx
  have P3 : Hid (Five w3 b0 N B Q E F) := P2.out.below hx
  clear hx B2 P2 c0 c1 c2 c3 c4
  cases b with
  | false =>
    clear hb
    go_wp2
    go_ret
    exact ⟨rfl, B3.out⟩
  | true =>
    obtain ⟨hm, h60, hb60, hf, hl⟩ := hb.1 rfl
    clear hb
    obtain ⟨N, B, Q, E, F, A, rfl, rfl, rfl, rfl, rfl, hpr, hmd⟩ := pr_natE hm
    have hN60 : N ≤ 60 := by omega
    have hB60 : B ≤ 60 := by omega
    have hB1 : 1 ≤ B := by have := hm.2.1; omega
    have hA6 : A ≤ 1000000 := may_small hpr (by omega)
    have hl' : n ≤ N * B := by exact_mod_cast hl
    have CN : Hid (Calls Try.prog 27 #[.agg #[.int .i64 (N : Int), .int .i64 (B : Int), .int .i64 (Q : Int), .int .i64 (E : Int), .int .i64 (F : Int)], .int .u64 (S : Int), .slice ao n cap] w3 fun e w' => ∃ p, e = .returned (.tuple #[.pointer (some ⟨p, 0, none⟩), .int .i64 0]) ∧ Enc w3.heap.size w' p S N B Q E F n (N + A) (compD N B (hasR S A Q N) l) ∧ Below w3.heap.size w3 w') := enew_yes N B Q A S E F n _ l w3 hpr HS.out (HO.out.below B3.out) HL.out hl'
    have CR : Hid (∀ W, Below w3.heap.size w3 W → Calls Try.prog 17 #[.agg #[.int .i64 (N : Int), .int .i64 (B : Int), .int .i64 (Q : Int), .int .i64 (E : Int), .int .i64 (F : Int)], .int .u64 (S : Int), .slice ao n cap] W fun e w' => ∃ a c vs, e = .returned (.slice a (N + A) c) ∧ w'.ownsRow W.heap.size 25 1 (.slice a (N + A) c) (N + A) vs ∧ RowsB W.heap.size w' vs (compD N B (hasR S A Q N) l) ∧ Below W.heap.size W w') := fun W hW => rcblocks_own N B Q A S E F _ l W hpr HS.out (by omega) (by omega) hA6 (HO.out.below (on_below B3.out hW))
    have DL : Hid ((compD N B (hasR S A Q N) l).length = N + A) := by unfold Hid; rw [compD_length, hasR_length]
    have DM : Hid (∀ x ∈ compD N B (hasR S A Q N) l, x.length = B) := compD_mem (hasR_rw S A Q N)
    obtain ⟨D, hD⟩ : ∃ D, compD N B (hasR S A Q N) l = D := ⟨_, rfl⟩
    rw [hD] at CN CR DL DM
    clear hD hm h60 hb60 hf hl hpr hmd hl'
    obtain ⟨c0, c1, c2, c3, c4⟩ := P3.out
    go_wp2_with fail
    refine CN.out.mono ?_
    rintro e w4 ⟨p, rfl, he, hb4⟩
    have B4 : Hid (Below w.heap.size w w4) := on_below B3.out hb4
    have X4 : Hid (Below w3.heap.size w3 w4) := hb4
    have P4 : Hid (Five w4 b0 N B Q E F) := P3.out.below hb4
    have E4 : Hid (Enc w3.heap.size w4 p S N B Q E F n (N + A) D) := he
    clear he hb4 CN B3 P3 c0 c1 c2 c3 c4
    obtain ⟨c0, c1, c2, c3, c4⟩ := P4.out
    go_wp2_with fail
    refine (CR.out w4 X4.out).mono ?_
    rintro e w5 ⟨a5, k5, vs, rfl, ho5, hr5, hb5⟩
    have B5 : Hid (Below w.heap.size w w5) := on_below B4.out hb5
    have E5 : Hid (Enc w3.heap.size w5 p S N B Q E F n (N + A) D) := E4.out.below hb5
    have S5 : Hid (Sl 1 w5 (.slice a5 (N + A) k5) (N + A) vs ∧ Parts w5 vs D) := ⟨owned_sl ho5, hr5.parts⟩
    clear ho5 hr5 hb5 CR X4 E4 P4 B4 c0 c1 c2 c3 c4
    go_wp2
    go_loopw [45] (fun jv wr => ∃ j : Nat, j ≤ N + A ∧ jv = .int .i64 j ∧ Hid (Below w5.heap.size w5 wr)) (fun jv _ => N + A - (intOf jv).toNat)
    case atStart => exact ⟨0, by omega, rfl, Below.refl _ _⟩
    case round =>
      obtain ⟨j, hj, rfl, BB⟩ := hrel
      by_cases hlt : j < N + A
      · have hltI : (j : Int) < (N : Int) + (A : Int) := by omega
        have hjD : j < D.length := by rw [DL.out]; exact hlt
        obtain ⟨x, hx⟩ : ∃ x, D[j]? = some x := ⟨_, List.getElem?_eq_getElem hjD⟩
        have hxB : x.length = B := DM.out x (List.mem_of_getElem? hx)
        obtain ⟨y, ys, hy⟩ : ∃ y ys, x = y :: ys := by
          match x, hxB with
          | [], h => simp at h; omega
          | y :: ys, _ => exact ⟨y, ys, rfl⟩
        obtain ⟨bb, o, rfl, u, hu, ck⟩ := (S5.out.1.below BB.out).at_addr hlt
        have hbs := (S5.out.2.below BB.out).2 j u x hu hx
        obtain ⟨qb, db, rfl⟩ : ∃ q d, u = .slice q B d := by obtain ⟨-, q, d, h, -⟩ := hbs; exact ⟨q, d, by rw [h, hxB]⟩
        have HB : Hid (Bs wr (.slice qb B db) x) := hbs
        have CC : Hid (∀ W, Below wr.heap.size wr W → Calls Try.prog 28 #[.pointer (some ⟨p, 0, none⟩), .int .i64 j] W fun e w' => ∃ q, e = .returned (.slice (some ⟨q, 0, none⟩) B B) ∧ W.heap.size ≤ q ∧ Blk w' q [] x [] ∧ Below W.heap.size W w') := fun W hW => ecomp_yes _ p S N B Q E F n (N + A) j D x W (E5.out.below (on_below BB.out hW)) (by omega) hx hxB
        have HXB : Hid (x.length = B) := hxB
        have HY : Hid (x = y :: ys) := hy
        clear hx hxB hy hu hbs hjD
        go_wp2_with fail
        refine (CC.out wr (Below.refl _ _)).mono ?_
        rintro e w6 ⟨q6, rfl, hq6, hk6, hb6⟩
        have B6 : Hid (Below wr.heap.size wr w6) := hb6
        have K6 : Hid (Blk w6 q6 [] x []) := hk6
        have Q6 : Hid (wr.heap.size ≤ q6) := hq6
        have kr1 : (convert 25 9 (.slice (some ⟨q6, 0, none⟩) B B)).run Try.prog w6 = .ok (.string (str x)) w6 := conv_bytes (K6.out.bs0 B B HXB.out.symm (Nat.le_refl _) (by unfold maxLen; omega))
        have kr2 : (convert 25 9 (.slice qb B db)).run Try.prog w6 = .ok (.string (str x)) w6 := conv_bytes (HB.out.below B6.out)
        have cq : w6.cell? ⟨q6, 0, none⟩ = some (.int .u8 (y.toNat : Int)) := by
          have := K6.out.cell 0 (.int .u8 (y.toNat : Int)) (by rw [HY.out]; rfl)
          simpa using this
        have fq : w6.frozen? ⟨q6, 0, none⟩ = false := K6.out.frozen 0
        have hB0 : ¬ B ≤ 0 := by omega
        clear hb6 hk6 hq6
        go_upto_region 17 with fail
        have B7 : Hid (Below wr.heap.size wr (w6.setCell ⟨q6, 0, none⟩ (.int .u8 (((y.toNat : Int) + 1) % 256)))) := B6.out.grown (grown_setCell w6 q6 0 _) B6.out.size (fun k hk => by injection hk with hk; have := Q6.out; omega)
        obtain ⟨w7, hw7⟩ : ∃ w7, w6.setCell ⟨q6, 0, none⟩ (.int .u8 (((y.toNat : Int) + 1) % 256)) = w7 := ⟨_, rfl⟩
        rw [hw7] at B7 ⊢
        clear hw7 kr1 kr2 cq fq K6 B6
        have C7 : Hid (∀ W, Below w7.heap.size w7 W → Calls Try.prog 28 #[.pointer (some ⟨p, 0, none⟩), .int .i64 j] W fun e w' => ∃ v, e = .returned v ∧ IsBs x v w' ∧ Below W.heap.size W w') := by
          intro W hW
          refine (CC.out W (on_below B7.out hW)).mono ?_
          rintro e w' ⟨q, rfl, -, h1, h2⟩
          exact ⟨_, rfl, h1.bs0 B B HXB.out.symm (Nat.le_refl _) (by unfold maxLen; omega), h2⟩
        have K7 : Hid (∀ W, Below w7.heap.size w7 W → (convert 25 9 (.slice qb B db)).run Try.prog W = .ok (.string (str x)) W) := fun W hW => conv_bytes (HB.out.below (on_below B7.out hW))
        refine wp_region_any (by kernel_rfl) ?_
        obtain ⟨gs, hgs⟩ : ∃ gs : List (Value → World → Prop), gs = [IsV (Value.pointer (some { block := p, off := 0 })), IsV (Value.int IntKind.i64 ↑j), IsBs x, IsV (.string (str x)), IsV (Value.slice qb B db), IsV (.string (str x)), IsV (.bool false)] := ⟨_, rfl⟩
        have g0 : Hid (gs[0]? = some (IsV (Value.pointer (some { block := p, off := 0 })))) := by unfold Hid; rw [hgs]; rfl
        have g1 : Hid (gs[1]? = some (IsV (Value.int IntKind.i64 ↑j))) := by unfold Hid; rw [hgs]; rfl
        have g2 : Hid (gs[2]? = some (IsBs x)) := by unfold Hid; rw [hgs]; rfl
        have g3 : Hid (gs[3]? = some (IsV (.string (str x)))) := by unfold Hid; rw [hgs]; rfl
        have g4 : Hid (gs[4]? = some (IsV (Value.slice qb B db))) := by unfold Hid; rw [hgs]; rfl
        have g5 : Hid (gs[5]? = some (IsV (.string (str x)))) := by unfold Hid; rw [hgs]; rfl
        have g6 : Hid (gs[6]? = some (IsV (.bool false))) := by unfold Hid; rw [hgs]; rfl
        have gk : Hid (∀ p ∈ gs, Stays p) := by
          unfold Hid
          rw [hgs]
          simp only [List.forall_mem_cons]
          exact ⟨stays_v _, stays_v _, stays_bs _, stays_v _, stays_v _, stays_v _, stays_v _, by simp⟩
        clear hgs
        refine wpAny_inv (fun listed ac W => ∃ xv : Nat → Value, ac = ⟨#[Value.agg #[Value.int IntKind.i64 ↑N, Value.int IntKind.i64 ↑B, Value.int IntKind.i64 ↑Q, Value.int IntKind.i64 ↑E, Value.int IntKind.i64 ↑F, Value.int IntKind.u64 ↑S, Value.slice ao n cap, iv], Value.int IntKind.i64 i, Value.pointer (some { block := w.heap.size, off := 0 }), undef, u4, Value.pointer (some { block := b0, off := 0 }), Value.int IntKind.u64 ↑S, Value.slice ao n cap, Value.pointer (some { block := p, off := 0 }), Value.int IntKind.i64 (0 : Int), Value.slice (some { block := bb, off := o }) (N + A) k5, Value.int IntKind.i64 ↑j, Value.slice qb B db, Value.slice (some { block := q6, off := 0 }) B B, Value.bool true, Value.bool false, Value.pointer (some { block := w.heap.size, off := 0 }), Value.agg #[Value.int IntKind.i64 ↑N, Value.int IntKind.i64 ↑B, Value.int IntKind.i64 ↑Q, Value.int IntKind.i64 ↑E, Value.int IntKind.i64 ↑F], Value.pointer (some { block := w.heap.size, off := 5 }), Value.int IntKind.u64 ↑S, Value.pointer (some { block := w.heap.size, off := 6 }), Value.slice ao n cap, Value.agg #[Value.int IntKind.i64 ↑N, Value.int IntKind.i64 ↑B, Value.int IntKind.i64 ↑Q, Value.int IntKind.i64 ↑E, Value.int IntKind.i64 ↑F], Value.slice ao n cap, Value.bool true, Value.bool false, Value.tuple #[Value.pointer (some { block := p, off := 0 }), Value.int IntKind.i64 (0 : Int)], Value.agg #[Value.int IntKind.i64 ↑N, Value.int IntKind.i64 ↑B, Value.int IntKind.i64 ↑Q, Value.int IntKind.i64 ↑E, Value.int IntKind.i64 ↑F], Value.int IntKind.u64 ↑S, Value.slice ao n cap, Value.tuple #[Value.pointer (some { block := p, off := 0 }), Value.int IntKind.i64 (0 : Int)], Value.pointer (some { block := p, off := 0 }), Value.int IntKind.i64 (0 : Int), Value.int IntKind.i64 (0 : Int), Value.bool false, Value.bool false, Value.pointer (some { block := p, off := 0 }), Value.bool false, Value.bool false, Value.agg #[Value.int IntKind.i64 ↑N, Value.int IntKind.i64 ↑B, Value.int IntKind.i64 ↑Q, Value.int IntKind.i64 ↑E, Value.int IntKind.i64 ↑F], Value.int IntKind.u64 ↑S, Value.slice ao n cap, Value.slice (some { block := bb, off := o }) (N + A) k5, Value.slice (some { block := bb, off := o }) (N + A) k5, Value.int IntKind.i64 (↑N + ↑A), Value.int IntKind.i64 ↑j, Value.bool true, Value.int IntKind.i64 ↑j, Value.pointer (some { block := bb, off := o + j }), Value.slice qb B db, Value.pointer (some { block := p, off := 0 }), Value.int IntKind.i64 ↑j, Value.slice (some { block := q6, off := 0 }) B B, Value.slice (some { block := q6, off := 0 }) B B, Value.string (str x), Value.slice qb B db, Value.string (str x), Value.bool false, Value.slice (some { block := q6, off := 0 }) B B, Value.pointer (some { block := q6, off := 0 }), Value.int IntKind.u8 ↑y.toNat, Value.int IntKind.u8 ((↑y.toNat + (1 : Int)) % (256 : Int)), Value.pointer (some { block := q6, off := 0 }), xv 0, xv 1, xv 2, xv 3, xv 4, xv 5, xv 6, u70, undef, undef, undef, undef, undef, undef, undef, undef, undef, undef, undef, undef, undef, undef, undef], []⟩ ∧ Below w7.heap.size w7 W ∧ Lst gs listed xv W) (by kernel_rfl) ?_ ?_ _ _ _ _ (by kernel_rfl) (of_decide_eq_true (by kernel_rfl)) ⟨fun j => if j = 0 then u63 else if j = 1 then u64 else if j = 2 then u65 else if j = 3 then u66 else if j = 4 then u67 else if j = 5 then u68 else if j = 6 then u69 else undef, rfl, below0 _, Lst.start _ _ _ _⟩
        · rintro listed ac W ⟨xv, rfl, hb, hG⟩ i hi hd
          have hin : i < 7 := hi
          clear hi
          have hcase : i = 0 ∨ i = 1 ∨ i = 2 ∨ i = 3 ∨ i = 4 ∨ i = 5 ∨ i = 6 := by omega
          rcases hcase with rfl | rfl | rfl | rfl | rfl | rfl | rfl
          · refine wpOp_step rfl (fun K' hK => ?_)
            clear hd hin
            go_simp
            exact hK _ _ ⟨updV xv 0 (Value.pointer (some { block := p, off := 0 })), by simp [updV], hb, hG.same gk.out g0.out _ rfl⟩
          · refine wpOp_step rfl (fun K' hK => ?_)
            clear hd hin
            go_simp
            exact hK _ _ ⟨updV xv 1 (Value.int IntKind.i64 ↑j), by simp [updV], hb, hG.same gk.out g1.out _ rfl⟩
          · refine wpOp_step rfl (fun K' hK => ?_)
            simp [Region.binds] at hd
            have e0 : xv 0 = Value.pointer (some { block := p, off := 0 }) := hG.get g0.out (by simp [hd])
            have e1 : xv 1 = Value.int IntKind.i64 ↑j := hG.get g1.out (by simp [hd])
            clear hd hin
            go_simp
            refine (C7.out W hb).mono ?_
            rintro e w' ⟨v, rfl, hv, hb'⟩
            go_wp2_with fail
            exact ⟨updV xv 2 v, by simp [updV, e0, e1], hb.trans (hb'.mono hb.size), hG.step gk.out hb' g2.out v hv⟩
          · refine wpOp_step rfl (fun K' hK => ?_)
            simp [Region.binds] at hd
            have m2 : IsBs x (xv 2) W := hG.get g2.out (by simp [hd])
            have kr := conv_bytes m2
            clear hd hin
            go_simp
            exact hK _ _ ⟨updV xv 3 (.string (str x)), by simp [updV], hb, hG.same gk.out g3.out _ rfl⟩
          · refine wpOp_step rfl (fun K' hK => ?_)
            clear hd hin
            go_simp
            exact hK _ _ ⟨updV xv 4 (Value.slice qb B db), by simp [updV], hb, hG.same gk.out g4.out _ rfl⟩
          · refine wpOp_step rfl (fun K' hK => ?_)
            simp [Region.binds] at hd
            have e4 : xv 4 = Value.slice qb B db := hG.get g4.out (by simp [hd])
            have kr := K7.out W hb
            clear hd hin
            go_simp
            exact hK _ _ ⟨updV xv 5 (.string (str x)), by simp [updV, e4], hb, hG.same gk.out g5.out _ rfl⟩
          · refine wpOp_step rfl (fun K' hK => ?_)
            simp [Region.binds] at hd
            have e3 : xv 3 = .string (str x) := hG.get g3.out (by simp [hd])
            have e5 : xv 5 = .string (str x) := hG.get g5.out (by simp [hd])
            clear hd hin
            go_simp
            exact hK _ _ ⟨updV xv 6 (.bool false), by simp [updV, e3, e5], hb, hG.same gk.out g6.out _ rfl⟩
        · rintro listed ac W ⟨xv, rfl, hb, hG⟩ hall
          have e6 : xv 6 = .bool false := hG.get g6.out (hall 6 (by decide))
          have XW : Hid (Below w7.heap.size w7 W) := hb
          clear hall hG hb gk g0 g1 g2 g3 g4 g5 g6
          rw [e6]
          clear e6
          have B8 : Hid (Below w5.heap.size w5 W) := on_below BB.out (on_below B7.out XW.out)
          clear C7 K7 B7 BB CC HB XW Q6 HY HXB
          go_wp2
          go_roundw
          case rel => exact ⟨j + 1, by omega, by go_num, B8⟩
          case measure => simp [intOf]; omega
      · obtain rfl : j = N + A := by omega
        have BE : Hid (Below w.heap.size w wr) := on_below B5.out BB.out
        have EE : Hid (Enc w3.heap.size wr p S N B Q E F n (N + A) D) := E5.out.below BB.out
        clear BB
        by_cases hi0 : i < 0
        · have hi0' : ¬ i ≥ 0 := by omega
          go_wp2_with fail
          refine (ecomp_no _ p S N B Q E F n (N + A) i D wr EE.out (by omega) (.inl hi0)).mono ?_
          rintro e w6 ⟨rfl, hb⟩
          have B6 : Hid (Below w.heap.size w w6) := on_below BE.out hb
          clear hb BE EE
          go_wp2
          go_ret
          exact ⟨rfl, B6.out⟩
        have hi0' : i ≥ 0 := by omega
        by_cases hi1 : i < (N : Int) + (A : Int)
        · go_wp2
          go_ret
          exact ⟨rfl, BE.out⟩
        · go_wp2_with fail
          refine (ecomp_no _ p S N B Q E F n (N + A) i D wr EE.out (by omega) (.inr (by rw [DL.out]; omega))).mono ?_
          rintro e w6 ⟨rfl, hb⟩
          have B6 : Hid (Below w.heap.size w w6) := on_below BE.out hb
          clear hb BE EE
          go_wp2
          go_ret
          exact ⟨rfl, B6.out⟩

theorem emitBlocks_law (N B Q E F S : Int) (ov : Value) (l : List UInt8) (iv : Value) (il : List Int) (i : Int) (w : World) (h : (Lit.int .u64 S).wf = true ∧ Bs w ov l ∧ Sl 1 w iv il.length (il.map (Value.int .u64)) ∧ ∀ z ∈ il, (Lit.int .u64 z).wf = true) (hi : (Lit.int .i64 i).wf = true) :
    Calls Try.prog 8 #[.agg #[.int .i64 N, .int .i64 B, .int .i64 Q, .int .i64 E, .int .i64 F, .int .u64 S, ov, iv], .int .i64 i] w fun e w' => e = .returned (.bool true) ∧ Below w.heap.size w w' := by
  obtain ⟨hS, ho, -, -⟩ := h
  simp [Lit.wf, IntKind.min, IntKind.max, IntKind.bits, IntKind.signed] at hS
  obtain ⟨s, rfl⟩ : ∃ s : Nat, S = s := ⟨S.toNat, by omega⟩
  exact emitBlocks_walk N B Q E F s ov l iv i w (by omega) ho

end Go.Proofs.Ytehpbnakdadedaa
