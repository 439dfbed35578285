/-
  WholeSeeds.
-/
import Derived.Test.YtecohgmllmddhaaDegF
import Derived.Test.YtecohgmllmddhaaRBelow
import Derived.Test.YtecohgmllmddhaaLOrd
namespace Go.Proofs.Ytecohgmllmddhaa
open Go.RowKit
set_option linter.unusedVariables false

theorem Five.kept {W W' : World} {b : Nat} {N B Q E F : Int} (h : Five W b N B Q E F) (hk : W'.heap[b]? = W.heap[b]?) : Five W' b N B Q E F := by
  obtain ⟨h0, h1, h2, h3, h4⟩ := h
  exact ⟨(World.cell?_of_block (a := ⟨b, 0, none⟩) hk).trans h0, (World.cell?_of_block (a := ⟨b, 1, none⟩) hk).trans h1, (World.cell?_of_block (a := ⟨b, 2, none⟩) hk).trans h2, (World.cell?_of_block (a := ⟨b, 3, none⟩) hk).trans h3, (World.cell?_of_block (a := ⟨b, 4, none⟩) hk).trans h4⟩
theorem Five.keeps {W W' : World} {b : Nat} {N B Q E F : Int} {S : Nat → Prop} (h : Five W b N B Q E F) (hb : KeepsBut S W W') (hS : ¬ S b) : Five W' b N B Q E F := h.kept (hb.block b (cell_block_lt h.1) hS)

/-- Two that draw alike, a table, the Params. -/
structure SeedI (w : World) (b0 a r q F E s : Nat) (N B Q : Int) (W : World) : Prop where
  hr : IsRand W r s
  hq : IsRand W q s
  hd : IsDT W a F E
  hp : Five W b0 N B Q E F
  hb : Below w.heap.size w W

/-- Where they lie. -/
structure SeedN (w : World) (b0 a r q : Nat) : Prop where
  n0 : w.heap.size ≤ b0
  n1 : b0 < a
  n2 : a < r
  n3 : r < q

set_option maxRecDepth 100000 in
set_option maxHeartbeats 2000000 in
theorem wholeSeeds_no (N B Q E F : Int) (v1 : Value) (l : List Nat) (M : Nat) (w : World) (h1 : Us w v1 l) (h : ¬ May N B Q E F) :
    Calls Try.prog 13 #[.agg #[.int .i64 N, .int .i64 B, .int .i64 Q, .int .i64 E, .int .i64 F], v1, .int .u8 (M : Nat)] w fun e w' => e = .returned (.bool true) ∧ Below w.heap.size w w' := by
  have H : Hid (¬ May N B Q E F) := h
  clear h h1
  go_enter Try.func13, Try.ntmps13
  go_wp2_with fail
  refine (rnew_any _ [] _ (us_none _)).mono ?_
  rintro e w1 ⟨rfl, hr1, hb1, hz1⟩
  have R1 : Hid (IsRand w1 (w.alloc (.cells #[.int .i64 N, .int .i64 B, .int .i64 Q, .int .i64 E, .int .i64 F] 24)).heap.size 0) := hr1
  have B1 : Hid (Below w.heap.size w w1) := below_mid (below_alloc _ _) hb1
  have F1 : Hid (Five w1 w.heap.size N B Q E F) := (five_new w _ N B Q E F).below hb1
  have Z1 : Hid (w.heap.size < (w.alloc (.cells #[.int .i64 N, .int .i64 B, .int .i64 Q, .int .i64 E, .int .i64 F] 24)).heap.size) := by unfold Hid; simp
  obtain ⟨r0, hr0⟩ : ∃ r, (w.alloc (.cells #[.int .i64 N, .int .i64 B, .int .i64 Q, .int .i64 E, .int .i64 F] 24)).heap.size = r := ⟨_, rfl⟩
  rw [hr0] at R1 Z1 ⊢
  clear hr1 hb1 hz1 hr0
  go_wp2_with fail
  refine (rnd_next _ 0 _ R1.out).mono ?_
  rintro e w2 ⟨rfl, -, hk2, hz2⟩
  rw [mix_first]
  have B2 : Hid (Below w.heap.size w w2) := B1.out.trans (hk2.below B1.out.size (fun k hk => by have := Z1.out; omega))
  have F2 : Hid (Five w2 w.heap.size N B Q E F) := F1.out.keeps hk2 (by have := Z1.out; omega)
  clear hk2 hz2 R1 Z1 B1 F1
  obtain ⟨c0, c1, c2, c3, c4⟩ := F2.out
  go_wp2_with fail
  refine (rmay_no N B Q E F _ H.out).mono ?_
  rintro e w3 ⟨rfl, hb3⟩
  have B3 : Hid (Below w.heap.size w w3) := below_mid B2.out hb3
  clear hb3 B2 F2 c0 c1 c2 c3 c4
  go_wp2
  go_ret
  exact ⟨rfl, B3.out⟩

set_option maxRecDepth 100000 in
set_option maxHeartbeats 4000000 in
theorem wholeSeeds_yes (N B Q : Int) (E F : Nat) (v1 : Value) (l : List Nat) (M : Nat) (w : World) (h1 : Us w v1 l) (hM : M < 256) (h : May N B Q E F) (hm : MayD F E) :
    Calls Try.prog 13 #[.agg #[.int .i64 N, .int .i64 B, .int .i64 Q, .int .i64 (E : Nat), .int .i64 (F : Nat)], v1, .int .u8 (M : Nat)] w fun e w' => e = .returned (.bool true) ∧ Below w.heap.size w w' := by
  have H : Hid (May N B Q E F) := h
  have HM : Hid (MayD F E) := hm
  have HU : Hid (Us w v1 l) := h1
  obtain ⟨⟨-, a0, c0, rfl, hn0, hc0, -, -⟩, -⟩ := h1
  obtain ⟨n, hn⟩ : ∃ n, l.length = n := ⟨_, rfl⟩
  rw [hn] at hn0 HU ⊢
  clear hn h hm
  unfold maxLen at hc0
  go_enter Try.func13, Try.ntmps13
  go_wp2_with fail
  refine (rnew_any _ [] _ (us_none _)).mono ?_
  rintro e w1 ⟨rfl, hr1, hb1, hz1⟩
  have R1 : Hid (IsRand w1 (w.alloc (.cells #[.int .i64 N, .int .i64 B, .int .i64 Q, .int .i64 (E : Nat), .int .i64 (F : Nat)] 24)).heap.size 0) := hr1
  have B1 : Hid (Below w.heap.size w w1) := below_mid (below_alloc _ _) hb1
  have F1 : Hid (Five w1 w.heap.size N B Q E F) := (five_new w _ N B Q E F).below hb1
  have Z1 : Hid (w.heap.size < (w.alloc (.cells #[.int .i64 N, .int .i64 B, .int .i64 Q, .int .i64 (E : Nat), .int .i64 (F : Nat)] 24)).heap.size) := by unfold Hid; simp
  obtain ⟨r0, hr0⟩ : ∃ r, (w.alloc (.cells #[.int .i64 N, .int .i64 B, .int .i64 Q, .int .i64 (E : Nat), .int .i64 (F : Nat)] 24)).heap.size = r := ⟨_, rfl⟩
  rw [hr0] at R1 Z1 ⊢
  clear hr1 hb1 hz1 hr0
  go_wp2_with fail
  refine (rnd_next _ 0 _ R1.out).mono ?_
  rintro e w2 ⟨rfl, -, hk2, hz2⟩
  rw [mix_first]
  have B2 : Hid (Below w.heap.size w w2) := B1.out.trans (hk2.below B1.out.size (fun k hk => by have := Z1.out; omega))
  have F2 : Hid (Five w2 w.heap.size N B Q E F) := F1.out.keeps hk2 (by have := Z1.out; omega)
  clear hk2 hz2 R1 Z1 B1 F1
  obtain ⟨c0, c1, c2, c3, c4⟩ := F2.out
  go_wp2_with fail
  refine (rmay_yes N B Q E F _ H.out).mono ?_
  rintro e w3 ⟨rfl, hb3⟩
  have B3 : Hid (Below w.heap.size w w3) := below_mid B2.out hb3
  have F3 : Hid (Five w3 w.heap.size N B Q E F) := F2.out.below hb3
  clear hb3 B2 F2 c0 c1 c2 c3 c4
  obtain ⟨c0, c1, c2, c3, c4⟩ := F3.out
  have N3 : Hid (w.heap.size < w3.heap.size) := cell_block_lt F3.out.1
  by_cases hF : F ≤ 200
  · by_cases hn30 : n ≤ 30
    · go_wp2_with fail
      refine (dnew_yes N B Q E F _ H.out).mono ?_
      rintro e w4 ⟨a, ha, rfl, hd4, hb4⟩
      have B4 : Hid (Below w.heap.size w w4) := below_mid B3.out hb4
      have F4 : Hid (Five w4 w.heap.size N B Q E F) := F3.out.below hb4
      have D4 : Hid (IsDT w4 a F E) := hd4
      have N4 : Hid (w.heap.size < a ∧ a < w4.heap.size) := ⟨Nat.lt_of_lt_of_le N3.out ha, cell_block_lt hd4.c0⟩
      clear hb4 hd4 ha B3 F3 c0 c1 c2 c3 c4
      go_wp2_with fail
      refine (rnew_any _ l _ (HU.out.below B4.out)).mono ?_
      rintro e w5 ⟨rfl, hr5, hb5, hz5⟩
      have B5 : Hid (Below w.heap.size w w5) := below_mid B4.out hb5
      have F5 : Hid (Five w5 w.heap.size N B Q E F) := F4.out.below hb5
      have D5 : Hid (IsDT w5 a F E) := D4.out.below hb5
      have R5 : Hid (IsRand w5 w4.heap.size (seedTo 0 l)) := hr5
      have N5 : Hid (w.heap.size < a ∧ a < w4.heap.size ∧ w4.heap.size < w5.heap.size) := ⟨N4.out.1, N4.out.2, by omega⟩
      clear hb5 hr5 hz5 B4 F4 D4 N4
      generalize w4.heap.size = r at *
      go_wp2_with fail
      refine (rnew_any _ l _ (HU.out.below B5.out)).mono ?_
      rintro e w6 ⟨rfl, hr6, hb6, hz6⟩
      have I6 : Hid (SeedI w w.heap.size a r w5.heap.size F E (seedTo 0 l) N B Q w6) := ⟨R5.out.below hb6, hr6, D5.out.below hb6, F5.out.below hb6, below_mid B5.out hb6⟩
      have N6 : Hid (SeedN w w.heap.size a r w5.heap.size) := ⟨Nat.le_refl _, N5.out.1, N5.out.2.1, N5.out.2.2⟩
      clear hb6 hr6 hz6 B5 F5 D5 R5 N5
      generalize w5.heap.size = q at *
      generalize seedTo 0 l = s0 at *
      go_wp2
      go_loopw [49] (fun i wr => ∃ (k s : Nat), k ≤ M ∧ i = .int .u8 k ∧ Hid (SeedI w w.heap.size a r q F E s N B Q wr)) (fun i _ => M - (intOf i).toNat)
      case atStart => exact ⟨0, s0, by omega, rfl, I6⟩
      case round =>
        obtain ⟨k, s, hk, rfl, I⟩ := hrel
        clear I6
        by_cases hlt : k < M
        · have HNr : Hid (∀ W, IsRand W r s → Calls Try.prog 24 #[.pointer (some ⟨r, 0, none⟩)] W fun e w' => e = .returned (.int .u64 (mix (addS s) : Nat)) ∧ IsRand w' r (addS s) ∧ KeepsBut (fun k => k = r) W w' ∧ w'.heap.size = W.heap.size) := fun W h => rnd_next r s W h
          have HNq : Hid (∀ W, IsRand W q s → Calls Try.prog 24 #[.pointer (some ⟨q, 0, none⟩)] W fun e w' => e = .returned (.int .u64 (mix (addS s) : Nat)) ∧ IsRand w' q (addS s) ∧ KeepsBut (fun k => k = q) W w' ∧ w'.heap.size = W.heap.size) := fun W h => rnd_next q s W h
          have hyl : mix (addS s) < 18446744073709551616 := mix_lt
          generalize mix (addS s) = y at *
          generalize addS s = t at *
          obtain ⟨d, hd⟩ := deg_is (F := F) (E := E) y HM.out.f2
          have CO : Hid (∀ W, KeepsBut (fun k => k = r ∨ k = q) wr W → Calls Try.prog 33 #[.pointer (some ⟨a, 0, none⟩), .int .u64 (y : Int)] W fun e w' => ∃ v, e = .returned v ∧ IsV (.int .i64 (d : Int)) v w' ∧ Below W.heap.size W w') := fun W hW => calls_below (dof_at hd a W (I.out.hd.keeps hW (by have := N6.out.n2; have := N6.out.n3; omega)) HM.out hyl)
          have CR : Hid (∀ W, KeepsBut (fun k => k = r ∨ k = q) wr W → Calls Try.prog 34 #[.agg #[.int .i64 N, .int .i64 B, .int .i64 Q, .int .i64 (E : Int), .int .i64 (F : Int)], .int .u64 (y : Int)] W fun e w' => ∃ v, e = .returned v ∧ IsV (.int .i64 (d : Int)) v w' ∧ Below W.heap.size W w') := fun W hW => calls_below (rdof_at hd N B Q W HM.out)
          have BX : Hid (∀ W, KeepsBut (fun k => k = r ∨ k = q) wr W → W.cell? ⟨w.heap.size, 0, none⟩ = some (.int .i64 N) ∧ W.cell? ⟨w.heap.size, 1, none⟩ = some (.int .i64 B) ∧ W.cell? ⟨w.heap.size, 2, none⟩ = some (.int .i64 Q) ∧ W.cell? ⟨w.heap.size, 3, none⟩ = some (.int .i64 (E : Int)) ∧ W.cell? ⟨w.heap.size, 4, none⟩ = some (.int .i64 (F : Int))) := fun W hW => I.out.hp.keeps hW (by have := N6.out.n1; have := N6.out.n2; have := N6.out.n3; omega)
          have C1 : Hid (∀ W, KeepsBut (fun k => k = r ∨ k = q) wr W → IsRand W r s ∧ IsRand W q s → Calls Try.prog 24 #[.pointer (some ⟨r, 0, none⟩)] W fun e w' => ∃ v, e = .returned v ∧ IsV (.int .u64 (y : Int)) v w' ∧ KeepsBut (fun k => k = r ∨ k = q) W w' ∧ (IsRand w' r t ∧ IsRand w' q s)) := by
            intro W hW hR
            refine (HNr.out W hR.1).mono ?_
            rintro e w' ⟨rfl, g1, g2, -⟩
            exact ⟨_, rfl, rfl, g2.mono (fun k h => .inl h), g1, hR.2.keeps g2 (by have := N6.out.n3; omega)⟩
          have C2 : Hid (∀ W, KeepsBut (fun k => k = r ∨ k = q) wr W → IsRand W r t ∧ IsRand W q s → Calls Try.prog 24 #[.pointer (some ⟨q, 0, none⟩)] W fun e w' => ∃ v, e = .returned v ∧ IsV (.int .u64 (y : Int)) v w' ∧ KeepsBut (fun k => k = r ∨ k = q) W w' ∧ (IsRand w' r t ∧ IsRand w' q t)) := by
            intro W hW hR
            refine (HNq.out W hR.2).mono ?_
            rintro e w' ⟨rfl, g1, g2, -⟩
            exact ⟨_, rfl, rfl, g2.mono (fun k h => .inr h), hR.1.keeps g2 (by have := N6.out.n3; omega), g1⟩
          clear HNr HNq hyl hd
          go_wp2_with fail
          refine wp_region_any (by kernel_rfl) ?_
          obtain ⟨gs, hgs⟩ : ∃ gs : List (Value → World → Prop), gs = [IsV (Value.pointer (some { block := a, off := 0 })), IsV (Value.pointer (some { block := r, off := 0 })), IsV (.int .u64 (y : Int)), IsV (.int .i64 (d : Int)), IsV (.agg #[.int .i64 N, .int .i64 B, .int .i64 Q, .int .i64 (E : Int), .int .i64 (F : Int)]), IsV (Value.pointer (some { block := q, off := 0 })), IsV (.int .u64 (y : Int)), IsV (.int .i64 (d : Int)), IsV (.bool false)] := ⟨_, rfl⟩
          have g0 : Hid (gs[0]? = some (IsV (Value.pointer (some { block := a, off := 0 })))) := by unfold Hid; rw [hgs]; rfl
          have g1 : Hid (gs[1]? = some (IsV (Value.pointer (some { block := r, off := 0 })))) := by unfold Hid; rw [hgs]; rfl
          have g2 : Hid (gs[2]? = some (IsV (.int .u64 (y : Int)))) := by unfold Hid; rw [hgs]; rfl
          have g3 : Hid (gs[3]? = some (IsV (.int .i64 (d : Int)))) := by unfold Hid; rw [hgs]; rfl
          have g4 : Hid (gs[4]? = some (IsV (.agg #[.int .i64 N, .int .i64 B, .int .i64 Q, .int .i64 (E : Int), .int .i64 (F : Int)]))) := by unfold Hid; rw [hgs]; rfl
          have g5 : Hid (gs[5]? = some (IsV (Value.pointer (some { block := q, off := 0 })))) := by unfold Hid; rw [hgs]; rfl
          have g6 : Hid (gs[6]? = some (IsV (.int .u64 (y : Int)))) := by unfold Hid; rw [hgs]; rfl
          have g7 : Hid (gs[7]? = some (IsV (.int .i64 (d : Int)))) := by unfold Hid; rw [hgs]; rfl
          have g8 : Hid (gs[8]? = some (IsV (.bool false))) := by unfold Hid; rw [hgs]; rfl
          have gk : Hid (∀ p ∈ gs, StaysS (fun k => k = r ∨ k = q) p) := by
            unfold Hid
            rw [hgs]
            simp only [List.forall_mem_cons]
            exact ⟨staysS_v _ _, staysS_v _ _, staysS_v _ _, staysS_v _ _, staysS_v _ _, staysS_v _ _, staysS_v _ _, staysS_v _ _, staysS_v _ _, by simp⟩
          clear hgs
          obtain ⟨phs, hphs⟩ : ∃ phs : List (World → Prop), phs = [fun W => IsRand W r s ∧ IsRand W q s, fun W => IsRand W r t ∧ IsRand W q s, fun W => IsRand W r t ∧ IsRand W q t] := ⟨_, rfl⟩
          have k0 : Hid (phs[0]? = some (fun W => IsRand W r s ∧ IsRand W q s)) := by unfold Hid; rw [hphs]; rfl
          have k1 : Hid (phs[1]? = some (fun W => IsRand W r t ∧ IsRand W q s)) := by unfold Hid; rw [hphs]; rfl
          have k2 : Hid (phs[2]? = some (fun W => IsRand W r t ∧ IsRand W q t)) := by unfold Hid; rw [hphs]; rfl
          have kk : Hid (∀ p ∈ phs, ∀ W W', Below W.heap.size W W' → p W → p W') := by
            unfold Hid
            rw [hphs]
            simp only [List.forall_mem_cons]
            exact ⟨fun W W' hb h => ⟨h.1.below hb, h.2.below hb⟩, fun W W' hb h => ⟨h.1.below hb, h.2.below hb⟩, fun W W' hb h => ⟨h.1.below hb, h.2.below hb⟩, by simp⟩
          clear hphs
          refine wpAny_inv3 (fun listed ac W => ∃ xv : Nat → Value, ac = ⟨#[Value.agg #[Value.int IntKind.i64 N, Value.int IntKind.i64 B, Value.int IntKind.i64 Q, Value.int IntKind.i64 ↑E, Value.int IntKind.i64 ↑F], Value.slice a0 n c0, Value.int IntKind.u8 ↑M, Value.pointer (some { block := w.heap.size, off := 0 }), undef, undef, u6, Value.pointer (some { block := r0, off := 0 }), Value.pointer (some { block := a, off := 0 }), Value.int IntKind.i64 (0 : Int), Value.pointer (some { block := r, off := 0 }), Value.pointer (some { block := q, off := 0 }), Value.pointer (some { block := r0, off := 0 }), Value.pointer (some { block := r0, off := 0 }), Value.bool false, Value.bool false, Value.pointer (some { block := r0, off := 0 }), Value.int IntKind.u64 (16294208416658607535 : Int), Value.bool false, Value.bool false, Value.agg #[Value.int IntKind.i64 N, Value.int IntKind.i64 B, Value.int IntKind.i64 Q, Value.int IntKind.i64 ↑E, Value.int IntKind.i64 ↑F], Value.bool true, Value.bool false, Value.bool false, Value.pointer (some { block := w.heap.size, off := 4 }), Value.int IntKind.i64 ↑F, Value.bool (decide ((200 : Int) < ↑F)), Value.bool (decide ((200 : Int) < ↑F)), Value.bool (decide ((200 : Int) < ↑F)), Value.slice a0 n c0, Value.int IntKind.i64 ↑n, Value.bool (decide ((30 : Int) < ↑n)), Value.bool (decide ((200 : Int) < ↑F) || decide ((30 : Int) < ↑n)), Value.tuple #[Value.pointer (some { block := a, off := 0 }), Value.int IntKind.i64 (0 : Int)], Value.agg #[Value.int IntKind.i64 N, Value.int IntKind.i64 B, Value.int IntKind.i64 Q, Value.int IntKind.i64 ↑E, Value.int IntKind.i64 ↑F], Value.tuple #[Value.pointer (some { block := a, off := 0 }), Value.int IntKind.i64 (0 : Int)], Value.pointer (some { block := a, off := 0 }), Value.int IntKind.i64 (0 : Int), Value.slice a0 n c0, Value.pointer (some { block := r, off := 0 }), Value.slice a0 n c0, Value.pointer (some { block := q, off := 0 }), Value.int IntKind.i64 (0 : Int), Value.bool false, Value.bool false, Value.pointer (some { block := a, off := 0 }), Value.bool false, Value.bool false, Value.int IntKind.u8 ↑M, Value.int IntKind.u8 ↑k, Value.bool true, xv 0, xv 1, xv 2, xv 3, xv 4, xv 5, xv 6, xv 7, xv 8, u60], []⟩ ∧ KeepsBut (fun k => k = r ∨ k = q) wr W ∧ Lst gs listed xv W ∧ Ph [2, 6] phs listed W) (by kernel_rfl) ?_ ?_ _ _ _ _ (by kernel_rfl) (of_decide_eq_true (by kernel_rfl)) (Down.start _) ⟨fun j => if j = 0 then u51 else if j = 1 then u52 else if j = 2 then u53 else if j = 3 then u54 else if j = 4 then u55 else if j = 5 then u56 else if j = 6 then u57 else if j = 7 then u58 else if j = 8 then u59 else undef, rfl, KeepsBut.drew _ _, Lst.start _ _ _ _, ?_⟩
          rotate_left 2
          · intro k p hk h1 h2; cases k with | zero => (rw [k0.out] at hk; obtain rfl := Option.some.inj hk; exact ⟨I.out.hr.below (below0 _), I.out.hq.below (below0 _)⟩) | succ k => (obtain ⟨c, hc, hl⟩ := h1 (by omega); exact absurd hl (by rw [Array.getD_eq_getD_getElem?, Array.getElem?_replicate]; split <;> simp))
          · rintro listed ac W ⟨xv, rfl, hb, hG, hH⟩ hD i hi hnl hd
            have hin : i < 9 := hi
            clear hi
            have hcase : i = 0 ∨ i = 1 ∨ i = 2 ∨ i = 3 ∨ i = 4 ∨ i = 5 ∨ i = 6 ∨ i = 7 ∨ i = 8 := by omega
            rcases hcase with rfl | rfl | rfl | rfl | rfl | rfl | rfl | rfl | rfl
            · refine wpOp_step rfl (fun K' hK => ?_)
              have hO : ∀ w', Below W.heap.size W w' → Ph [2, 6] phs (listed.setIfInBounds 0 true) w' := fun w' hb' => hH.other (by simp) (fun p hp => kk.out p hp W w' hb')
              clear hd hin hnl hD hH
              go_simp
              exact hK _ _ ⟨updV xv 0 (Value.pointer (some { block := a, off := 0 })), by simp [updV], hb, hG.stepS gk.out (KeepsBut.refl _ _) g0.out _ rfl, hO _ (Below.refl _ _)⟩
            · refine wpOp_step rfl (fun K' hK => ?_)
              have hO : ∀ w', Below W.heap.size W w' → Ph [2, 6] phs (listed.setIfInBounds 1 true) w' := fun w' hb' => hH.other (by simp) (fun p hp => kk.out p hp W w' hb')
              clear hd hin hnl hD hH
              go_simp
              exact hK _ _ ⟨updV xv 1 (Value.pointer (some { block := r, off := 0 })), by simp [updV], hb, hG.stepS gk.out (KeepsBut.refl _ _) g1.out _ rfl, hO _ (Below.refl _ _)⟩
            · refine wpOp_step rfl (fun K' hK => ?_)
              simp [Region.binds] at hd
              have e1 : xv 1 = Value.pointer (some { block := r, off := 0 }) := hG.get g1.out (by simp [hd])
              have hph : (fun W => IsRand W r s ∧ IsRand W q s) W := hH 0 _ k0.out (fun h => absurd rfl h) (fun c hc => by simp at hc; subst hc; exact getD_false hnl)
              have f6 : listed.getD 6 false = false := by
                cases hx : listed.getD 6 false with
                | false => rfl
                | true =>
                  have r3 : listed.getD 3 false = true := by have h := hD 6 (by decide) hx; simp [Region.binds] at h; simp [h]
                  have r2 : listed.getD 2 false = true := by have h := hD 3 (by decide) r3; simp [Region.binds] at h; simp [h]
                  rw [getD_false hnl] at r2; cases r2
              have hW : ∀ w', (fun W => IsRand W r t ∧ IsRand W q s) w' → Ph [2, 6] phs (listed.setIfInBounds 2 true) w' := fun w' hp => Ph.write 0 2 rfl hnl (by intro j h; (rcases j with _ | _ | _ | j) <;> simp at h ⊢) (by intro j c' hj h; (rcases j with _ | _ | _ | j) <;> simp at h hj) (by intro j c' hj h; (rcases j with _ | _ | _ | j) <;> simp at h hj <;> (try subst h) <;> first | exact f6 | omega) (fun p hp' => by rw [k1.out] at hp'; obtain rfl := Option.some.inj hp'; exact hp)
              clear hd hin hnl hD hH
              go_simp
              refine (C1.out W hb hph).mono ?_
              rintro e w' ⟨v, rfl, hv, hb', hp'⟩
              go_wp2_with fail
              exact ⟨updV xv 2 v, by simp [updV, e1], hb.trans hb', hG.stepS gk.out hb' g2.out v hv, hW _ hp'⟩
            · refine wpOp_step rfl (fun K' hK => ?_)
              simp [Region.binds] at hd
              have e0 : xv 0 = Value.pointer (some { block := a, off := 0 }) := hG.get g0.out (by simp [hd])
              have e2 : xv 2 = .int .u64 (y : Int) := hG.get g2.out (by simp [hd])
              have hO : ∀ w', Below W.heap.size W w' → Ph [2, 6] phs (listed.setIfInBounds 3 true) w' := fun w' hb' => hH.other (by simp) (fun p hp => kk.out p hp W w' hb')
              clear hd hin hnl hD hH
              go_simp
              refine (CO.out W hb).mono ?_
              rintro e w' ⟨v, rfl, hv, hb'⟩
              go_wp2_with fail
              exact ⟨updV xv 3 v, by simp [updV, e0, e2], hb.trans (KeepsBut.ofBelow hb'), hG.stepS gk.out (KeepsBut.ofBelow hb') g3.out v hv, hO _ hb'⟩
            · refine wpOp_step rfl (fun K' hK => ?_)
              obtain ⟨c0, c1, c2, c3, c4⟩ := BX.out W hb
              have hO : ∀ w', Below W.heap.size W w' → Ph [2, 6] phs (listed.setIfInBounds 4 true) w' := fun w' hb' => hH.other (by simp) (fun p hp => kk.out p hp W w' hb')
              clear hd hin hnl hD hH
              go_simp
              exact hK _ _ ⟨updV xv 4 (.agg #[.int .i64 N, .int .i64 B, .int .i64 Q, .int .i64 (E : Int), .int .i64 (F : Int)]), by simp [updV], hb, hG.stepS gk.out (KeepsBut.refl _ _) g4.out _ rfl, hO _ (Below.refl _ _)⟩
            · refine wpOp_step rfl (fun K' hK => ?_)
              have hO : ∀ w', Below W.heap.size W w' → Ph [2, 6] phs (listed.setIfInBounds 5 true) w' := fun w' hb' => hH.other (by simp) (fun p hp => kk.out p hp W w' hb')
              clear hd hin hnl hD hH
              go_simp
              exact hK _ _ ⟨updV xv 5 (Value.pointer (some { block := q, off := 0 })), by simp [updV], hb, hG.stepS gk.out (KeepsBut.refl _ _) g5.out _ rfl, hO _ (Below.refl _ _)⟩
            · refine wpOp_step rfl (fun K' hK => ?_)
              simp [Region.binds] at hd
              have e5 : xv 5 = Value.pointer (some { block := q, off := 0 }) := hG.get g5.out (by simp [hd])
              have q3 : listed.getD 3 false = true := by simp [hd]
              have q2 : listed.getD 2 false = true := by have h := hD 3 (by decide) q3; simp [Region.binds] at h; simp [h]
              have hph : (fun W => IsRand W r t ∧ IsRand W q s) W := hH 1 _ k1.out (fun _ => ⟨2, rfl, q2⟩) (fun c hc => by simp at hc; subst hc; exact getD_false hnl)
              have hW : ∀ w', (fun W => IsRand W r t ∧ IsRand W q t) w' → Ph [2, 6] phs (listed.setIfInBounds 6 true) w' := fun w' hp => Ph.write 1 6 rfl hnl (by intro j h; (rcases j with _ | _ | _ | j) <;> simp at h ⊢) (by intro j c' hj h; (rcases j with _ | _ | _ | j) <;> simp at h hj <;> (try subst h) <;> first | exact q2 | omega) (by intro j c' hj h; (rcases j with _ | _ | _ | j) <;> simp at h hj) (fun p hp' => by rw [k2.out] at hp'; obtain rfl := Option.some.inj hp'; exact hp)
              clear hd hin hnl hD hH
              go_simp
              refine (C2.out W hb hph).mono ?_
              rintro e w' ⟨v, rfl, hv, hb', hp'⟩
              go_wp2_with fail
              exact ⟨updV xv 6 v, by simp [updV, e5], hb.trans hb', hG.stepS gk.out hb' g6.out v hv, hW _ hp'⟩
            · refine wpOp_step rfl (fun K' hK => ?_)
              simp [Region.binds] at hd
              have e4 : xv 4 = .agg #[.int .i64 N, .int .i64 B, .int .i64 Q, .int .i64 (E : Int), .int .i64 (F : Int)] := hG.get g4.out (by simp [hd])
              have e6 : xv 6 = .int .u64 (y : Int) := hG.get g6.out (by simp [hd])
              have hO : ∀ w', Below W.heap.size W w' → Ph [2, 6] phs (listed.setIfInBounds 7 true) w' := fun w' hb' => hH.other (by simp) (fun p hp => kk.out p hp W w' hb')
              clear hd hin hnl hD hH
              go_simp
              refine (CR.out W hb).mono ?_
              rintro e w' ⟨v, rfl, hv, hb'⟩
              go_wp2_with fail
              exact ⟨updV xv 7 v, by simp [updV, e4, e6], hb.trans (KeepsBut.ofBelow hb'), hG.stepS gk.out (KeepsBut.ofBelow hb') g7.out v hv, hO _ hb'⟩
            · refine wpOp_step rfl (fun K' hK => ?_)
              simp [Region.binds] at hd
              have e3 : xv 3 = .int .i64 (d : Int) := hG.get g3.out (by simp [hd])
              have e7 : xv 7 = .int .i64 (d : Int) := hG.get g7.out (by simp [hd])
              have hO : ∀ w', Below W.heap.size W w' → Ph [2, 6] phs (listed.setIfInBounds 8 true) w' := fun w' hb' => hH.other (by simp) (fun p hp => kk.out p hp W w' hb')
              clear hd hin hnl hD hH
              go_simp
              exact hK _ _ ⟨updV xv 8 (.bool false), by simp [updV, e3, e7], hb, hG.stepS gk.out (KeepsBut.refl _ _) g8.out _ rfl, hO _ (Below.refl _ _)⟩
          · rintro listed ac W ⟨xv, rfl, hb, hG, hH⟩ hall
            have e8 : xv 8 = .bool false := hG.get g8.out (hall 8 (by decide))
            have XW : Hid (KeepsBut (fun k => k = r ∨ k = q) wr W) := hb
            have HW : Hid ((fun W => IsRand W r t ∧ IsRand W q t) W) := hH 2 _ k2.out (fun _ => ⟨6, rfl, hall 6 (by decide)⟩) (fun c hc => by simp at hc)
            clear hall hG hb hH gk kk g0 g1 g2 g3 g4 g5 g6 g7 g8 k0 k1 k2
            rw [e8]
            clear e8
            have I2 : Hid (SeedI w w.heap.size a r q F E t N B Q W) := ⟨HW.out.1, HW.out.2, I.out.hd.keeps XW.out (by have := N6.out.n2; have := N6.out.n3; omega), I.out.hp.keeps XW.out (by have := N6.out.n1; have := N6.out.n2; have := N6.out.n3; omega), I.out.hb.trans (XW.out.below I.out.hb.size (fun k hk => by have := N6.out.n1; have := N6.out.n2; have := N6.out.n3; omega))⟩
            clear I XW HW CO CR BX C1 C2
            go_wp2
            go_roundw
            case rel => exact ⟨k + 1, t, by omega, by go_num, I2⟩
            case measure => simp [intOf]; omega
        · go_wp2
          go_ret
          exact ⟨rfl, I.out.hb⟩
    · go_wp2
      go_ret
      exact ⟨rfl, B3.out⟩
  · go_wp2
    go_ret
    exact ⟨rfl, B3.out⟩

/-- WholeSeeds. -/
theorem wholeSeeds_walk (N B Q E F : Int) (v1 : Value) (l : List Int) (M : Int) (w : World) (hw : Ok .i64 N ∧ Ok .i64 B ∧ Ok .i64 Q ∧ Ok .i64 E ∧ Ok .i64 F) (h1 : Sl 1 w v1 l.length (l.map (Value.int .u64))) (k1 : ∀ z ∈ l, (Lit.int .u64 z).wf = true) (hM : (Lit.int .u8 M).wf = true) :
    Calls Try.prog 13 #[.agg #[.int .i64 N, .int .i64 B, .int .i64 Q, .int .i64 E, .int .i64 F], v1, .int .u8 M] w fun e w' => e = .returned (.bool true) ∧ Below w.heap.size w w' := by
  obtain ⟨s, hs⟩ := us_of h1 k1
  obtain ⟨m, rfl, hm⟩ := u8_nat hM
  by_cases h : May N B Q E F
  · obtain ⟨e, f, rfl, rfl, hd⟩ := may_nat h
    exact wholeSeeds_yes N B Q e f v1 s m w hs hm h hd
  · exact wholeSeeds_no N B Q E F v1 s m w hs h

end Go.Proofs.Ytecohgmllmddhaa
