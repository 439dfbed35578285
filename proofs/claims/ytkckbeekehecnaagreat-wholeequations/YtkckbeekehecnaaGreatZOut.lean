/-
  Texts that lie together: OutA OutC OutM OutB OutS OutN OutD OutE.
-/
import Derived.Test.YtkckbeekehecnaaGreatZSmp
import Derived.Test.YtkckbeekehecnaaGreatZBase
import Derived.Test.YtkckbeekehecnaaGreatZPar
import Derived.Deep.MidRow
import Derived.Laws.ResultCell
namespace Go.Proofs.YtkckbeekehecnaaGreat

section
/-
  outer: a graph as it lies, and what is read of it: Message, Auxiliary, Of, Has, Equation.
-/
open Go.RowKit
set_option linter.unusedVariables false

/-- A graph at a block: its rows lie behind the block hb. -/
structure IsGr (w : World) (g hb S N Q A : Nat) (vs : List Value) (rows : List (List Int)) : Prop where
  c0 : w.cell? ⟨g, 0, none⟩ = some (.int .u64 (S : Int))
  c1 : w.cell? ⟨g, 1, none⟩ = some (.int .i64 (N : Int))
  c2 : w.cell? ⟨g, 2, none⟩ = some (.int .i64 (Q : Int))
  c3 : w.cell? ⟨g, 3, none⟩ = some (.slice (some ⟨hb, 0, none⟩) A A)
  lv : vs.length = A
  lr : rows.length = A
  cv : ∀ (i : Nat) (v : Value), vs[i]? = some v → w.cell? ⟨hb, i, none⟩ = some v
  rd : ∀ (i : Nat) (v : Value) (l : List Int), vs[i]? = some v → rows[i]? = some l → Zs w v l

theorem IsGr.below {w w' : World} {g hb S N Q A : Nat} {vs : List Value} {rows : List (List Int)} (h : IsGr w g hb S N Q A vs rows) (b : Below w.heap.size w w') : IsGr w' g hb S N Q A vs rows :=
  ⟨(b.cell (cell_block_lt h.c0)).trans h.c0, (b.cell (cell_block_lt h.c1)).trans h.c1, (b.cell (cell_block_lt h.c2)).trans h.c2, (b.cell (cell_block_lt h.c3)).trans h.c3, h.lv, h.lr,
    fun i v hv => (b.cell (cell_block_lt (h.cv i v hv))).trans (h.cv i v hv), fun i v l hv hl => (h.rd i v l hv hl).below b⟩

/-- Numbers that may be. -/
structure GrOk (S N Q A : Nat) : Prop where
  s : S < 18446744073709551616
  n : N ≤ 1048576
  q : Q ≤ 8
  a1 : 1 ≤ A
  a : A ≤ 16777216
  qa : Q ≤ A
  q1 : 1 ≤ Q

set_option maxHeartbeats 400000 in
theorem oaux_any (g hb S N Q A : Nat) (vs : List Value) (rows : List (List Int)) (w : World) (h : IsGr w g hb S N Q A vs rows) :
    Calls Tryz.prog 9 #[.pointer (some ⟨g, 0, none⟩)] w fun e w' => e = .returned (.int .i64 (A : Int)) ∧ w' = w := by
  have c3 := h.c3
  clear h
  go_enter Tryz.func9, Tryz.ntmps9
  go_wp2
  go_ret
  exact ⟨rfl, rfl⟩

/-- The auxiliary blocks of a message block. -/
def ofD (S A Q i : Nat) : List Int := (someD (seedTo 0 [S, 1, i]) (A : Int) (Q : Int)).2

theorem ofD_length {S A Q i : Nat} (h1 : 1 ≤ Q) (h2 : Q ≤ A) : (ofD S A Q i).length = Q := by
  unfold ofD
  rw [someD_length]
  unfold howMany
  split <;> omega



set_option maxRecDepth 100000 in
set_option maxHeartbeats 1000000 in
/-- OF: what is drawn. -/
theorem oof_yes (g hb S N Q A i : Nat) (vs : List Value) (rows : List (List Int)) (w : World) (h : IsGr w g hb S N Q A vs rows) (ok : GrOk S N Q A) (hi : i < N) :
    Calls Tryz.prog 25 #[.pointer (some ⟨g, 0, none⟩), .int .i64 i] w fun e w' => ∃ a c, e = .returned (.slice a Q c) ∧ OwnZ w.heap.size w' (.slice a Q c) Q (ofD S A Q i) ∧ Below w.heap.size w w' := by
  have HG : Hid (IsGr w g hb S N Q A vs rows) := h
  have c1 := h.c1
  have BX : Hid (∀ W, Below w.heap.size w W → W.cell? ⟨g, 0, none⟩ = some (.int .u64 (S : Int)) ∧ W.cell? ⟨g, 1, none⟩ = some (.int .i64 (N : Int)) ∧ W.cell? ⟨g, 2, none⟩ = some (.int .i64 (Q : Int))) := fun W hW => ⟨(hW.cell (cell_block_lt h.c0)).trans h.c0, (hW.cell (cell_block_lt h.c1)).trans h.c1, (hW.cell (cell_block_lt h.c2)).trans h.c2⟩
  have hN := ok.n
  have HS : Hid (S < 18446744073709551616) := ok.s
  obtain ⟨t, l, hT⟩ : ∃ t l, someD (seedTo 0 [S, 1, i]) (A : Int) (Q : Int) = (t, l) := ⟨_, _, rfl⟩
  have HL : Hid (ofD S A Q i = l) := by unfold Hid ofD; rw [hT]
  have hA := ok.a
  have hk : howMany (A : Int) (Q : Int) = Q := by
    have := ok.q1
    have := ok.qa
    unfold howMany
    split <;> omega
  have HC : Hid (∀ W r, IsRand W r (seedTo 0 [S, 1, i]) → Calls Tryz.prog 49 #[.pointer (some ⟨r, 0, none⟩), .int .i64 A, .int .i64 Q] W fun e w' => ∃ a c, e = .returned (.slice a Q c) ∧ OwnZ W.heap.size w' (.slice a Q c) Q l ∧ IsRand w' r t ∧ KeepsBut (fun x => x = r) W w') := fun W r hr => some_any r _ A Q W hr (by omega) Q hk t l hT
  clear hT hk hA ok h
  have CN : Hid (∀ W v, Below w.heap.size w W → IsUs [S, 1, i] v W → Calls Tryz.prog 50 #[v] W fun e w' => ∃ v, e = .returned v ∧ IsRd w.heap.size (seedTo 0 [S, 1, i]) v w' ∧ Below W.heap.size W w') := by
    intro W v hW hv
    refine (rnew_any v _ W hv).mono ?_
    rintro e w' ⟨rfl, h1, h2, -⟩
    exact ⟨_, rfl, ⟨_, rfl, hW.size, h1⟩, h2⟩
  generalize seedTo 0 [S, 1, i] = s at *
  have CA : Hid (∀ W, Below w.heap.size w W → Calls Tryz.prog 9 #[.pointer (some ⟨g, 0, none⟩)] W fun e w' => ∃ v, e = .returned v ∧ IsV (.int .i64 (A : Int)) v w' ∧ Below W.heap.size W w') := by
    intro W hW
    refine (oaux_any g hb S N Q A vs rows W (HG.out.below hW)).mono ?_
    rintro e w' ⟨rfl, rfl⟩
    exact ⟨_, rfl, rfl, Below.refl _ _⟩
  clear HG
  have hwi : IntKind.u64.wrap (i : Int) = (i : Int) := by rw [IntKind.wrap_u64]; omega
  go_enter Tryz.func25, Tryz.ntmps25
  go_upto_region 3 with fail
  clear c1
  have hiG : ¬ N ≤ i := by omega

  refine wp_region_any (by kernel_rfl) ?_
  obtain ⟨gs, hgs⟩ : ∃ gs : List (Value → World → Prop), gs = [IsV (Value.pointer (some { block := g, off := 0 })), IsV (Value.pointer (some { block := g, off := 0 })), IsV (.pointer (some ⟨g, 0, none⟩)), IsV (.int .u64 (S : Int)), IsV (Value.int IntKind.i64 ↑i), IsV (.int .u64 (i : Int)), IsAnyV, IsAnyV, IsV (Value.pointer (some { block := g, off := 0 })), IsV (.int .i64 (A : Int)), IsV (Value.pointer (some { block := g, off := 0 })), IsV (Value.pointer (some { block := g, off := 0 })), IsV (.pointer (some ⟨g, 2, none⟩)), IsV (.int .i64 (Q : Int)), IsAnyV, IsAnyV] := ⟨_, rfl⟩
  have g0 : Hid (gs[0]? = some (IsV (Value.pointer (some { block := g, off := 0 })))) := by unfold Hid; rw [hgs]; rfl
  have g1 : Hid (gs[1]? = some (IsV (Value.pointer (some { block := g, off := 0 })))) := by unfold Hid; rw [hgs]; rfl
  have g2 : Hid (gs[2]? = some (IsV (.pointer (some ⟨g, 0, none⟩)))) := by unfold Hid; rw [hgs]; rfl
  have g3 : Hid (gs[3]? = some (IsV (.int .u64 (S : Int)))) := by unfold Hid; rw [hgs]; rfl
  have g4 : Hid (gs[4]? = some (IsV (Value.int IntKind.i64 ↑i))) := by unfold Hid; rw [hgs]; rfl
  have g5 : Hid (gs[5]? = some (IsV (.int .u64 (i : Int)))) := by unfold Hid; rw [hgs]; rfl
  have g6 : Hid (gs[6]? = some (IsAnyV)) := by unfold Hid; rw [hgs]; rfl
  have g7 : Hid (gs[7]? = some (IsAnyV)) := by unfold Hid; rw [hgs]; rfl
  have g8 : Hid (gs[8]? = some (IsV (Value.pointer (some { block := g, off := 0 })))) := by unfold Hid; rw [hgs]; rfl
  have g9 : Hid (gs[9]? = some (IsV (.int .i64 (A : Int)))) := by unfold Hid; rw [hgs]; rfl
  have g10 : Hid (gs[10]? = some (IsV (Value.pointer (some { block := g, off := 0 })))) := by unfold Hid; rw [hgs]; rfl
  have g11 : Hid (gs[11]? = some (IsV (Value.pointer (some { block := g, off := 0 })))) := by unfold Hid; rw [hgs]; rfl
  have g12 : Hid (gs[12]? = some (IsV (.pointer (some ⟨g, 2, none⟩)))) := by unfold Hid; rw [hgs]; rfl
  have g13 : Hid (gs[13]? = some (IsV (.int .i64 (Q : Int)))) := by unfold Hid; rw [hgs]; rfl
  have g14 : Hid (gs[14]? = some (IsAnyV)) := by unfold Hid; rw [hgs]; rfl
  have g15 : Hid (gs[15]? = some (IsAnyV)) := by unfold Hid; rw [hgs]; rfl
  have gk : Hid (∀ p ∈ gs, ∀ v (U U' : World), p v U → p v U') := by
    unfold Hid
    rw [hgs]
    simp only [List.forall_mem_cons]
    exact ⟨(fun _ _ _ h => h), (fun _ _ _ h => h), (fun _ _ _ h => h), (fun _ _ _ h => h), (fun _ _ _ h => h), (fun _ _ _ h => h), (fun _ _ _ h => h), (fun _ _ _ h => h), (fun _ _ _ h => h), (fun _ _ _ h => h), (fun _ _ _ h => h), (fun _ _ _ h => h), (fun _ _ _ h => h), (fun _ _ _ h => h), (fun _ _ _ h => h), (fun _ _ _ h => h), by simp⟩
  clear hgs
  have JS : Hid (∀ W W', Below W.heap.size W W' → (fun W => Below w.heap.size w W) W → (fun W => Below w.heap.size w W) W') := fun W W' hb h => h.trans (hb.mono h.size)
  have st6 : Hid (Stays (IsUs [S, 1, i])) := stays_us _
  have st7 : Hid (Stays (IsRd w.heap.size s)) := stays_rd _ _
  have st14 : Hid (Stays (IsOz w.heap.size Q l)) := stays_oz _ _ _
  have st15 : Hid (Stays (IsOz w.heap.size Q l)) := stays_oz _ _ _
  refine wpAny_inv4 (fun listed ac W => ∃ xv : Nat → Value, ac = ⟨#[Value.pointer (some { block := g, off := 0 }), Value.int IntKind.i64 ↑i, undef, undef, xv 15, Value.int IntKind.i64 ↑i, Value.bool (decide (↑i < (0 : Int))), Value.bool (decide (↑i < (0 : Int))), Value.int IntKind.i64 ↑i, Value.pointer (some { block := g, off := 0 }), Value.pointer (some { block := g, off := 0 }), Value.pointer (some { block := g, off := 1 }), Value.int IntKind.i64 ↑N, Value.bool (decide (N ≤ i)), Value.bool (decide (↑i < (0 : Int)) || decide (N ≤ i)), xv 0, xv 1, xv 2, xv 3, xv 4, xv 5, xv 6, xv 7, xv 8, xv 9, xv 10, xv 11, xv 12, xv 13, xv 14], []⟩ ∧ (fun W => Below w.heap.size w W) W ∧ Lst gs listed xv W ∧ Fd listed xv W 6 7 (IsUs [S, 1, i]) ∧ Fd listed xv W 7 14 (IsRd w.heap.size s) ∧ Fe listed xv W 14 (IsOz w.heap.size Q l) ∧ Fe listed xv W 15 (IsOz w.heap.size Q l)) (by kernel_rfl) ?_ ?_ _ _ _ _ (by kernel_rfl) (of_decide_eq_true (by kernel_rfl)) (Down.start _) ⟨fun j => if j = 15 then Value.slice none 0 0 else undef, rfl, below0 _, Lst.start _ _ _ _, Fd.start _ _ _ _ _ _, Fd.start _ _ _ _ _ _, Fe.start _ _ _ _ _, Fe.start _ _ _ _ _⟩
  · rintro listed ac W ⟨xv, rfl, hb, hG, hF6, hF7, hF14, hF15⟩ hD i hi hnl hd
    have hin : i < 16 := hi
    clear hi
    have hcase : i = 0 ∨ i = 1 ∨ i = 2 ∨ i = 3 ∨ i = 4 ∨ i = 5 ∨ i = 6 ∨ i = 7 ∨ i = 8 ∨ i = 9 ∨ i = 10 ∨ i = 11 ∨ i = 12 ∨ i = 13 ∨ i = 14 ∨ i = 15 := by omega
    rcases hcase with rfl | rfl | rfl | rfl | rfl | rfl | rfl | rfl | rfl | rfl | rfl | rfl | rfl | rfl | rfl | rfl
    · refine wpOp_step rfl (fun K' hK => ?_)
      clear hd hin hD
      go_simp
      exact hK _ _ ⟨updV xv 0 (Value.pointer (some { block := g, off := 0 })), by simp [updV, hiG], hb, hG.any gk.out g0.out _ rfl, hF6.step (fun _ h => h) (by decide) (by decide) _, hF7.step (fun _ h => h) (by decide) (by decide) _, hF14.step (fun _ h => h) (by decide) _, hF15.step (fun _ h => h) (by decide) _⟩
    · refine wpOp_step rfl (fun K' hK => ?_)
      simp [Region.binds] at hd
      have e0 : xv 0 = Value.pointer (some { block := g, off := 0 }) := hG.get g0.out (by simp [hd])
      clear hd hin hD
      go_simp
      exact hK _ _ ⟨updV xv 1 (Value.pointer (some { block := g, off := 0 })), by simp [updV, e0, hiG], hb, hG.any gk.out g1.out _ rfl, hF6.step (fun _ h => h) (by decide) (by decide) _, hF7.step (fun _ h => h) (by decide) (by decide) _, hF14.step (fun _ h => h) (by decide) _, hF15.step (fun _ h => h) (by decide) _⟩
    · refine wpOp_step rfl (fun K' hK => ?_)
      simp [Region.binds] at hd
      have e1 : xv 1 = Value.pointer (some { block := g, off := 0 }) := hG.get g1.out (by simp [hd])
      clear hd hin hD
      go_simp
      exact hK _ _ ⟨updV xv 2 (.pointer (some ⟨g, 0, none⟩)), by simp [updV, e1, hiG], hb, hG.any gk.out g2.out _ rfl, hF6.step (fun _ h => h) (by decide) (by decide) _, hF7.step (fun _ h => h) (by decide) (by decide) _, hF14.step (fun _ h => h) (by decide) _, hF15.step (fun _ h => h) (by decide) _⟩
    · refine wpOp_step rfl (fun K' hK => ?_)
      simp [Region.binds] at hd
      have e2 : xv 2 = .pointer (some ⟨g, 0, none⟩) := hG.get g2.out (by simp [hd])
      obtain ⟨c0, c1, c2⟩ := BX.out W hb
      clear hd hin hD
      go_simp
      exact hK _ _ ⟨updV xv 3 (.int .u64 (S : Int)), by simp [updV, e2, hiG], hb, hG.any gk.out g3.out _ rfl, hF6.step (fun _ h => h) (by decide) (by decide) _, hF7.step (fun _ h => h) (by decide) (by decide) _, hF14.step (fun _ h => h) (by decide) _, hF15.step (fun _ h => h) (by decide) _⟩
    · refine wpOp_step rfl (fun K' hK => ?_)
      clear hd hin hD
      go_simp
      exact hK _ _ ⟨updV xv 4 (Value.int IntKind.i64 ↑i), by simp [updV, hiG], hb, hG.any gk.out g4.out _ rfl, hF6.step (fun _ h => h) (by decide) (by decide) _, hF7.step (fun _ h => h) (by decide) (by decide) _, hF14.step (fun _ h => h) (by decide) _, hF15.step (fun _ h => h) (by decide) _⟩
    · refine wpOp_step rfl (fun K' hK => ?_)
      simp [Region.binds] at hd
      have e4 : xv 4 = Value.int IntKind.i64 ↑i := hG.get g4.out (by simp [hd])
      clear hd hin hD
      go_simp
      exact hK _ _ ⟨updV xv 5 (.int .u64 (i : Int)), by simp [updV, e4, hiG], hb, hG.any gk.out g5.out _ rfl, hF6.step (fun _ h => h) (by decide) (by decide) _, hF7.step (fun _ h => h) (by decide) (by decide) _, hF14.step (fun _ h => h) (by decide) _, hF15.step (fun _ h => h) (by decide) _⟩
    · refine wpOp_step rfl (fun K' hK => ?_)
      simp [Region.binds] at hd
      have e3 : xv 3 = .int .u64 (S : Int) := hG.get g3.out (by simp [hd])
      have e5 : xv 5 = .int .u64 (i : Int) := hG.get g5.out (by simp [hd])
      clear hd hin hD
      go_simp
      exact hK _ _ ⟨updV xv 6 (.slice (some ⟨W.heap.size, 0, none⟩) 3 3), by simp [updV, e3, e5, hiG], JS.out _ _ (below_alloc _ _) hb, hG.any gk.out g6.out _ trivial, Fd.new (us_lit3 _ _ S 1 i HS.out (by decide) (by omega) _ rfl), hF7.on st7.out (below_alloc _ _) (by decide) (by decide) _, hF14.on st14.out (below_alloc _ _) (by decide) _, hF15.on st15.out (below_alloc _ _) (by decide) _⟩
    · refine wpOp_step rfl (fun K' hK => ?_)
      simp [Region.binds] at hd
      have l6 : listed.getD 6 false = true := by simp [hd]
      have m6 := hF6.get l6 hnl
      clear hd hin hD
      go_simp
      refine (CN.out W _ hb m6).mono ?_
      rintro e w' ⟨v, rfl, hv, hb'⟩
      go_wp2_with fail
      exact ⟨updV xv 7 v, by simp [updV, hiG], JS.out _ _ hb' hb, hG.any gk.out g7.out v trivial, Fd.off hnl, Fd.new (hv), hF14.on st14.out hb' (by decide) _, hF15.on st15.out hb' (by decide) _⟩
    · refine wpOp_step rfl (fun K' hK => ?_)
      clear hd hin hD
      go_simp
      exact hK _ _ ⟨updV xv 8 (Value.pointer (some { block := g, off := 0 })), by simp [updV, hiG], hb, hG.any gk.out g8.out _ rfl, hF6.step (fun _ h => h) (by decide) (by decide) _, hF7.step (fun _ h => h) (by decide) (by decide) _, hF14.step (fun _ h => h) (by decide) _, hF15.step (fun _ h => h) (by decide) _⟩
    · refine wpOp_step rfl (fun K' hK => ?_)
      simp [Region.binds] at hd
      have e8 : xv 8 = Value.pointer (some { block := g, off := 0 }) := hG.get g8.out (by simp [hd])
      clear hd hin hD
      go_simp
      refine (CA.out W hb).mono ?_
      rintro e w' ⟨v, rfl, hv, hb'⟩
      go_wp2_with fail
      exact ⟨updV xv 9 v, by simp [updV, e8, hiG], JS.out _ _ hb' hb, hG.any gk.out g9.out v hv, hF6.on st6.out hb' (by decide) (by decide) _, hF7.on st7.out hb' (by decide) (by decide) _, hF14.on st14.out hb' (by decide) _, hF15.on st15.out hb' (by decide) _⟩
    · refine wpOp_step rfl (fun K' hK => ?_)
      clear hd hin hD
      go_simp
      exact hK _ _ ⟨updV xv 10 (Value.pointer (some { block := g, off := 0 })), by simp [updV, hiG], hb, hG.any gk.out g10.out _ rfl, hF6.step (fun _ h => h) (by decide) (by decide) _, hF7.step (fun _ h => h) (by decide) (by decide) _, hF14.step (fun _ h => h) (by decide) _, hF15.step (fun _ h => h) (by decide) _⟩
    · refine wpOp_step rfl (fun K' hK => ?_)
      simp [Region.binds] at hd
      have e10 : xv 10 = Value.pointer (some { block := g, off := 0 }) := hG.get g10.out (by simp [hd])
      clear hd hin hD
      go_simp
      exact hK _ _ ⟨updV xv 11 (Value.pointer (some { block := g, off := 0 })), by simp [updV, e10, hiG], hb, hG.any gk.out g11.out _ rfl, hF6.step (fun _ h => h) (by decide) (by decide) _, hF7.step (fun _ h => h) (by decide) (by decide) _, hF14.step (fun _ h => h) (by decide) _, hF15.step (fun _ h => h) (by decide) _⟩
    · refine wpOp_step rfl (fun K' hK => ?_)
      simp [Region.binds] at hd
      have e11 : xv 11 = Value.pointer (some { block := g, off := 0 }) := hG.get g11.out (by simp [hd])
      clear hd hin hD
      go_simp
      exact hK _ _ ⟨updV xv 12 (.pointer (some ⟨g, 2, none⟩)), by simp [updV, e11, hiG], hb, hG.any gk.out g12.out _ rfl, hF6.step (fun _ h => h) (by decide) (by decide) _, hF7.step (fun _ h => h) (by decide) (by decide) _, hF14.step (fun _ h => h) (by decide) _, hF15.step (fun _ h => h) (by decide) _⟩
    · refine wpOp_step rfl (fun K' hK => ?_)
      simp [Region.binds] at hd
      have e12 : xv 12 = .pointer (some ⟨g, 2, none⟩) := hG.get g12.out (by simp [hd])
      obtain ⟨c0, c1, c2⟩ := BX.out W hb
      clear hd hin hD
      go_simp
      exact hK _ _ ⟨updV xv 13 (.int .i64 (Q : Int)), by simp [updV, e12, hiG], hb, hG.any gk.out g13.out _ rfl, hF6.step (fun _ h => h) (by decide) (by decide) _, hF7.step (fun _ h => h) (by decide) (by decide) _, hF14.step (fun _ h => h) (by decide) _, hF15.step (fun _ h => h) (by decide) _⟩
    · refine wpOp_step rfl (fun K' hK => ?_)
      simp [Region.binds] at hd
      have l7 : listed.getD 7 false = true := by simp [hd]
      have m7 := hF7.get l7 hnl
      have e9 : xv 9 = .int .i64 (A : Int) := hG.get g9.out (by simp [hd])
      have e13 : xv 13 = .int .i64 (Q : Int) := hG.get g13.out (by simp [hd])
      have f15 : listed.getD 15 false = false := by
        cases hx : listed.getD 15 false with
        | false => rfl
        | true =>
          have r14 : listed.getD 14 false = true := by have h := hD 15 (by decide) hx; simp [Region.binds] at h; simp [h]
          rw [getD_false hnl] at r14; cases r14
      clear hd hin hD
      obtain ⟨r, e7, hr, hR⟩ := m7
      go_simp
      refine (HC.out W r hR).mono ?_
      rintro e w' ⟨a, c, rfl, ho, -, hk⟩
      go_wp2_with fail
      exact ⟨updV xv 14 (.slice a Q c), by simp [updV, e7, e9, e13, hiG], hb.trans (hk.below hb.size (fun k e => by omega)), hG.any gk.out g14.out _ trivial, Fd.gone l7 (by decide), Fd.off hnl, Fe.new (⟨a, c, rfl, ho.mono hb.size⟩), Fe.yet f15 (by decide) _⟩
    · refine wpOp_step rfl (fun K' hK => ?_)
      simp [Region.binds] at hd
      have l14 : listed.getD 14 false = true := by simp [hd]
      have m14 := hF14 l14
      clear hd hin hD
      go_simp
      exact hK _ _ ⟨updV xv 15 (xv 14), by simp [updV, hiG], hb, hG.any gk.out g15.out _ trivial, hF6.step (fun _ h => h) (by decide) (by decide) _, hF7.step (fun _ h => h) (by decide) (by decide) _, hF14.step (fun _ h => h) (by decide) _, Fe.new (m14)⟩
  · rintro listed ac W ⟨xv, rfl, hb, hG, hF6, hF7, hF14, hF15⟩ hall
    have m15 : Hid ((IsOz w.heap.size Q l) (xv 15) W) := hF15 (hall 15 (by decide))
    have XW : Hid ((fun W => Below w.heap.size w W) W) := hb
    clear hall hG hb gk JS g0 g1 g2 g3 g4 g5 g6 g7 g8 g9 g10 g11 g12 g13 g14 g15 hF6 st6 hF7 st7 hF14 st14 hF15 st15
    obtain ⟨a, c, e15, ho⟩ := m15.out
    rw [e15]
    clear m15 e15
    have HO : Hid (OwnZ w.heap.size W (.slice a Q c) Q l) := ho
    clear ho
    go_wp2
    go_ret
    exact ⟨a, c, rfl, by rw [HL.out]; exact HO.out, XW.out⟩

set_option maxRecDepth 100000 in
set_option maxHeartbeats 400000 in
theorem oof_no (g hb S N Q A : Nat) (i : Int) (vs : List Value) (rows : List (List Int)) (w : World) (h : IsGr w g hb S N Q A vs rows) (hi : i < 0 ∨ (N : Int) ≤ i) :
    Calls Tryz.prog 25 #[.pointer (some ⟨g, 0, none⟩), .int .i64 i] w fun e w' => e = .returned (.slice none 0 0) ∧ w' = w := by
  have c1 := h.c1
  clear h
  by_cases h0 : i < 0
  · clear hi
    go_enter Tryz.func25, Tryz.ntmps25
    go_wp2
    go_ret
    exact ⟨rfl, rfl⟩
  · have h1 : (N : Int) ≤ i := hi.resolve_left h0
    clear hi
    have h2 : i ≥ (N : Int) := h1
    go_enter Tryz.func25, Tryz.ntmps25
    go_wp2
    go_ret
    exact ⟨rfl, rfl⟩

/-- CLONE: of numbers. -/
theorem clone_any (v : Value) (l : List Int) (n : Nat) (w : World) (h : Zs w v l) (hn : l.length = n) (hl : n ≤ 1000000000) :
    Calls Tryz.prog 43 #[v] w fun e w' => ∃ a c, e = .returned (.slice a n c) ∧ OwnZ w.heap.size w' (.slice a n c) n l ∧ Below w.heap.size w w' := by
  subst hn
  have h' := h
  obtain ⟨-, ao, cap, rfl, h2, h3, h4, -⟩ := h'
  obtain ⟨-, hc⟩ := zs_cells h
  have fin : ∀ (v' : Value) (w' : World), w'.ownsRow w.heap.size 3 1 v' l.length (l.map (Value.int .i64)) → Below w.heap.size w w' → ∃ a c, Ending.returned v' = .returned (.slice a l.length c) ∧ OwnZ w.heap.size w' (.slice a l.length c) l.length l ∧ Below w.heap.size w w' := by
    intro v' w' ho hb
    obtain ⟨a, c, rfl, -⟩ := owned_slice ho
    exact ⟨a, c, rfl, ho, hb⟩
  cases ao with
  | none =>
    have e0 : cap = 0 := h4 rfl
    have e1 : l = [] := List.eq_nil_of_length_eq_zero (by omega)
    subst e1
    refine (Any.slices_Clone_int_nil Tryz.laysNm215 0 cap w).mono ?_
    rintro e w' ⟨rfl, rfl⟩
    exact ⟨none, 0, rfl, OwnZ.nil _ _, Below.refl _ _⟩
  | some a =>
    by_cases h0 : l.length = 0
    · have e1 : l = [] := List.eq_nil_of_length_eq_zero h0
      subst e1
      refine (Any.slices_Clone_int_zero Tryz.laysNm215 a cap w).mono ?_
      rintro e w' ⟨v', rfl, ho, -, hb⟩
      exact fin v' w' ho hb
    · obtain ⟨b, off, e, hc'⟩ := hc.resolve_left h0
      obtain rfl := Option.some.inj e
      refine (Any.slices_Clone_int Tryz.laysNm215 b off l.length cap l w (Nat.le_refl _) (by omega) hc').mono ?_
      rintro e w' ⟨v', rfl, ho, -, hb⟩
      rw [List.take_of_length_le (Nat.le_refl _)] at ho
      exact fin v' w' ho hb

set_option maxRecDepth 100000 in
set_option maxHeartbeats 1000000 in
/-- HAS: a row, anew. -/
theorem ohas_yes (g hb S N Q A j n : Nat) (vs : List Value) (rows : List (List Int)) (l : List Int) (w : World) (h : IsGr w g hb S N Q A vs rows) (hA : A ≤ 16777216) (hl : rows[j]? = some l) (hn : l.length = n) (hn2 : n ≤ 1000000000) :
    Calls Tryz.prog 22 #[.pointer (some ⟨g, 0, none⟩), .int .i64 j] w fun e w' => ∃ a c, e = .returned (.slice a n c) ∧ OwnZ w.heap.size w' (.slice a n c) n l ∧ Below w.heap.size w w' := by
  have hj : j < A := by
    have := (List.getElem?_eq_some_iff.1 hl).1
    rw [h.lr] at this
    exact this
  have hjv : j < vs.length := by rw [h.lv]; exact hj
  have CA : Hid (Calls Tryz.prog 9 #[.pointer (some ⟨g, 0, none⟩)] w fun e w' => e = .returned (.int .i64 (A : Int)) ∧ w' = w) := oaux_any g hb S N Q A vs rows w h
  have c3 := h.c3
  have cj := h.cv j _ (List.getElem?_eq_getElem hjv)
  have zj := h.rd j _ l (List.getElem?_eq_getElem hjv) hl
  have CC : Hid (Calls Tryz.prog 43 #[vs[j]] w fun e w' => ∃ a c, e = .returned (.slice a n c) ∧ OwnZ w.heap.size w' (.slice a n c) n l ∧ Below w.heap.size w w') := clone_any _ l n w zj hn hn2
  obtain ⟨-, az, cz, ez, -, -, -, -⟩ := zj
  rw [ez] at cj CC
  clear h hl ez hjv hn
  go_enter Tryz.func22, Tryz.ntmps22
  go_wp2_with fail
  refine CA.out.mono ?_
  rintro e w1 ⟨rfl, rfl⟩
  go_wp2_with fail
  refine CC.out.mono ?_
  rintro e w2 ⟨a, c, rfl, ho, hb2⟩
  have HO : Hid (OwnZ w1.heap.size w2 (.slice a n c) n l ∧ Below w1.heap.size w1 w2) := ⟨ho, hb2⟩
  clear ho hb2 CC CA
  go_wp2
  go_ret
  exact ⟨a, c, rfl, HO.out⟩

set_option maxRecDepth 100000 in
set_option maxHeartbeats 400000 in
theorem ohas_no (g hb S N Q A : Nat) (i : Int) (vs : List Value) (rows : List (List Int)) (w : World) (h : IsGr w g hb S N Q A vs rows) (hi : i < 0 ∨ (A : Int) ≤ i) :
    Calls Tryz.prog 22 #[.pointer (some ⟨g, 0, none⟩), .int .i64 i] w fun e w' => e = .returned (.slice none 0 0) ∧ w' = w := by
  have CA : Hid (Calls Tryz.prog 9 #[.pointer (some ⟨g, 0, none⟩)] w fun e w' => e = .returned (.int .i64 (A : Int)) ∧ w' = w) := oaux_any g hb S N Q A vs rows w h
  clear h
  by_cases h0 : i < 0
  · clear hi
    go_enter Tryz.func22, Tryz.ntmps22
    go_wp2
    go_ret
    exact ⟨rfl, rfl⟩
  · have h2 : i ≥ (A : Int) := hi.resolve_left h0
    clear hi
    go_enter Tryz.func22, Tryz.ntmps22
    go_wp2_with fail
    refine CA.out.mono ?_
    rintro e w1 ⟨rfl, rfl⟩
    go_wp2
    go_ret
    exact ⟨rfl, rfl⟩

end

section
/-
  outer: Equation; the document's Of.
-/
open Go.RowKit
set_option linter.unusedVariables false

set_option maxRecDepth 100000 in
set_option maxHeartbeats 1000000 in
/-- EQUATION: a row, and N and its number behind it. -/
theorem oeq_yes (g ro S N Q A j n : Nat) (vs : List Value) (rows : List (List Int)) (l : List Int) (w : World) (h : IsGr w g ro S N Q A vs rows) (hN : N ≤ 1048576) (hA : A ≤ 16777216) (hl : rows[j]? = some l) (hn : l.length = n) (hn2 : n ≤ 1000000) :
    Calls Tryz.prog 10 #[.pointer (some ⟨g, 0, none⟩), .int .i64 j] w fun e w' => ∃ a c, e = .returned (.slice a (n + 1) c) ∧ OwnZ w.heap.size w' (.slice a (n + 1) c) (n + 1) (l ++ [(N : Int) + (j : Int)]) ∧ Below w.heap.size w w' := by
  have hj : j < A := by
    have := (List.getElem?_eq_some_iff.1 hl).1
    rw [h.lr] at this
    exact this
  have CA : Hid (Calls Tryz.prog 9 #[.pointer (some ⟨g, 0, none⟩)] w fun e w' => e = .returned (.int .i64 (A : Int)) ∧ w' = w) := oaux_any g ro S N Q A vs rows w h
  have CH : Hid (∀ W, Below w.heap.size w W → Calls Tryz.prog 22 #[.pointer (some ⟨g, 0, none⟩), .int .i64 j] W fun e w' => ∃ v, e = .returned v ∧ IsOz w.heap.size n l v w' ∧ Below W.heap.size W w') := by
    intro W hW
    refine (ohas_yes g ro S N Q A j n vs rows l W (h.below hW) hA hl hn (by omega)).mono ?_
    rintro e w' ⟨a, c, rfl, ho, hb⟩
    exact ⟨_, rfl, ⟨a, c, rfl, ho.mono hW.size⟩, hb⟩
  have BX : Hid (∀ W, Below w.heap.size w W → W.cell? ⟨g, 0, none⟩ = some (.int .u64 (S : Int)) ∧ W.cell? ⟨g, 1, none⟩ = some (.int .i64 (N : Int))) := fun W hW => ⟨(hW.cell (cell_block_lt h.c0)).trans h.c0, (hW.cell (cell_block_lt h.c1)).trans h.c1⟩
  clear h hl hn
  have hw8 : IntKind.i64.wrap ((N : Int) + (j : Int)) = (N : Int) + (j : Int) := by rw [IntKind.wrap_i64]; omega
  go_enter Tryz.func10, Tryz.ntmps10
  go_upto_region 3 with fail
  refine CA.out.mono ?_
  rintro e w1 ⟨rfl, rfl⟩
  clear CA
  go_upto_region 3 with fail
  have hjG : ¬ A ≤ j := by omega
  refine wp_region_any (by kernel_rfl) ?_
  obtain ⟨gs, hgs⟩ : ∃ gs : List (Value → World → Prop), gs = [IsV (Value.pointer (some { block := g, off := 0 })), IsV (Value.int IntKind.i64 ↑j), IsAnyV, IsV (Value.pointer (some { block := g, off := 0 })), IsV (Value.pointer (some { block := g, off := 0 })), IsV (.pointer (some ⟨g, 1, none⟩)), IsV (.int .i64 (N : Int)), IsV (Value.int IntKind.i64 ↑j), IsV (.int .i64 ((N : Int) + (j : Int))), IsAnyV, IsAnyV, IsAnyV] := ⟨_, rfl⟩
  have g0 : Hid (gs[0]? = some (IsV (Value.pointer (some { block := g, off := 0 })))) := by unfold Hid; rw [hgs]; rfl
  have g1 : Hid (gs[1]? = some (IsV (Value.int IntKind.i64 ↑j))) := by unfold Hid; rw [hgs]; rfl
  have g2 : Hid (gs[2]? = some (IsAnyV)) := by unfold Hid; rw [hgs]; rfl
  have g3 : Hid (gs[3]? = some (IsV (Value.pointer (some { block := g, off := 0 })))) := by unfold Hid; rw [hgs]; rfl
  have g4 : Hid (gs[4]? = some (IsV (Value.pointer (some { block := g, off := 0 })))) := by unfold Hid; rw [hgs]; rfl
  have g5 : Hid (gs[5]? = some (IsV (.pointer (some ⟨g, 1, none⟩)))) := by unfold Hid; rw [hgs]; rfl
  have g6 : Hid (gs[6]? = some (IsV (.int .i64 (N : Int)))) := by unfold Hid; rw [hgs]; rfl
  have g7 : Hid (gs[7]? = some (IsV (Value.int IntKind.i64 ↑j))) := by unfold Hid; rw [hgs]; rfl
  have g8 : Hid (gs[8]? = some (IsV (.int .i64 ((N : Int) + (j : Int))))) := by unfold Hid; rw [hgs]; rfl
  have g9 : Hid (gs[9]? = some (IsAnyV)) := by unfold Hid; rw [hgs]; rfl
  have g10 : Hid (gs[10]? = some (IsAnyV)) := by unfold Hid; rw [hgs]; rfl
  have g11 : Hid (gs[11]? = some (IsAnyV)) := by unfold Hid; rw [hgs]; rfl
  have gk : Hid (∀ p ∈ gs, ∀ v (U U' : World), p v U → p v U') := by
    unfold Hid
    rw [hgs]
    simp only [List.forall_mem_cons]
    exact ⟨(fun _ _ _ h => h), (fun _ _ _ h => h), (fun _ _ _ h => h), (fun _ _ _ h => h), (fun _ _ _ h => h), (fun _ _ _ h => h), (fun _ _ _ h => h), (fun _ _ _ h => h), (fun _ _ _ h => h), (fun _ _ _ h => h), (fun _ _ _ h => h), (fun _ _ _ h => h), by simp⟩
  clear hgs
  have JS : Hid (∀ W W', Below W.heap.size W W' → (fun W => Below w1.heap.size w1 W) W → (fun W => Below w1.heap.size w1 W) W') := fun W W' hb h => h.trans (hb.mono h.size)
  have st2 : Hid (Stays (IsOz w1.heap.size n l)) := stays_oz _ _ _
  have st9 : Hid (Stays (IsZ1 ((N : Int) + (j : Int)))) := stays_z1 _
  have st10 : Hid (Stays (IsOz w1.heap.size (n + 1) (l ++ [(N : Int) + (j : Int)]))) := stays_oz _ _ _
  have st11 : Hid (Stays (IsOz w1.heap.size (n + 1) (l ++ [(N : Int) + (j : Int)]))) := stays_oz _ _ _
  refine wpAny_inv4 (fun listed ac W => ∃ xv : Nat → Value, ac = ⟨#[Value.pointer (some { block := g, off := 0 }), Value.int IntKind.i64 ↑j, undef, undef, xv 11, Value.int IntKind.i64 ↑j, Value.bool (decide (↑j < (0 : Int))), Value.bool (decide (↑j < (0 : Int))), Value.int IntKind.i64 ↑j, Value.pointer (some { block := g, off := 0 }), Value.int IntKind.i64 ↑A, Value.bool (decide (A ≤ j)), Value.bool (decide (↑j < (0 : Int)) || decide (A ≤ j)), xv 0, xv 1, xv 2, xv 3, xv 4, xv 5, xv 6, xv 7, xv 8, xv 9, xv 10], []⟩ ∧ (fun W => Below w1.heap.size w1 W) W ∧ Lst gs listed xv W ∧ Fd listed xv W 2 10 (IsOz w1.heap.size n l) ∧ Fd listed xv W 9 10 (IsZ1 ((N : Int) + (j : Int))) ∧ Fe listed xv W 10 (IsOz w1.heap.size (n + 1) (l ++ [(N : Int) + (j : Int)])) ∧ Fe listed xv W 11 (IsOz w1.heap.size (n + 1) (l ++ [(N : Int) + (j : Int)]))) (by kernel_rfl) ?_ ?_ _ _ _ _ (by kernel_rfl) (of_decide_eq_true (by kernel_rfl)) (Down.start _) ⟨fun j => if j = 11 then Value.slice none 0 0 else undef, rfl, below0 _, Lst.start _ _ _ _, Fd.start _ _ _ _ _ _, Fd.start _ _ _ _ _ _, Fe.start _ _ _ _ _, Fe.start _ _ _ _ _⟩
  · rintro listed ac W ⟨xv, rfl, hb, hG, hF2, hF9, hF10, hF11⟩ hD i hi hnl hd
    have hin : i < 12 := hi
    clear hi
    have hcase : i = 0 ∨ i = 1 ∨ i = 2 ∨ i = 3 ∨ i = 4 ∨ i = 5 ∨ i = 6 ∨ i = 7 ∨ i = 8 ∨ i = 9 ∨ i = 10 ∨ i = 11 := by omega
    rcases hcase with rfl | rfl | rfl | rfl | rfl | rfl | rfl | rfl | rfl | rfl | rfl | rfl
    · refine wpOp_step rfl (fun K' hK => ?_)
      clear hd hin hD
      go_simp
      exact hK _ _ ⟨updV xv 0 (Value.pointer (some { block := g, off := 0 })), by simp [updV, hjG], hb, hG.any gk.out g0.out _ rfl, hF2.step (fun _ h => h) (by decide) (by decide) _, hF9.step (fun _ h => h) (by decide) (by decide) _, hF10.step (fun _ h => h) (by decide) _, hF11.step (fun _ h => h) (by decide) _⟩
    · refine wpOp_step rfl (fun K' hK => ?_)
      clear hd hin hD
      go_simp
      exact hK _ _ ⟨updV xv 1 (Value.int IntKind.i64 ↑j), by simp [updV, hjG], hb, hG.any gk.out g1.out _ rfl, hF2.step (fun _ h => h) (by decide) (by decide) _, hF9.step (fun _ h => h) (by decide) (by decide) _, hF10.step (fun _ h => h) (by decide) _, hF11.step (fun _ h => h) (by decide) _⟩
    · refine wpOp_step rfl (fun K' hK => ?_)
      simp [Region.binds] at hd
      have e0 : xv 0 = Value.pointer (some { block := g, off := 0 }) := hG.get g0.out (by simp [hd])
      have e1 : xv 1 = Value.int IntKind.i64 ↑j := hG.get g1.out (by simp [hd])
      clear hd hin hD
      go_simp
      refine (CH.out W hb).mono ?_
      rintro e w' ⟨v, rfl, hv, hb'⟩
      go_wp2_with fail
      exact ⟨updV xv 2 v, by simp [updV, e0, e1, hjG], JS.out _ _ hb' hb, hG.any gk.out g2.out v trivial, Fd.new (hv), hF9.on st9.out hb' (by decide) (by decide) _, hF10.on st10.out hb' (by decide) _, hF11.on st11.out hb' (by decide) _⟩
    · refine wpOp_step rfl (fun K' hK => ?_)
      clear hd hin hD
      go_simp
      exact hK _ _ ⟨updV xv 3 (Value.pointer (some { block := g, off := 0 })), by simp [updV, hjG], hb, hG.any gk.out g3.out _ rfl, hF2.step (fun _ h => h) (by decide) (by decide) _, hF9.step (fun _ h => h) (by decide) (by decide) _, hF10.step (fun _ h => h) (by decide) _, hF11.step (fun _ h => h) (by decide) _⟩
    · refine wpOp_step rfl (fun K' hK => ?_)
      simp [Region.binds] at hd
      have e3 : xv 3 = Value.pointer (some { block := g, off := 0 }) := hG.get g3.out (by simp [hd])
      clear hd hin hD
      go_simp
      exact hK _ _ ⟨updV xv 4 (Value.pointer (some { block := g, off := 0 })), by simp [updV, e3, hjG], hb, hG.any gk.out g4.out _ rfl, hF2.step (fun _ h => h) (by decide) (by decide) _, hF9.step (fun _ h => h) (by decide) (by decide) _, hF10.step (fun _ h => h) (by decide) _, hF11.step (fun _ h => h) (by decide) _⟩
    · refine wpOp_step rfl (fun K' hK => ?_)
      simp [Region.binds] at hd
      have e4 : xv 4 = Value.pointer (some { block := g, off := 0 }) := hG.get g4.out (by simp [hd])
      clear hd hin hD
      go_simp
      exact hK _ _ ⟨updV xv 5 (.pointer (some ⟨g, 1, none⟩)), by simp [updV, e4, hjG], hb, hG.any gk.out g5.out _ rfl, hF2.step (fun _ h => h) (by decide) (by decide) _, hF9.step (fun _ h => h) (by decide) (by decide) _, hF10.step (fun _ h => h) (by decide) _, hF11.step (fun _ h => h) (by decide) _⟩
    · refine wpOp_step rfl (fun K' hK => ?_)
      simp [Region.binds] at hd
      have e5 : xv 5 = .pointer (some ⟨g, 1, none⟩) := hG.get g5.out (by simp [hd])
      obtain ⟨c0, c1⟩ := BX.out W hb
      clear hd hin hD
      go_simp
      exact hK _ _ ⟨updV xv 6 (.int .i64 (N : Int)), by simp [updV, e5, hjG], hb, hG.any gk.out g6.out _ rfl, hF2.step (fun _ h => h) (by decide) (by decide) _, hF9.step (fun _ h => h) (by decide) (by decide) _, hF10.step (fun _ h => h) (by decide) _, hF11.step (fun _ h => h) (by decide) _⟩
    · refine wpOp_step rfl (fun K' hK => ?_)
      clear hd hin hD
      go_simp
      exact hK _ _ ⟨updV xv 7 (Value.int IntKind.i64 ↑j), by simp [updV, hjG], hb, hG.any gk.out g7.out _ rfl, hF2.step (fun _ h => h) (by decide) (by decide) _, hF9.step (fun _ h => h) (by decide) (by decide) _, hF10.step (fun _ h => h) (by decide) _, hF11.step (fun _ h => h) (by decide) _⟩
    · refine wpOp_step rfl (fun K' hK => ?_)
      simp [Region.binds] at hd
      have e6 : xv 6 = .int .i64 (N : Int) := hG.get g6.out (by simp [hd])
      have e7 : xv 7 = Value.int IntKind.i64 ↑j := hG.get g7.out (by simp [hd])
      clear hd hin hD
      go_simp
      exact hK _ _ ⟨updV xv 8 (.int .i64 ((N : Int) + (j : Int))), by simp [updV, e6, e7, hjG], hb, hG.any gk.out g8.out _ rfl, hF2.step (fun _ h => h) (by decide) (by decide) _, hF9.step (fun _ h => h) (by decide) (by decide) _, hF10.step (fun _ h => h) (by decide) _, hF11.step (fun _ h => h) (by decide) _⟩
    · refine wpOp_step rfl (fun K' hK => ?_)
      simp [Region.binds] at hd
      have e8 : xv 8 = .int .i64 ((N : Int) + (j : Int)) := hG.get g8.out (by simp [hd])
      clear hd hin hD
      go_simp
      exact hK _ _ ⟨updV xv 9 (.slice (some ⟨W.heap.size, 0, none⟩) 1 1), by simp [updV, e8, hjG], JS.out _ _ (below_alloc _ _) hb, hG.any gk.out g9.out _ trivial, hF2.on st2.out (below_alloc _ _) (by decide) (by decide) _, Fd.new (zs_one _ _ _), hF10.on st10.out (below_alloc _ _) (by decide) _, hF11.on st11.out (below_alloc _ _) (by decide) _⟩
    · refine wpOp_step rfl (fun K' hK => ?_)
      simp [Region.binds] at hd
      have l2 : listed.getD 2 false = true := by simp [hd]
      have m2 := hF2.get l2 hnl
      have l9 : listed.getD 9 false = true := by simp [hd]
      have m9 := hF9.get l9 hnl
      have f11 : listed.getD 11 false = false := by
        cases hx : listed.getD 11 false with
        | false => rfl
        | true =>
          have r10 : listed.getD 10 false = true := by have h := hD 11 (by decide) hx; simp [Region.binds] at h; simp [h]
          rw [getD_false hnl] at r10; cases r10
      clear hd hin hD
      obtain ⟨a2, c2, e2, h2⟩ := m2
      refine step_addZ W rfl (.tmp 15) (.tmp 22) rfl w1.heap.size (.slice a2 n c2) n l e2 h2 _ 1 [(N : Int) + (j : Int)] rfl m9 (by omega) hb.size ?_
      intro ao cap w' hown hg hat hnc hcm
      exact hK _ _ ⟨updV xv 10 (.slice ao (n + 1) cap), by simp [updV, Act.put], hb.grown hg hb.size (fun k hk => (h2.lt k hk).1), hG.any gk.out g10.out _ trivial, Fd.off hnl, Fd.off hnl, Fe.new (⟨ao, cap, rfl, hown⟩), Fe.yet f11 (by decide) _⟩
    · refine wpOp_step rfl (fun K' hK => ?_)
      simp [Region.binds] at hd
      have l10 : listed.getD 10 false = true := by simp [hd]
      have m10 := hF10 l10
      clear hd hin hD
      go_simp
      exact hK _ _ ⟨updV xv 11 (xv 10), by simp [updV, hjG], hb, hG.any gk.out g11.out _ trivial, hF2.step (fun _ h => h) (by decide) (by decide) _, hF9.step (fun _ h => h) (by decide) (by decide) _, hF10.step (fun _ h => h) (by decide) _, Fe.new (m10)⟩
  · rintro listed ac W ⟨xv, rfl, hb, hG, hF2, hF9, hF10, hF11⟩ hall
    have m11 : Hid ((IsOz w1.heap.size (n + 1) (l ++ [(N : Int) + (j : Int)])) (xv 11) W) := hF11 (hall 11 (by decide))
    have XW : Hid ((fun W => Below w1.heap.size w1 W) W) := hb
    clear hall hG hb gk JS g0 g1 g2 g3 g4 g5 g6 g7 g8 g9 g10 g11 hF2 st2 hF9 st9 hF10 st10 hF11 st11
    obtain ⟨a, c, e11, ho⟩ := m11.out
    rw [e11]
    clear m11 e11
    have HO : Hid (OwnZ w1.heap.size W (.slice a (n + 1) c) (n + 1) (l ++ [(N : Int) + (j : Int)])) := ho
    clear ho
    go_wp2
    go_ret
    exact ⟨a, c, rfl, HO.out, XW.out⟩

set_option maxRecDepth 100000 in
set_option maxHeartbeats 400000 in
theorem oeq_no (g ro S N Q A : Nat) (i : Int) (vs : List Value) (rows : List (List Int)) (w : World) (h : IsGr w g ro S N Q A vs rows) (hi : i < 0 ∨ (A : Int) ≤ i) :
    Calls Tryz.prog 10 #[.pointer (some ⟨g, 0, none⟩), .int .i64 i] w fun e w' => e = .returned (.slice none 0 0) ∧ w' = w := by
  have CA : Hid (Calls Tryz.prog 9 #[.pointer (some ⟨g, 0, none⟩)] w fun e w' => e = .returned (.int .i64 (A : Int)) ∧ w' = w) := oaux_any g ro S N Q A vs rows w h
  clear h
  by_cases h0 : i < 0
  · clear hi
    go_enter Tryz.func10, Tryz.ntmps10
    go_wp2
    go_ret
    exact ⟨rfl, rfl⟩
  · have h2 : i ≥ (A : Int) := hi.resolve_left h0
    clear hi
    go_enter Tryz.func10, Tryz.ntmps10
    go_wp2_with fail
    refine CA.out.mono ?_
    rintro e w1 ⟨rfl, rfl⟩
    go_wp2
    go_ret
    exact ⟨rfl, rfl⟩

theorem PrOk.ok {N B Q E F : Int} {n q A : Nat} (h : PrOk N B Q E F n q A) {S : Nat} (hS : S < 18446744073709551616) : GrOk S n q A := by
  obtain ⟨h1, h2, h3, h4, h5, h6⟩ := h.may
  have r := aux_range h1 h3 h4
  have e1 := h.en
  have e2 := h.eq
  have e3 := h.ea
  exact ⟨hS, by omega, by omega, by omega, by omega, by omega, by omega⟩


end

section
/-
  outer: which message blocks each auxiliary one has, put in one by one; the graph while it is built.
-/
open Go.RowKit
set_option linter.unusedVariables false

/-- A message block is put to an auxiliary one. -/
def addTo (rows : List (List Int)) (x : Nat) (m : Int) : List (List Int) := rows.set x (rows.getD x [] ++ [m])
/-- .. to all that are told. -/
def addAll (rows : List (List Int)) (l : List Int) (m : Int) : List (List Int) := l.foldl (fun rs x => addTo rs x.toNat m) rows
/-- What each has, behind m message blocks. -/
def hasR (S A Q : Nat) : Nat → List (List Int)
  | 0 => List.replicate A []
  | m + 1 => addAll (hasR S A Q m) (ofD S A Q m) m

theorem addTo_length (rows : List (List Int)) (x : Nat) (m : Int) : (addTo rows x m).length = rows.length := by simp [addTo]
theorem addAll_length (l : List Int) (m : Int) : ∀ rows : List (List Int), (addAll rows l m).length = rows.length := by
  induction l with
  | nil => intro rows; rfl
  | cons x l ih =>
    intro rows
    show (addAll (addTo rows x.toNat m) l m).length = _
    rw [ih, addTo_length]
theorem hasR_length (S A Q m : Nat) : (hasR S A Q m).length = A := by
  induction m with
  | zero => simp [hasR]
  | succ m ih => unfold hasR; rw [addAll_length, ih]

theorem addAll_take {rows : List (List Int)} {l : List Int} {k x : Nat} (m : Int) (hk : k < l.length) (hx : l[k] = (x : Int)) : addAll rows (l.take (k + 1)) m = addTo (addAll rows (l.take k) m) x m := by
  rw [List.take_succ_eq_append_getElem hk, hx]
  unfold addAll
  rw [List.foldl_append]
  simp

theorem addTo_at {rows : List (List Int)} {x : Nat} {r : List Int} (h : rows[x]? = some r) (m : Int) : addTo rows x m = rows.set x (r ++ [m]) := by
  unfold addTo
  rw [List.getD_eq_getElem?_getD, h]
  rfl

/-- All rows have at most so many. -/
def Short (c : Nat) (rows : List (List Int)) : Prop := ∀ (i : Nat) (l : List Int), rows[i]? = some l → l.length ≤ c
theorem short_start (A : Nat) : Short 0 (List.replicate A []) := by
  intro i l h
  rw [List.getElem?_replicate] at h
  split at h
  · obtain rfl := Option.some.inj h
    exact Nat.le_refl _
  · cases h
theorem Short.add {c : Nat} {rows : List (List Int)} (h : Short c rows) {x : Nat} {r : List Int} (hr : rows[x]? = some r) (m : Int) : Short (c + 1) (addTo rows x m) := by
  intro i l hl
  rw [addTo_at hr] at hl
  by_cases e : x = i
  · subst e
    have hx : x < rows.length := (List.getElem?_eq_some_iff.1 hr).1
    rw [List.getElem?_set_self hx] at hl
    obtain rfl := Option.some.inj hl
    have := h x r hr
    simp
    omega
  · rw [List.getElem?_set_ne e] at hl
    have := h i l hl
    omega
theorem Short.mono {c d : Nat} {rows : List (List Int)} (h : Short c rows) (hd : c ≤ d) : Short d rows := fun i l hl => Nat.le_trans (h i l hl) hd

theorem ofD_mem {S A Q i : Nat} {x : Int} (h : x ∈ ofD S A Q i) : 0 ≤ x ∧ x < A := someD_mem h
theorem ofD_rises (S A Q i : Nat) : (ofD S A Q i).Pairwise (· < ·) := someD_rises _ _ _


theorem own_cells {B : Nat} {w : World} {v : Value} {n : Nat} {l : List Int} (h : OwnZ B w v n l) {q : Nat} (hq : v.ownBlock = some q) : ∃ cur, w.heap[q]? = some (.cells cur 3 (0, 0)) := by
  rcases h.2 with ⟨hv, _⟩ | ⟨g, cap, cur, hv, _, hh, _⟩
  · rw [hv] at hq
    cases hq
  · rw [hv] at hq
    obtain rfl := Option.some.inj hq
    exact ⟨cur, hh⟩

/-- A graph while it is built: each row is its own. -/
structure GrB (w W : World) (g ro S N Q A : Nat) (cs vs : List Value) (rows : List (List Int)) : Prop where
  gc : W.heap[g]? = some (.cells #[.int .u64 (S : Int), .int .i64 (N : Int), .int .i64 (Q : Int), .slice (some ⟨ro, 0, none⟩) A A] 74 (0, 0))
  hc : W.heap[ro]? = some (.cells cs.toArray 29 (0, 0))
  lc : cs.length = A
  lv : vs.length = A
  lr : rows.length = A
  own : ∀ (i : Nat) (v : Value) (l : List Int), vs[i]? = some v → rows[i]? = some l → OwnZ w.heap.size W v l.length l
  ap : ∀ (i j : Nat) (v u : Value) (q : Nat), i ≠ j → vs[i]? = some v → vs[j]? = some u → v.ownBlock = some q → u.ownBlock ≠ some q
  bel : Below w.heap.size w W
  gB : w.heap.size ≤ g
  hB : w.heap.size ≤ ro

section
variable {w W W' : World} {g ro S N Q A : Nat} {cs vs : List Value} {rows : List (List Int)}

theorem GrB.lt_g (h : GrB w W g ro S N Q A cs vs rows) : g < W.heap.size := (Array.getElem?_eq_some_iff.1 h.gc).1
theorem GrB.lt_ro (h : GrB w W g ro S N Q A cs vs rows) : ro < W.heap.size := (Array.getElem?_eq_some_iff.1 h.hc).1

theorem GrB.below (h : GrB w W g ro S N Q A cs vs rows) (b : Below W.heap.size W W') : GrB w W' g ro S N Q A cs vs rows :=
  ⟨(b.block g h.lt_g).trans h.gc, (b.block ro h.lt_ro).trans h.hc, h.lc, h.lv, h.lr, fun i v l hv hl => (h.own i v l hv hl).below b, h.ap, h.bel.trans (b.mono h.bel.size), h.gB, h.hB⟩

theorem GrB.row (h : GrB w W g ro S N Q A cs vs rows) {i : Nat} {v : Value} (hv : vs[i]? = some v) : ∃ l, rows[i]? = some l := by
  have hi : i < vs.length := (List.getElem?_eq_some_iff.1 hv).1
  exact ⟨_, List.getElem?_eq_getElem (by rw [h.lr, ← h.lv]; exact hi)⟩

theorem GrB.ne_g (h : GrB w W g ro S N Q A cs vs rows) {i : Nat} {v : Value} (hv : vs[i]? = some v) : v.ownBlock ≠ some g := by
  intro e
  obtain ⟨l, hl⟩ := h.row hv
  obtain ⟨cur, hh⟩ := own_cells (h.own i v l hv hl) e
  rw [h.gc] at hh
  injection hh with hh
  injection hh with _ hh _
  exact absurd hh (by decide)

theorem GrB.ne_ro (h : GrB w W g ro S N Q A cs vs rows) {i : Nat} {v : Value} (hv : vs[i]? = some v) : v.ownBlock ≠ some ro := by
  intro e
  obtain ⟨l, hl⟩ := h.row hv
  obtain ⟨cur, hh⟩ := own_cells (h.own i v l hv hl) e
  rw [h.hc] at hh
  injection hh with hh
  injection hh with _ hh _
  exact absurd hh (by decide)

theorem GrB.g_ne (h : GrB w W g ro S N Q A cs vs rows) : g ≠ ro := by
  intro e
  have h1 := h.gc
  rw [e, h.hc] at h1
  injection h1 with h1
  injection h1 with _ h1 _
  exact absurd h1 (by decide)

theorem GrB.isGr (h : GrB w W g ro S N Q A vs vs rows) : IsGr W g ro S N Q A vs rows := by
  refine ⟨by simp [World.cell?, h.gc], by simp [World.cell?, h.gc], by simp [World.cell?, h.gc], by simp [World.cell?, h.gc], h.lv, h.lr, ?_, fun i v l hv hl => (h.own i v l hv hl).zs⟩
  intro i v hv
  simp [World.cell?, h.hc, hv]

theorem GrB.cell (h : GrB w W g ro S N Q A cs vs rows) {i : Nat} {v : Value} (hv : cs[i]? = some v) : W.cell? ⟨ro, i, none⟩ = some v := by
  simp [World.cell?, h.hc, hv]
theorem GrB.free (h : GrB w W g ro S N Q A cs vs rows) (i : Nat) : W.frozen? ⟨ro, i, none⟩ = false := by
  simp [World.frozen?, h.hc]

/-- A row grows. -/
theorem GrB.grow (h : GrB w W g ro S N Q A cs vs rows) {j : Nat} {v v' : Value} {l l' : List Int} (hv : vs[j]? = some v) (hl : rows[j]? = some l) (hg : W.grownBy W' v.ownBlock) (ho : OwnZ w.heap.size W' v' l'.length l') (hat : v'.ownBlock = v.ownBlock ∨ v'.ownBlock = some W.heap.size) :
    GrB w W' g ro S N Q A cs (vs.set j v') (rows.set j l') := by
  have hj : j < vs.length := (List.getElem?_eq_some_iff.1 hv).1
  have hjr : j < rows.length := (List.getElem?_eq_some_iff.1 hl).1
  refine ⟨(hg.block g h.lt_g (fun e => h.ne_g hv e.symm)).trans h.gc, (hg.block ro h.lt_ro (fun e => h.ne_ro hv e.symm)).trans h.hc, h.lc, by rw [List.length_set]; exact h.lv, by rw [List.length_set]; exact h.lr, ?_, ?_,
    h.bel.grown hg h.bel.size (fun k hk => ((h.own j v l hv hl).lt k hk).1), h.gB, h.hB⟩
  · intro i u m hu hm
    by_cases e : j = i
    · subst e
      rw [List.getElem?_set_self hj] at hu
      rw [List.getElem?_set_self hjr] at hm
      obtain rfl := Option.some.inj hu
      obtain rfl := Option.some.inj hm
      exact ho
    · rw [List.getElem?_set_ne e] at hu hm
      have hO := h.own i u m hu hm
      exact hO.kept (fun q hq => hg.block q (hO.lt q hq).2 (fun e2 => h.ap j i v u q e hv hu e2.symm hq))
  · intro a b x y q hne hx hy hq
    have key : ∀ (i : Nat) (u : Value), i ≠ j → vs[i]? = some u → u.ownBlock = some q → v'.ownBlock ≠ some q := by
      intro i u hi hu hq' e
      rcases hat with h1 | h1
      · exact h.ap i j u v q hi hu hv hq' (by rw [← h1]; exact e)
      · obtain ⟨m, hm⟩ := h.row hu
        have := ((h.own i u m hu hm).lt q hq').2
        rw [h1] at e
        injection e with e
        omega
    by_cases ha : j = a
    · subst ha
      rw [List.getElem?_set_self hj] at hx
      obtain rfl := Option.some.inj hx
      rw [List.getElem?_set_ne hne] at hy
      intro e
      exact key b y (Ne.symm hne) hy e hq
    · rw [List.getElem?_set_ne ha] at hx
      by_cases hb : j = b
      · subst hb
        rw [List.getElem?_set_self hj] at hy
        obtain rfl := Option.some.inj hy
        exact key a x (Ne.symm ha) hx hq
      · rw [List.getElem?_set_ne hb] at hy
        exact h.ap a b x y q hne hx hy hq

/-- A row's slice is stored. -/
theorem GrB.store (h : GrB w W g ro S N Q A cs vs rows) (j : Nat) (u : Value) : GrB w (W.setCell ⟨ro, j, none⟩ u) g ro S N Q A (cs.set j u) vs rows := by
  have key : ∀ k, k ≠ ro → (W.setCell ⟨ro, j, none⟩ u).heap[k]? = W.heap[k]? := fun k hk => Below.heap_setCell _ _ _ _ hk
  refine ⟨(key g h.g_ne).trans h.gc, heap_setCell_at h.hc u, by rw [List.length_set]; exact h.lc, h.lv, h.lr, ?_, h.ap, h.bel.setCell h.hB _, h.gB, h.hB⟩
  intro i v l hv hl
  exact (h.own i v l hv hl).kept (fun q hq => key q (fun e => h.ne_ro hv (by rw [hq, e])))

end

end

section
/-
  outer: New.
-/
open Go.RowKit
set_option linter.unusedVariables false

theorem Tryz.infoRow : (Tryz.prog.info? 29).map (fun i => (i.zero, i.size, i.bytes)) = some (some (.slice none 0 0), 1, 24) := by kernel_rfl


/-- A row of nil slices. -/
def nils (A : Nat) : List Value := List.replicate A (.slice none 0 0)
def IsNl (B A : Nat) : Value → World → Prop := fun v W => ∃ ro, v = .slice (some ⟨ro, 0, none⟩) A A ∧ B ≤ ro ∧ W.heap[ro]? = some (.cells (nils A).toArray 29 (0, 0))
theorem stays_nl (B A : Nat) : Stays (IsNl B A) := fun _ _ _ hb ⟨ro, h1, h2, h3⟩ => ⟨ro, h1, h2, heap_stays hb h3⟩
def IsGa (B S N Q A : Nat) : Value → World → Prop := fun v W => ∃ ro, v = .agg #[.int .u64 (S : Int), .int .i64 (N : Int), .int .i64 (Q : Int), .slice (some ⟨ro, 0, none⟩) A A] ∧ B ≤ ro ∧ W.heap[ro]? = some (.cells (nils A).toArray 29 (0, 0))
theorem stays_ga (B S N Q A : Nat) : Stays (IsGa B S N Q A) := fun _ _ _ hb ⟨ro, h1, h2, h3⟩ => ⟨ro, h1, h2, heap_stays hb h3⟩
def IsGp (B S N Q A : Nat) : Value → World → Prop := fun v W => ∃ g ro, v = .pointer (some ⟨g, 0, none⟩) ∧ B ≤ g ∧ B ≤ ro ∧ W.heap[g]? = some (.cells #[.int .u64 (S : Int), .int .i64 (N : Int), .int .i64 (Q : Int), .slice (some ⟨ro, 0, none⟩) A A] 74 (0, 0)) ∧ W.heap[ro]? = some (.cells (nils A).toArray 29 (0, 0))
theorem stays_gp (B S N Q A : Nat) : Stays (IsGp B S N Q A) := fun _ _ _ hb ⟨g, ro, h1, h2, h3, h4, h5⟩ => ⟨g, ro, h1, h2, h3, heap_stays hb h4, heap_stays hb h5⟩

theorem made_nils {w2 : World} {base q n : Nat} (ho : w2.ownsRow base 29 1 (.slice (some ⟨q, 0, none⟩) n n) n (madeCells (Value.slice none 0 0).cells (n * 1)).toList) : w2.heap[q]? = some (.cells (nils n).toArray 29 (0, 0)) := by
  simp only [Value.cells, Nat.mul_one, toList_madeCells_one] at ho
  rcases ho.2 with ⟨hv, _⟩ | ⟨g, cap, cur, hv, _, hh, _, _, hcs, htake⟩
  · cases hv
  · injection hv with e1 _ e3
    injection e1 with e1
    injection e1 with e1 _ _
    subst e1; subst e3
    rw [hh]
    have hl : cur.toList.length = n := by rw [Array.length_toList, hcs, Nat.mul_one]
    have : cur.toList = nils n := by
      rw [← List.take_of_length_le (l := cur.toList) (i := n * 1) (by omega), htake]
      rfl
    rw [← this]

/-- The graph while it is built, and a list of one's own beside it. -/
structure GL (w W : World) (g ro S N Q A : Nat) (cs vs : List Value) (rows : List (List Int)) (lv : Value) (ln : Nat) (l : List Int) : Prop where
  b : GrB w W g ro S N Q A cs vs rows
  o : OwnZ w.heap.size W lv ln l
  ap : ∀ (i : Nat) (v : Value) (q : Nat), vs[i]? = some v → v.ownBlock = some q → lv.ownBlock ≠ some q

section
variable {w W W' : World} {g ro S N Q A : Nat} {cs vs : List Value} {rows : List (List Int)} {lv : Value} {ln : Nat} {l : List Int}

theorem GL.below (h : GL w W g ro S N Q A cs vs rows lv ln l) (b : Below W.heap.size W W') : GL w W' g ro S N Q A cs vs rows lv ln l := ⟨h.b.below b, h.o.below b, h.ap⟩

theorem GL.grow (h : GL w W g ro S N Q A cs vs rows lv ln l) {j : Nat} {v v' : Value} {r r' : List Int} (hv : vs[j]? = some v) (hl : rows[j]? = some r) (hg : W.grownBy W' v.ownBlock) (ho : OwnZ w.heap.size W' v' r'.length r') (hat : v'.ownBlock = v.ownBlock ∨ v'.ownBlock = some W.heap.size) :
    GL w W' g ro S N Q A cs (vs.set j v') (rows.set j r') lv ln l := by
  refine ⟨h.b.grow hv hl hg ho hat, h.o.kept (fun q hq => hg.block q (h.o.lt q hq).2 (fun e => h.ap j v q hv e.symm hq)), ?_⟩
  intro i u q hu hq
  have hj : j < vs.length := (List.getElem?_eq_some_iff.1 hv).1
  by_cases e : j = i
  · subst e
    rw [List.getElem?_set_self hj] at hu
    obtain rfl := Option.some.inj hu
    rcases hat with h1 | h1
    · exact h.ap j v q hv (by rw [← h1]; exact hq)
    · intro e2
      have := (h.o.lt q e2).2
      rw [hq] at h1
      injection h1 with h1
      omega
  · rw [List.getElem?_set_ne e] at hu
    exact h.ap i u q hu hq

theorem GL.store (h : GL w W g ro S N Q A cs vs rows lv ln l) (j : Nat) (u : Value) : GL w (W.setCell ⟨ro, j, none⟩ u) g ro S N Q A (cs.set j u) vs rows lv ln l := by
  refine ⟨h.b.store j u, h.o.kept (fun q hq => Below.heap_setCell _ _ _ _ (fun e => ?_)), h.ap⟩
  obtain ⟨cur, hh⟩ := own_cells h.o hq
  have e' : q = ro := e
  rw [e', h.b.hc] at hh
  injection hh with hh
  injection hh with _ hh _
  exact absurd hh (by decide)
end

theorem grb_start {w W : World} {g ro S N Q A : Nat} (hw : Below w.heap.size w W) (h1 : w.heap.size ≤ g) (h2 : w.heap.size ≤ ro) (h3 : W.heap[g]? = some (.cells #[.int .u64 (S : Int), .int .i64 (N : Int), .int .i64 (Q : Int), .slice (some ⟨ro, 0, none⟩) A A] 74 (0, 0))) (h4 : W.heap[ro]? = some (.cells (nils A).toArray 29 (0, 0))) :
    GrB w W g ro S N Q A (nils A) (nils A) (hasR S A Q 0) := by
  refine ⟨h3, h4, by simp [nils], by simp [nils], by simp [hasR], ?_, ?_, hw, h1, h2⟩
  · intro i v l hv hl
    unfold nils at hv
    rw [List.getElem?_replicate] at hv
    unfold hasR at hl
    rw [List.getElem?_replicate] at hl
    by_cases hi : i < A
    · rw [if_pos hi] at hv hl
      obtain rfl := Option.some.inj hv
      obtain rfl := Option.some.inj hl
      exact OwnZ.nil _ _
    · rw [if_neg hi] at hv
      cases hv
  · intro i j v u q _ hv _ hq
    unfold nils at hv
    rw [List.getElem?_replicate] at hv
    split at hv
    · obtain rfl := Option.some.inj hv
      cases hq
    · cases hv

def JG (g ro S N Q A : Nat) (W : World) : Prop := W.heap[g]? = some (.cells #[.int .u64 (S : Int), .int .i64 (N : Int), .int .i64 (Q : Int), .slice (some ⟨ro, 0, none⟩) A A] 74 (0, 0))
theorem JG.c3 {g ro S N Q A : Nat} {W : World} (h : JG g ro S N Q A W) : W.cell? ⟨g, 3, none⟩ = some (.slice (some ⟨ro, 0, none⟩) A A) := by
  unfold JG at h
  simp [World.cell?, h]

def IsRw (w : World) (g ro S N Q A : Nat) (cs vs : List Value) (rows : List (List Int)) (lv : Value) (ln : Nat) (l : List Int) (x rn : Nat) (r : List Int) : Value → World → Prop :=
  fun v W => ∃ a c, v = .slice a rn c ∧ GL w W g ro S N Q A cs (vs.set x v) (rows.set x r) lv ln l
theorem stays_rw (w : World) (g ro S N Q A : Nat) (cs vs : List Value) (rows : List (List Int)) (lv : Value) (ln : Nat) (l : List Int) (x rn : Nat) (r : List Int) : Stays (IsRw w g ro S N Q A cs vs rows lv ln l x rn r) :=
  fun _ _ _ hb ⟨a, c, h1, h2⟩ => ⟨a, c, h1, h2.below hb⟩
def IsDn (w : World) (g ro S N Q A : Nat) (rows : List (List Int)) (lv : Value) (ln : Nat) (l : List Int) : Value → World → Prop := fun _ W => ∃ vs, GL w W g ro S N Q A vs vs rows lv ln l
theorem stays_dn (w : World) (g ro S N Q A : Nat) (rows : List (List Int)) (lv : Value) (ln : Nat) (l : List Int) : Stays (IsDn w g ro S N Q A rows lv ln l) := fun _ _ _ hb ⟨vs, h⟩ => ⟨vs, h.below hb⟩

set_option maxRecDepth 100000 in
set_option maxHeartbeats 1000000 in
theorem onew_no (N B Q E F : Int) (S : Int) (w : World) (h : ¬ May N B Q E F) :
    Calls Tryz.prog 8 #[.agg #[.int .i64 N, .int .i64 B, .int .i64 Q, .int .i64 E, .int .i64 F], .int .u64 S] w fun e w' => e = .returned (.tuple #[.pointer none, .int .i64 1]) ∧ Below w.heap.size w w' := by
  have CC : Hid (∀ W, Calls Tryz.prog 23 #[.agg #[.int .i64 N, .int .i64 B, .int .i64 Q, .int .i64 E, .int .i64 F]] W fun e w' => e = .returned (.int .i64 1) ∧ Below W.heap.size W w') := by
    intro W
    have := pcheck_any N B Q E F W
    rw [mayE_no h] at this
    exact this
  clear h
  go_enter Tryz.func8, Tryz.ntmps8
  go_wp2_with fail
  refine (CC.out _).mono ?_
  rintro e w1 ⟨rfl, hb⟩
  have HB : Hid (Below w.heap.size w w1) := below_on (below_alloc _ _) hb
  clear hb CC
  go_wp2
  go_ret2
  exact ⟨rfl, HB.out⟩

set_option maxRecDepth 100000 in
set_option maxHeartbeats 4000000 in
/-- NEW. -/
theorem onew_own (B E F : Int) (N Q A S : Nat) (w : World) (h : PrOk N B Q E F N Q A) (hS : S < 18446744073709551616) :
    Calls Tryz.prog 8 #[.agg #[.int .i64 N, .int .i64 B, .int .i64 Q, .int .i64 E, .int .i64 F], .int .u64 S] w fun e w' => ∃ g ro vs, e = .returned (.tuple #[.pointer (some ⟨g, 0, none⟩), .int .i64 0]) ∧ GrB w w' g ro S N Q A vs vs (hasR S A Q N) := by
  obtain ⟨i0, hi0, hz0, hz1, hz2⟩ := info_parts Tryz.infoRow
  have OK : Hid (GrOk S N Q A) := h.ok hS
  have hA := OK.out.a
  have hN := OK.out.n
  have hQ := OK.out.q
  have CC : Hid (∀ W, Calls Tryz.prog 23 #[.agg #[.int .i64 N, .int .i64 B, .int .i64 Q, .int .i64 E, .int .i64 F]] W fun e w' => e = .returned (.int .i64 0) ∧ Below W.heap.size W w') := by
    intro W
    have := pcheck_any N B Q E F W
    rw [mayE_yes h.may] at this
    exact this
  have CA : Hid (∀ W, Calls Tryz.prog 24 #[.agg #[.int .i64 N, .int .i64 B, .int .i64 Q, .int .i64 E, .int .i64 F]] W fun e w' => e = .returned (.int .i64 (A : Int)) ∧ Below W.heap.size W w') := by
    intro W
    have := aux_any N B Q E F W h.may.1 h.may.2.2.1 h.may.2.2.2.1
    rw [h.ea] at this
    exact this
  clear h hS
  go_enter Tryz.func8, Tryz.ntmps8
  go_upto_region 4 with fail
  refine (CC.out _).mono ?_
  rintro e w1 ⟨rfl, hb1⟩
  have B1 : Hid (Below w.heap.size w w1) := below_on (below_alloc _ _) hb1
  have P1 : Hid (Five w1 w.heap.size N B Q E F) := (five_new w _ _ _ _ _ _).below hb1
  have BX : Hid (∀ W, Below w1.heap.size w1 W → Five W w.heap.size N B Q E F) := fun W hW => P1.out.below hW
  have CX : Hid (∀ W, Below w1.heap.size w1 W → Calls Tryz.prog 24 #[.agg #[.int .i64 N, .int .i64 B, .int .i64 Q, .int .i64 E, .int .i64 F]] W fun e w' => ∃ v, e = .returned v ∧ IsV (.int .i64 (A : Int)) v w' ∧ Below W.heap.size W w') := by
    intro W _
    refine (CA.out W).mono ?_
    rintro e w' ⟨rfl, hb⟩
    exact ⟨_, rfl, rfl, hb⟩
  clear hb1 CC CA
  go_upto_region 4 with fail
  refine wp_region_any (by kernel_rfl) ?_
  obtain ⟨gs, hgs⟩ : ∃ gs : List (Value → World → Prop), gs = [IsV (Value.int IntKind.u64 ↑S), IsV (.pointer (some ⟨w.heap.size, 0, none⟩)), IsV (.int .i64 (N : Int)), IsV (.pointer (some ⟨w.heap.size, 2, none⟩)), IsV (.int .i64 (Q : Int)), IsV (.agg #[.int .i64 (N : Int), .int .i64 B, .int .i64 (Q : Int), .int .i64 E, .int .i64 F]), IsV (.int .i64 (A : Int)), IsAnyV, IsAnyV, IsAnyV, IsAnyV] := ⟨_, rfl⟩
  have g0 : Hid (gs[0]? = some (IsV (Value.int IntKind.u64 ↑S))) := by unfold Hid; rw [hgs]; rfl
  have g1 : Hid (gs[1]? = some (IsV (.pointer (some ⟨w.heap.size, 0, none⟩)))) := by unfold Hid; rw [hgs]; rfl
  have g2 : Hid (gs[2]? = some (IsV (.int .i64 (N : Int)))) := by unfold Hid; rw [hgs]; rfl
  have g3 : Hid (gs[3]? = some (IsV (.pointer (some ⟨w.heap.size, 2, none⟩)))) := by unfold Hid; rw [hgs]; rfl
  have g4 : Hid (gs[4]? = some (IsV (.int .i64 (Q : Int)))) := by unfold Hid; rw [hgs]; rfl
  have g5 : Hid (gs[5]? = some (IsV (.agg #[.int .i64 (N : Int), .int .i64 B, .int .i64 (Q : Int), .int .i64 E, .int .i64 F]))) := by unfold Hid; rw [hgs]; rfl
  have g6 : Hid (gs[6]? = some (IsV (.int .i64 (A : Int)))) := by unfold Hid; rw [hgs]; rfl
  have g7 : Hid (gs[7]? = some (IsAnyV)) := by unfold Hid; rw [hgs]; rfl
  have g8 : Hid (gs[8]? = some (IsAnyV)) := by unfold Hid; rw [hgs]; rfl
  have g9 : Hid (gs[9]? = some (IsAnyV)) := by unfold Hid; rw [hgs]; rfl
  have g10 : Hid (gs[10]? = some (IsAnyV)) := by unfold Hid; rw [hgs]; rfl
  have gk : Hid (∀ p ∈ gs, ∀ v (U U' : World), p v U → p v U') := by
    unfold Hid
    rw [hgs]
    simp only [List.forall_mem_cons]
    exact ⟨(fun _ _ _ h => h), (fun _ _ _ h => h), (fun _ _ _ h => h), (fun _ _ _ h => h), (fun _ _ _ h => h), (fun _ _ _ h => h), (fun _ _ _ h => h), (fun _ _ _ h => h), (fun _ _ _ h => h), (fun _ _ _ h => h), (fun _ _ _ h => h), by simp⟩
  clear hgs
  have JS : Hid (∀ W W', Below W.heap.size W W' → (fun W => Below w1.heap.size w1 W) W → (fun W => Below w1.heap.size w1 W) W') := fun W W' hb h => h.trans (hb.mono h.size)
  have st7 : Hid (Stays (IsNl w1.heap.size A)) := stays_nl _ _
  have st8 : Hid (Stays (IsGa w1.heap.size S N Q A)) := stays_ga _ _ _ _ _
  have st9 : Hid (Stays (IsGp w1.heap.size S N Q A)) := stays_gp _ _ _ _ _
  have st10 : Hid (Stays (IsGp w1.heap.size S N Q A)) := stays_gp _ _ _ _ _
  refine wpAny_inv4 (fun listed ac W => ∃ xv : Nat → Value, ac = ⟨#[Value.agg #[Value.int IntKind.i64 ↑N, Value.int IntKind.i64 B, Value.int IntKind.i64 ↑Q, Value.int IntKind.i64 E, Value.int IntKind.i64 F], Value.int IntKind.u64 ↑S, Value.pointer (some { block := w.heap.size, off := 0 }), undef, Value.pointer none, Value.int IntKind.i64 (0 : Int), Value.int IntKind.i64 (0 : Int), xv 10, undef, undef, undef, Value.agg #[Value.int IntKind.i64 ↑N, Value.int IntKind.i64 B, Value.int IntKind.i64 ↑Q, Value.int IntKind.i64 E, Value.int IntKind.i64 F], Value.int IntKind.i64 (0 : Int), Value.int IntKind.i64 (0 : Int), Value.bool false, undef, xv 0, xv 1, xv 2, xv 3, xv 4, xv 5, xv 6, xv 7, xv 8, xv 9, undef, undef, undef, undef, undef, undef, undef, undef, undef, undef, undef, undef, undef, undef, undef, undef, undef, undef, undef, undef, undef, undef, undef, undef, undef, undef, undef, undef, undef, undef, undef, undef], []⟩ ∧ (fun W => Below w1.heap.size w1 W) W ∧ Lst gs listed xv W ∧ Fe listed xv W 7 (IsNl w1.heap.size A) ∧ Fe listed xv W 8 (IsGa w1.heap.size S N Q A) ∧ Fe listed xv W 9 (IsGp w1.heap.size S N Q A) ∧ Fe listed xv W 10 (IsGp w1.heap.size S N Q A)) (by kernel_rfl) ?_ ?_ _ _ _ _ (by kernel_rfl) (of_decide_eq_true (by kernel_rfl)) (Down.start _) ⟨fun jx => undef, rfl, below0 _, Lst.start _ _ _ _, Fe.start _ _ _ _ _, Fe.start _ _ _ _ _, Fe.start _ _ _ _ _, Fe.start _ _ _ _ _⟩
  · rintro listed ac W ⟨xv, rfl, hb, hG, hF7, hF8, hF9, hF10⟩ hD i hi hnl hd
    have hin : i < 11 := hi
    clear hi
    have hcase : i = 0 ∨ i = 1 ∨ i = 2 ∨ i = 3 ∨ i = 4 ∨ i = 5 ∨ i = 6 ∨ i = 7 ∨ i = 8 ∨ i = 9 ∨ i = 10 := by omega
    rcases hcase with rfl | rfl | rfl | rfl | rfl | rfl | rfl | rfl | rfl | rfl | rfl
    · refine wpOp_step rfl (fun K' hK => ?_)
      clear hd hin hD
      go_simp
      exact hK _ _ ⟨updV xv 0 (Value.int IntKind.u64 ↑S), by simp [updV], hb, hG.any gk.out g0.out _ rfl, hF7.step (fun _ h => h) (by decide) _, hF8.step (fun _ h => h) (by decide) _, hF9.step (fun _ h => h) (by decide) _, hF10.step (fun _ h => h) (by decide) _⟩
    · refine wpOp_step rfl (fun K' hK => ?_)
      clear hd hin hD
      go_simp
      exact hK _ _ ⟨updV xv 1 (.pointer (some ⟨w.heap.size, 0, none⟩)), by simp [updV], hb, hG.any gk.out g1.out _ rfl, hF7.step (fun _ h => h) (by decide) _, hF8.step (fun _ h => h) (by decide) _, hF9.step (fun _ h => h) (by decide) _, hF10.step (fun _ h => h) (by decide) _⟩
    · refine wpOp_step rfl (fun K' hK => ?_)
      simp [Region.binds] at hd
      have e1 : xv 1 = .pointer (some ⟨w.heap.size, 0, none⟩) := hG.get g1.out (by simp [hd])
      obtain ⟨c0, c1, c2, c3, c4⟩ := BX.out W hb
      clear hd hin hD
      go_simp
      exact hK _ _ ⟨updV xv 2 (.int .i64 (N : Int)), by simp [updV, e1], hb, hG.any gk.out g2.out _ rfl, hF7.step (fun _ h => h) (by decide) _, hF8.step (fun _ h => h) (by decide) _, hF9.step (fun _ h => h) (by decide) _, hF10.step (fun _ h => h) (by decide) _⟩
    · refine wpOp_step rfl (fun K' hK => ?_)
      clear hd hin hD
      go_simp
      exact hK _ _ ⟨updV xv 3 (.pointer (some ⟨w.heap.size, 2, none⟩)), by simp [updV], hb, hG.any gk.out g3.out _ rfl, hF7.step (fun _ h => h) (by decide) _, hF8.step (fun _ h => h) (by decide) _, hF9.step (fun _ h => h) (by decide) _, hF10.step (fun _ h => h) (by decide) _⟩
    · refine wpOp_step rfl (fun K' hK => ?_)
      simp [Region.binds] at hd
      have e3 : xv 3 = .pointer (some ⟨w.heap.size, 2, none⟩) := hG.get g3.out (by simp [hd])
      obtain ⟨c0, c1, c2, c3, c4⟩ := BX.out W hb
      clear hd hin hD
      go_simp
      exact hK _ _ ⟨updV xv 4 (.int .i64 (Q : Int)), by simp [updV, e3], hb, hG.any gk.out g4.out _ rfl, hF7.step (fun _ h => h) (by decide) _, hF8.step (fun _ h => h) (by decide) _, hF9.step (fun _ h => h) (by decide) _, hF10.step (fun _ h => h) (by decide) _⟩
    · refine wpOp_step rfl (fun K' hK => ?_)
      obtain ⟨c0, c1, c2, c3, c4⟩ := BX.out W hb
      clear hd hin hD
      go_simp
      exact hK _ _ ⟨updV xv 5 (.agg #[.int .i64 (N : Int), .int .i64 B, .int .i64 (Q : Int), .int .i64 E, .int .i64 F]), by simp [updV], hb, hG.any gk.out g5.out _ rfl, hF7.step (fun _ h => h) (by decide) _, hF8.step (fun _ h => h) (by decide) _, hF9.step (fun _ h => h) (by decide) _, hF10.step (fun _ h => h) (by decide) _⟩
    · refine wpOp_step rfl (fun K' hK => ?_)
      simp [Region.binds] at hd
      have e5 : xv 5 = .agg #[.int .i64 (N : Int), .int .i64 B, .int .i64 (Q : Int), .int .i64 E, .int .i64 F] := hG.get g5.out (by simp [hd])
      clear hd hin hD
      go_simp
      refine (CX.out W hb).mono ?_
      rintro e w' ⟨v, rfl, hv, hb'⟩
      go_wp2_with fail
      exact ⟨updV xv 6 v, by simp [updV, e5], JS.out _ _ hb' hb, hG.any gk.out g6.out v hv, hF7.on st7.out hb' (by decide) _, hF8.on st8.out hb' (by decide) _, hF9.on st9.out hb' (by decide) _, hF10.on st10.out hb' (by decide) _⟩
    · refine wpOp_step rfl (fun K' hK => ?_)
      simp [Region.binds] at hd
      have e6 : xv 6 = .int .i64 (A : Int) := hG.get g6.out (by simp [hd])
      clear hd hin hD
      refine step_make W rfl (.tmp 22) (.tmp 22) 46 rfl w1.heap.size 29 i0 (.slice none 0 0) 1 Tryz.underlying46 hi0 hz0 hz1 _ _ A e6 e6 (by rw [hz2]; omega) (by unfold maxLen; omega) hb.size ?_
      intro w' ho hg
      exact hK _ _ ⟨updV xv 7 (.slice (some ⟨W.heap.size, 0, none⟩) A A), by simp [updV, Act.put], JS.out _ _ (below_fresh hg) hb, hG.any gk.out g7.out _ trivial, Fe.new (⟨_, rfl, hb.size, made_nils ho⟩), hF8.on st8.out (below_fresh hg) (by decide) _, hF9.on st9.out (below_fresh hg) (by decide) _, hF10.on st10.out (below_fresh hg) (by decide) _⟩
    · refine wpOp_step rfl (fun K' hK => ?_)
      simp [Region.binds] at hd
      have e0 : xv 0 = Value.int IntKind.u64 ↑S := hG.get g0.out (by simp [hd])
      have e2 : xv 2 = .int .i64 (N : Int) := hG.get g2.out (by simp [hd])
      have e4 : xv 4 = .int .i64 (Q : Int) := hG.get g4.out (by simp [hd])
      have l7 : listed.getD 7 false = true := by simp [hd]
      have m7 := hF7 l7
      clear hd hin hD
      obtain ⟨ro, e7, hq, hh⟩ := m7
      go_simp
      exact hK _ _ ⟨updV xv 8 (.agg #[.int .u64 (S : Int), .int .i64 (N : Int), .int .i64 (Q : Int), .slice (some ⟨ro, 0, none⟩) A A]), by simp [updV, e0, e2, e4, e7], hb, hG.any gk.out g8.out _ trivial, hF7.step (fun _ h => h) (by decide) _, Fe.new (⟨ro, rfl, hq, hh⟩), hF9.step (fun _ h => h) (by decide) _, hF10.step (fun _ h => h) (by decide) _⟩
    · refine wpOp_step rfl (fun K' hK => ?_)
      simp [Region.binds] at hd
      have l8 : listed.getD 8 false = true := by simp [hd]
      have m8 := hF8 l8
      clear hd hin hD
      obtain ⟨ro, e8, hq, hh⟩ := m8
      go_simp
      exact hK _ _ ⟨updV xv 9 (.pointer (some ⟨W.heap.size, 0, none⟩)), by simp [updV, e8], JS.out _ _ (below_alloc _ _) hb, hG.any gk.out g9.out _ trivial, hF7.on st7.out (below_alloc _ _) (by decide) _, hF8.on st8.out (below_alloc _ _) (by decide) _, Fe.new (⟨_, ro, rfl, hb.size, hq, alloc_at _ _, heap_stays (below_alloc _ _) hh⟩), hF10.on st10.out (below_alloc _ _) (by decide) _⟩
    · refine wpOp_step rfl (fun K' hK => ?_)
      simp [Region.binds] at hd
      have l9 : listed.getD 9 false = true := by simp [hd]
      have m9 := hF9 l9
      clear hd hin hD
      go_simp
      exact hK _ _ ⟨updV xv 10 (xv 9), by simp [updV], hb, hG.any gk.out g10.out _ trivial, hF7.step (fun _ h => h) (by decide) _, hF8.step (fun _ h => h) (by decide) _, hF9.step (fun _ h => h) (by decide) _, Fe.new (m9)⟩
  · rintro listed ac W ⟨xv, rfl, hb, hG, hF7, hF8, hF9, hF10⟩ hall
    have m10 : Hid ((IsGp w1.heap.size S N Q A) (xv 10) W) := hF10 (hall 10 (by decide))
    have XW : Hid ((fun W => Below w1.heap.size w1 W) W) := hb
    clear hall hG hb gk JS g0 g1 g2 g3 g4 g5 g6 g7 g8 g9 g10 hF7 st7 hF8 st8 hF9 st9 hF10 st10
    obtain ⟨g, ro, e10, hg, hro, hgc, hrc⟩ := m10.out
    rw [e10]
    clear m10 e10
    have B2 : Hid (Below w.heap.size w W) := below_on B1.out XW.out
    have P2 : Hid (Five W w.heap.size N B Q E F) := BX.out W XW.out
    have I2 : Hid (GrB w W g ro S N Q A (nils A) (nils A) (hasR S A Q 0)) := grb_start B2.out (Nat.le_trans B1.out.size hg) (Nat.le_trans B1.out.size hro) hgc hrc
    have HG0 : Hid (w.heap.size < g ∧ w.heap.size < ro) := by
      have := cell_block_lt P1.out.1
      have h1 : w.heap.size < w1.heap.size := this
      unfold Hid
      omega
    clear hg hro hgc hrc BX CX P1 B1 XW
    have c0 := P2.out.1
    go_wp2
    clear c0 P2
    go_loopw [28] (fun iv wr => ∃ (m : Nat) (vs : List Value), m ≤ N ∧ iv = .int .i64 m ∧ Hid (GrB w wr g ro S N Q A vs vs (hasR S A Q m)) ∧ Hid (Short (8 * m) (hasR S A Q m))) (fun iv _ => N - (intOf iv).toNat)
    case atStart => exact ⟨0, nils A, by omega, rfl, I2, short_start A⟩
    case round =>
      obtain ⟨m, vs, hm, rfl, I, HSh⟩ := hrel
      clear I2
      by_cases hlt : m < N
      · have CO : Hid (Calls Tryz.prog 25 #[.pointer (some ⟨g, 0, none⟩), .int .i64 m] wr fun e w' => ∃ a c, e = .returned (.slice a Q c) ∧ OwnZ wr.heap.size w' (.slice a Q c) Q (ofD S A Q m) ∧ Below wr.heap.size wr w') := oof_yes g ro S N Q A m vs _ wr I.out.isGr OK.out hlt
        have HLm : Hid (∀ x ∈ ofD S A Q m, 0 ≤ x ∧ x < (A : Int)) := fun x hx => ofD_mem hx
        have HLl : Hid ((ofD S A Q m).length = Q) := ofD_length OK.out.q1 OK.out.qa
        have HNx : Hid (hasR S A Q (m + 1) = addAll (hasR S A Q m) (ofD S A Q m) m) := rfl
        generalize ofD S A Q m = l at *
        go_wp2_with fail
        refine CO.out.mono ?_
        rintro e w3 ⟨a3, c3, rfl, ho3, hb3⟩
        have G3 : Hid (GL w w3 g ro S N Q A vs vs (hasR S A Q m) (.slice a3 Q c3) Q l) := by
          refine ⟨I.out.below hb3, ho3.mono I.out.bel.size, ?_⟩
          intro i v q hv hq e
          obtain ⟨r, hr⟩ := I.out.row hv
          have h1 := ((I.out.own i v r hv hr).lt q hq).2
          have h2 := (ho3.lt q e).1
          omega
        obtain ⟨lb, lc, el, -, hlc, hlm⟩ := owned_shape ho3 OK.out.q1
        injection el with e1 _ e3
        subst e1; subst e3
        unfold maxLen at hlm
        clear ho3 hb3 I CO
        go_wp2
        go_loopw [35] (fun kv wr => ∃ (k : Nat) (vs : List Value), k ≤ Q ∧ kv = .int .i64 k ∧ Hid (GL w wr g ro S N Q A vs vs (addAll (hasR S A Q m) (l.take k) m) (.slice (some ⟨lb, 0, none⟩) Q c3) Q l) ∧ Hid (Short (8 * m + k) (addAll (hasR S A Q m) (l.take k) m))) (fun kv _ => Q - (intOf kv).toNat)
        case atStart => exact ⟨0, vs, by omega, rfl, G3, HSh⟩
        case round =>
          clear G3 HSh
          clear vs
          obtain ⟨k, vs, hk, rfl, G, HSh⟩ := hrel
          by_cases hkQ : k < Q
          · have hkl : k < l.length := by rw [HLl.out]; exact hkQ
            have hmem := HLm.out l[k] (List.getElem_mem hkl)
            obtain ⟨x, hx⟩ : ∃ x : Nat, l[k] = (x : Int) := ⟨l[k].toNat, by omega⟩
            have hxA : x < A := by omega
            have hck : wr.cell? ⟨lb, k, none⟩ = some (.int .i64 (x : Int)) := by
              have := World.ownsRow.cellAt G.out.o k (by omega)
              rw [map_z_at l k hkl, hx] at this
              exact this
            have hxv : x < vs.length := by rw [G.out.b.lv]; exact hxA
            have hxr : x < (addAll (hasR S A Q m) (l.take k) m).length := by rw [G.out.b.lr]; exact hxA
            have Hv : Hid (vs[x]? = some vs[x]) := List.getElem?_eq_getElem hxv
            have Hr0 : Hid ((addAll (hasR S A Q m) (l.take k) m)[x]? = some (addAll (hasR S A Q m) (l.take k) m)[x]) := List.getElem?_eq_getElem hxr
            have HN2 : Hid (addAll (hasR S A Q m) (l.take (k + 1)) m = (addAll (hasR S A Q m) (l.take k) m).set x ((addAll (hasR S A Q m) (l.take k) m)[x] ++ [(m : Int)])) := by
              unfold Hid
              rw [addAll_take m hkl hx, addTo_at Hr0.out]
            have HSh2 : Hid (Short (8 * m + (k + 1)) (addAll (hasR S A Q m) (l.take (k + 1)) m)) := by
              unfold Hid
              rw [addAll_take m hkl hx]
              exact HSh.out.add Hr0.out m
            have hrl : (addAll (hasR S A Q m) (l.take k) m)[x].length ≤ 8 * m + k := HSh.out x _ Hr0.out
            have HR : Hid (addAll (hasR S A Q m) (l.take k) m = addAll (hasR S A Q m) (l.take k) m) := rfl
            obtain ⟨rows2, hR2⟩ : ∃ rs, addAll (hasR S A Q m) (l.take (k + 1)) m = rs := ⟨_, rfl⟩
            have HR2 : Hid (addAll (hasR S A Q m) (l.take (k + 1)) m = rows2) := hR2
            rw [hR2] at HN2
            clear hR2
            have HO := G.out.b.own x _ _ Hv.out Hr0.out
            generalize (addAll (hasR S A Q m) (l.take k) m)[x] = r at *
            generalize addAll (hasR S A Q m) (l.take k) m = rows at *
            obtain ⟨rn, hrn⟩ : ∃ rn, r.length = rn := ⟨_, rfl⟩
            have HRN : Hid (r.length = rn) := hrn
            rw [hrn] at HO hrl
            obtain ⟨av, vc, ev, -⟩ := owned_slice HO
            rw [ev] at Hv HO
            have HOw : Hid (∀ W, GL w W g ro S N Q A vs vs rows (.slice (some ⟨lb, 0, none⟩) Q c3) Q l → OwnZ w.heap.size W (.slice av rn vc) rn r) := by
              intro W hW
              have := hW.b.own x _ r Hv.out Hr0.out
              rw [HRN.out] at this
              exact this
            have JG0 : Hid (JG g ro S N Q A wr) := G.out.b.gc
            clear hmem hx hkl hxv hxr hrn HO ev HSh HR
            have hrn2 : rn + 1 ≤ 1000000000 := by omega
            go_upto_region 11 with fail
            clear hck
            refine wp_region_any (by kernel_rfl) ?_
            obtain ⟨gs, hgs⟩ : ∃ gs : List (Value → World → Prop), gs = [IsV (Value.pointer (some { block := g, off := 0 })), IsV (Value.pointer (some { block := g, off := 0 })), IsV (.pointer (some ⟨g, 3, none⟩)), IsV (.slice (some ⟨ro, 0, none⟩) A A), IsV (Value.int IntKind.i64 ↑x), IsV (Value.pointer (some { block := g, off := 0 })), IsV (Value.pointer (some { block := g, off := 0 })), IsV (.pointer (some ⟨g, 3, none⟩)), IsV (.slice (some ⟨ro, 0, none⟩) A A), IsV (Value.int IntKind.i64 ↑x), IsV (.pointer (some ⟨ro, x, none⟩)), IsV (.slice av rn vc), IsV (Value.int IntKind.i64 ↑m), IsAnyV, IsAnyV, IsV (.pointer (some ⟨ro, x, none⟩)), IsAnyV] := ⟨_, rfl⟩
            have g0 : Hid (gs[0]? = some (IsV (Value.pointer (some { block := g, off := 0 })))) := by unfold Hid; rw [hgs]; rfl
            have g1 : Hid (gs[1]? = some (IsV (Value.pointer (some { block := g, off := 0 })))) := by unfold Hid; rw [hgs]; rfl
            have g2 : Hid (gs[2]? = some (IsV (.pointer (some ⟨g, 3, none⟩)))) := by unfold Hid; rw [hgs]; rfl
            have g3 : Hid (gs[3]? = some (IsV (.slice (some ⟨ro, 0, none⟩) A A))) := by unfold Hid; rw [hgs]; rfl
            have g4 : Hid (gs[4]? = some (IsV (Value.int IntKind.i64 ↑x))) := by unfold Hid; rw [hgs]; rfl
            have g5 : Hid (gs[5]? = some (IsV (Value.pointer (some { block := g, off := 0 })))) := by unfold Hid; rw [hgs]; rfl
            have g6 : Hid (gs[6]? = some (IsV (Value.pointer (some { block := g, off := 0 })))) := by unfold Hid; rw [hgs]; rfl
            have g7 : Hid (gs[7]? = some (IsV (.pointer (some ⟨g, 3, none⟩)))) := by unfold Hid; rw [hgs]; rfl
            have g8 : Hid (gs[8]? = some (IsV (.slice (some ⟨ro, 0, none⟩) A A))) := by unfold Hid; rw [hgs]; rfl
            have g9 : Hid (gs[9]? = some (IsV (Value.int IntKind.i64 ↑x))) := by unfold Hid; rw [hgs]; rfl
            have g10 : Hid (gs[10]? = some (IsV (.pointer (some ⟨ro, x, none⟩)))) := by unfold Hid; rw [hgs]; rfl
            have g11 : Hid (gs[11]? = some (IsV (.slice av rn vc))) := by unfold Hid; rw [hgs]; rfl
            have g12 : Hid (gs[12]? = some (IsV (Value.int IntKind.i64 ↑m))) := by unfold Hid; rw [hgs]; rfl
            have g13 : Hid (gs[13]? = some (IsAnyV)) := by unfold Hid; rw [hgs]; rfl
            have g14 : Hid (gs[14]? = some (IsAnyV)) := by unfold Hid; rw [hgs]; rfl
            have g15 : Hid (gs[15]? = some (IsV (.pointer (some ⟨ro, x, none⟩)))) := by unfold Hid; rw [hgs]; rfl
            have g16 : Hid (gs[16]? = some (IsAnyV)) := by unfold Hid; rw [hgs]; rfl
            have gk : Hid (∀ p ∈ gs, ∀ v (U U' : World), p v U → p v U') := by
              unfold Hid
              rw [hgs]
              simp only [List.forall_mem_cons]
              exact ⟨(fun _ _ _ h => h), (fun _ _ _ h => h), (fun _ _ _ h => h), (fun _ _ _ h => h), (fun _ _ _ h => h), (fun _ _ _ h => h), (fun _ _ _ h => h), (fun _ _ _ h => h), (fun _ _ _ h => h), (fun _ _ _ h => h), (fun _ _ _ h => h), (fun _ _ _ h => h), (fun _ _ _ h => h), (fun _ _ _ h => h), (fun _ _ _ h => h), (fun _ _ _ h => h), (fun _ _ _ h => h), by simp⟩
            clear hgs
            have JS : Hid (∀ Wb Wb', Below Wb.heap.size Wb Wb' → (fun Wb => JG g ro S N Q A Wb) Wb → (fun Wb => JG g ro S N Q A Wb) Wb') := fun Wb Wb' hb h => heap_stays hb h
            have st13 : Hid (Stays (IsZ1 (m : Int))) := stays_z1 _
            have st14 : Hid (Stays (IsRw w g ro S N Q A vs vs rows (.slice (some ⟨lb, 0, none⟩) Q c3) Q l x (rn + 1) (r ++ [(m : Int)]))) := stays_rw _ _ _ _ _ _ _ _ _ _ _ _ _ _ _ _
            have st16 : Hid (Stays (IsDn w g ro S N Q A rows2 (.slice (some ⟨lb, 0, none⟩) Q c3) Q l)) := stays_dn _ _ _ _ _ _ _ _ _ _ _
            have su14 : Hid (∀ Wb Wb', Below Wb.heap.size Wb Wb' → (fun Wb => GL w Wb g ro S N Q A vs vs rows (.slice (some ⟨lb, 0, none⟩) Q c3) Q l) Wb → (fun Wb => GL w Wb g ro S N Q A vs vs rows (.slice (some ⟨lb, 0, none⟩) Q c3) Q l) Wb') := fun Wb Wb' hb h => h.below hb
            refine wpAny_inv4 (fun listed ac Wb => ∃ xvb : Nat → Value, ac = ⟨#[Value.agg #[Value.int IntKind.i64 ↑N, Value.int IntKind.i64 B, Value.int IntKind.i64 ↑Q, Value.int IntKind.i64 E, Value.int IntKind.i64 F], Value.int IntKind.u64 ↑S, Value.pointer (some { block := w.heap.size, off := 0 }), undef, Value.pointer none, Value.int IntKind.i64 (0 : Int), Value.int IntKind.i64 (0 : Int), Value.pointer (some { block := g, off := 0 }), Value.int IntKind.i64 ↑m, undef, Value.int IntKind.i64 ↑x, Value.agg #[Value.int IntKind.i64 ↑N, Value.int IntKind.i64 B, Value.int IntKind.i64 ↑Q, Value.int IntKind.i64 E, Value.int IntKind.i64 F], Value.int IntKind.i64 (0 : Int), Value.int IntKind.i64 (0 : Int), Value.bool false, undef, xv 0, xv 1, xv 2, xv 3, xv 4, xv 5, xv 6, xv 7, xv 8, xv 9, Value.pointer (some { block := w.heap.size, off := 0 }), Value.int IntKind.i64 ↑N, Value.int IntKind.i64 ↑m, Value.bool true, Value.int IntKind.i64 ↑m, Value.pointer (some { block := g, off := 0 }), Value.int IntKind.i64 ↑m, Value.slice (some { block := lb, off := 0 }) Q c3, Value.int IntKind.i64 ↑Q, Value.int IntKind.i64 ↑k, Value.bool true, Value.pointer (some { block := lb, off := k }), Value.int IntKind.i64 ↑x, xvb 0, xvb 1, xvb 2, xvb 3, xvb 4, xvb 5, xvb 6, xvb 7, xvb 8, xvb 9, xvb 10, xvb 11, xvb 12, xvb 13, xvb 14, xvb 15, u55, u56, undef], []⟩ ∧ (fun Wb => JG g ro S N Q A Wb) Wb ∧ Lst gs listed xvb Wb ∧ Fd listed xvb Wb 13 14 (IsZ1 (m : Int)) ∧ Fd listed xvb Wb 14 16 (IsRw w g ro S N Q A vs vs rows (.slice (some ⟨lb, 0, none⟩) Q c3) Q l x (rn + 1) (r ++ [(m : Int)])) ∧ Fe listed xvb Wb 16 (IsDn w g ro S N Q A rows2 (.slice (some ⟨lb, 0, none⟩) Q c3) Q l) ∧ Fz listed Wb 14 (fun Wb => GL w Wb g ro S N Q A vs vs rows (.slice (some ⟨lb, 0, none⟩) Q c3) Q l)) (by kernel_rfl) ?_ ?_ _ _ _ _ (by kernel_rfl) (of_decide_eq_true (by kernel_rfl)) (Down.start _) ⟨fun jx => if jx = 0 then u39 else if jx = 1 then u40 else if jx = 2 then u41 else if jx = 3 then u42 else if jx = 4 then u43 else if jx = 5 then u44 else if jx = 6 then u45 else if jx = 7 then u46 else if jx = 8 then u47 else if jx = 9 then u48 else if jx = 10 then u49 else if jx = 11 then u50 else if jx = 12 then u51 else if jx = 13 then u52 else if jx = 14 then u53 else if jx = 15 then u54 else undef, rfl, JG0.out, Lst.start _ _ _ _, Fd.start _ _ _ _ _ _, Fd.start _ _ _ _ _ _, Fe.start _ _ _ _ _, Fz.start (G.out.below (below0 _))⟩
            · rintro listed ac Wb ⟨xvb, rfl, hb, hG, hF13, hF14, hF16, hU14⟩ hD i hi hnl hd
              have hin : i < 17 := hi
              clear hi
              have hcase : i = 0 ∨ i = 1 ∨ i = 2 ∨ i = 3 ∨ i = 4 ∨ i = 5 ∨ i = 6 ∨ i = 7 ∨ i = 8 ∨ i = 9 ∨ i = 10 ∨ i = 11 ∨ i = 12 ∨ i = 13 ∨ i = 14 ∨ i = 15 ∨ i = 16 := by omega
              rcases hcase with rfl | rfl | rfl | rfl | rfl | rfl | rfl | rfl | rfl | rfl | rfl | rfl | rfl | rfl | rfl | rfl | rfl
              · refine wpOp_step rfl (fun K' hK => ?_)
                clear hd hin hD
                go_simp
                exact hK _ _ ⟨updV xvb 0 (Value.pointer (some { block := g, off := 0 })), by simp [updV], hb, hG.any gk.out g0.out _ rfl, hF13.step (fun _ h => h) (by decide) (by decide) _, hF14.step (fun _ h => h) (by decide) (by decide) _, hF16.step (fun _ h => h) (by decide) _, hU14.step (fun h => h) (by decide)⟩
              · refine wpOp_step rfl (fun K' hK => ?_)
                simp [Region.binds] at hd
                have e0 : xvb 0 = Value.pointer (some { block := g, off := 0 }) := hG.get g0.out (by simp [hd])
                clear hd hin hD
                go_simp
                exact hK _ _ ⟨updV xvb 1 (Value.pointer (some { block := g, off := 0 })), by simp [updV, e0], hb, hG.any gk.out g1.out _ rfl, hF13.step (fun _ h => h) (by decide) (by decide) _, hF14.step (fun _ h => h) (by decide) (by decide) _, hF16.step (fun _ h => h) (by decide) _, hU14.step (fun h => h) (by decide)⟩
              · refine wpOp_step rfl (fun K' hK => ?_)
                simp [Region.binds] at hd
                have e1 : xvb 1 = Value.pointer (some { block := g, off := 0 }) := hG.get g1.out (by simp [hd])
                clear hd hin hD
                go_simp
                exact hK _ _ ⟨updV xvb 2 (.pointer (some ⟨g, 3, none⟩)), by simp [updV, e1], hb, hG.any gk.out g2.out _ rfl, hF13.step (fun _ h => h) (by decide) (by decide) _, hF14.step (fun _ h => h) (by decide) (by decide) _, hF16.step (fun _ h => h) (by decide) _, hU14.step (fun h => h) (by decide)⟩
              · refine wpOp_step rfl (fun K' hK => ?_)
                simp [Region.binds] at hd
                have e2 : xvb 2 = .pointer (some ⟨g, 3, none⟩) := hG.get g2.out (by simp [hd])
                have hc := hb.c3
                clear hd hin hD
                go_simp
                exact hK _ _ ⟨updV xvb 3 (.slice (some ⟨ro, 0, none⟩) A A), by simp [updV, e2], hb, hG.any gk.out g3.out _ rfl, hF13.step (fun _ h => h) (by decide) (by decide) _, hF14.step (fun _ h => h) (by decide) (by decide) _, hF16.step (fun _ h => h) (by decide) _, hU14.step (fun h => h) (by decide)⟩
              · refine wpOp_step rfl (fun K' hK => ?_)
                clear hd hin hD
                go_simp
                exact hK _ _ ⟨updV xvb 4 (Value.int IntKind.i64 ↑x), by simp [updV], hb, hG.any gk.out g4.out _ rfl, hF13.step (fun _ h => h) (by decide) (by decide) _, hF14.step (fun _ h => h) (by decide) (by decide) _, hF16.step (fun _ h => h) (by decide) _, hU14.step (fun h => h) (by decide)⟩
              · refine wpOp_step rfl (fun K' hK => ?_)
                clear hd hin hD
                go_simp
                exact hK _ _ ⟨updV xvb 5 (Value.pointer (some { block := g, off := 0 })), by simp [updV], hb, hG.any gk.out g5.out _ rfl, hF13.step (fun _ h => h) (by decide) (by decide) _, hF14.step (fun _ h => h) (by decide) (by decide) _, hF16.step (fun _ h => h) (by decide) _, hU14.step (fun h => h) (by decide)⟩
              · refine wpOp_step rfl (fun K' hK => ?_)
                simp [Region.binds] at hd
                have e5 : xvb 5 = Value.pointer (some { block := g, off := 0 }) := hG.get g5.out (by simp [hd])
                clear hd hin hD
                go_simp
                exact hK _ _ ⟨updV xvb 6 (Value.pointer (some { block := g, off := 0 })), by simp [updV, e5], hb, hG.any gk.out g6.out _ rfl, hF13.step (fun _ h => h) (by decide) (by decide) _, hF14.step (fun _ h => h) (by decide) (by decide) _, hF16.step (fun _ h => h) (by decide) _, hU14.step (fun h => h) (by decide)⟩
              · refine wpOp_step rfl (fun K' hK => ?_)
                simp [Region.binds] at hd
                have e6 : xvb 6 = Value.pointer (some { block := g, off := 0 }) := hG.get g6.out (by simp [hd])
                clear hd hin hD
                go_simp
                exact hK _ _ ⟨updV xvb 7 (.pointer (some ⟨g, 3, none⟩)), by simp [updV, e6], hb, hG.any gk.out g7.out _ rfl, hF13.step (fun _ h => h) (by decide) (by decide) _, hF14.step (fun _ h => h) (by decide) (by decide) _, hF16.step (fun _ h => h) (by decide) _, hU14.step (fun h => h) (by decide)⟩
              · refine wpOp_step rfl (fun K' hK => ?_)
                simp [Region.binds] at hd
                have e7 : xvb 7 = .pointer (some ⟨g, 3, none⟩) := hG.get g7.out (by simp [hd])
                have hc := hb.c3
                clear hd hin hD
                go_simp
                exact hK _ _ ⟨updV xvb 8 (.slice (some ⟨ro, 0, none⟩) A A), by simp [updV, e7], hb, hG.any gk.out g8.out _ rfl, hF13.step (fun _ h => h) (by decide) (by decide) _, hF14.step (fun _ h => h) (by decide) (by decide) _, hF16.step (fun _ h => h) (by decide) _, hU14.step (fun h => h) (by decide)⟩
              · refine wpOp_step rfl (fun K' hK => ?_)
                clear hd hin hD
                go_simp
                exact hK _ _ ⟨updV xvb 9 (Value.int IntKind.i64 ↑x), by simp [updV], hb, hG.any gk.out g9.out _ rfl, hF13.step (fun _ h => h) (by decide) (by decide) _, hF14.step (fun _ h => h) (by decide) (by decide) _, hF16.step (fun _ h => h) (by decide) _, hU14.step (fun h => h) (by decide)⟩
              · refine wpOp_step rfl (fun K' hK => ?_)
                simp [Region.binds] at hd
                have e8 : xvb 8 = .slice (some ⟨ro, 0, none⟩) A A := hG.get g8.out (by simp [hd])
                have e9 : xvb 9 = Value.int IntKind.i64 ↑x := hG.get g9.out (by simp [hd])
                clear hd hin hD
                go_simp
                exact hK _ _ ⟨updV xvb 10 (.pointer (some ⟨ro, x, none⟩)), by simp [updV, e8, e9], hb, hG.any gk.out g10.out _ rfl, hF13.step (fun _ h => h) (by decide) (by decide) _, hF14.step (fun _ h => h) (by decide) (by decide) _, hF16.step (fun _ h => h) (by decide) _, hU14.step (fun h => h) (by decide)⟩
              · refine wpOp_step rfl (fun K' hK => ?_)
                simp [Region.binds] at hd
                have e10 : xvb 10 = .pointer (some ⟨ro, x, none⟩) := hG.get g10.out (by simp [hd])
                have f14 : listed.getD 14 false = false := by
                  cases hx : listed.getD 14 false with
                  | false => rfl
                  | true =>
                    have r11 : listed.getD 11 false = true := by have h := hD 14 (by decide) hx; simp [Region.binds] at h; simp [h]
                    rw [getD_false hnl] at r11; cases r11
                have u14 := hU14 f14
                have hc := u14.b.cell Hv.out
                clear hd hin hD
                go_simp
                exact hK _ _ ⟨updV xvb 11 (.slice av rn vc), by simp [updV, e10], hb, hG.any gk.out g11.out _ rfl, hF13.step (fun _ h => h) (by decide) (by decide) _, hF14.step (fun _ h => h) (by decide) (by decide) _, hF16.step (fun _ h => h) (by decide) _, hU14.step (fun h => h) (by decide)⟩
              · refine wpOp_step rfl (fun K' hK => ?_)
                clear hd hin hD
                go_simp
                exact hK _ _ ⟨updV xvb 12 (Value.int IntKind.i64 ↑m), by simp [updV], hb, hG.any gk.out g12.out _ rfl, hF13.step (fun _ h => h) (by decide) (by decide) _, hF14.step (fun _ h => h) (by decide) (by decide) _, hF16.step (fun _ h => h) (by decide) _, hU14.step (fun h => h) (by decide)⟩
              · refine wpOp_step rfl (fun K' hK => ?_)
                simp [Region.binds] at hd
                have e12 : xvb 12 = Value.int IntKind.i64 ↑m := hG.get g12.out (by simp [hd])
                clear hd hin hD
                go_simp
                exact hK _ _ ⟨updV xvb 13 (.slice (some ⟨Wb.heap.size, 0, none⟩) 1 1), by simp [updV, e12], JS.out _ _ (below_alloc _ _) hb, hG.any gk.out g13.out _ trivial, Fd.new (zs_one _ _ _), hF14.on st14.out (below_alloc _ _) (by decide) (by decide) _, hF16.on st16.out (below_alloc _ _) (by decide) _, hU14.step (su14.out _ _ (below_alloc _ _)) (by decide)⟩
              · refine wpOp_step rfl (fun K' hK => ?_)
                simp [Region.binds] at hd
                have e11 : xvb 11 = .slice av rn vc := hG.get g11.out (by simp [hd])
                have l13 : listed.getD 13 false = true := by simp [hd]
                have m13 := hF13.get l13 hnl
                have f16 : listed.getD 16 false = false := by
                  cases hx : listed.getD 16 false with
                  | false => rfl
                  | true =>
                    have r14 : listed.getD 14 false = true := by have h := hD 16 (by decide) hx; simp [Region.binds] at h; simp [h]
                    rw [getD_false hnl] at r14; cases r14
                have u14 := hU14.get hnl
                clear hd hin hD
                have hOw := HOw.out Wb u14
                refine step_addZ Wb rfl (.tmp 50) (.tmp 52) rfl w.heap.size (.slice av rn vc) rn r e11 hOw _ 1 [(m : Int)] rfl m13 (by omega) u14.b.bel.size ?_
                intro ao cap w' hown hg hat hnc hcm
                have hgl := u14.grow (r' := r ++ [(m : Int)]) Hv.out Hr0.out hg (by rw [List.length_append, HRN.out]; exact hown) hat
                exact hK _ _ ⟨updV xvb 14 (.slice ao (rn + 1) cap), by simp [updV, Act.put], hgl.b.gc, hG.any gk.out g14.out _ trivial, Fd.off hnl, Fd.new (⟨ao, cap, rfl, hgl⟩), Fe.yet f16 (by decide) _, Fz.off hnl⟩
              · refine wpOp_step rfl (fun K' hK => ?_)
                simp [Region.binds] at hd
                have e3 : xvb 3 = .slice (some ⟨ro, 0, none⟩) A A := hG.get g3.out (by simp [hd])
                have e4 : xvb 4 = Value.int IntKind.i64 ↑x := hG.get g4.out (by simp [hd])
                clear hd hin hD
                go_simp
                exact hK _ _ ⟨updV xvb 15 (.pointer (some ⟨ro, x, none⟩)), by simp [updV, e3, e4], hb, hG.any gk.out g15.out _ rfl, hF13.step (fun _ h => h) (by decide) (by decide) _, hF14.step (fun _ h => h) (by decide) (by decide) _, hF16.step (fun _ h => h) (by decide) _, hU14.step (fun h => h) (by decide)⟩
              · refine wpOp_step rfl (fun K' hK => ?_)
                simp [Region.binds] at hd
                have e15 : xvb 15 = .pointer (some ⟨ro, x, none⟩) := hG.get g15.out (by simp [hd])
                have l14 : listed.getD 14 false = true := by simp [hd]
                have m14 := hF14.get l14 hnl
                have q13 : listed.getD 13 false = true := by simp [hd]
                clear hd hin hD
                obtain ⟨ao, cap, e14, hgl⟩ := m14
                have hc := hgl.b.cell Hv.out
                have hf := hgl.b.free x
                have hst := hgl.store x (.slice ao (rn + 1) cap)
                rw [e14] at hst
                go_simp
                exact hK _ _ ⟨updV xvb 16 undef, by simp [updV, e14, e15], hst.b.gc, hG.any gk.out g16.out _ trivial, Fd.gone l14 (by decide), Fd.off hnl, Fe.new (⟨_, by rw [HN2.out]; exact hst⟩), Fz.gone l14 (by decide)⟩
            · rintro listed ac Wb ⟨xvb, rfl, hb, hG, hF13, hF14, hF16, hU14⟩ hall
              have m16 : Hid ((IsDn w g ro S N Q A rows2 (.slice (some ⟨lb, 0, none⟩) Q c3) Q l) (xvb 16) Wb) := hF16 (hall 16 (by decide))
              have XW : Hid ((fun Wb => JG g ro S N Q A Wb) Wb) := hb
              clear hall hG hb gk JS g0 g1 g2 g3 g4 g5 g6 g7 g8 g9 g10 g11 g12 g13 g14 g15 g16 hF13 st13 hF14 st14 hF16 st16 hU14 su14
              obtain ⟨vs2, hgl2⟩ := m16.out
              have G4 : Hid (GL w Wb g ro S N Q A vs2 vs2 rows2 (.slice (some ⟨lb, 0, none⟩) Q c3) Q l) := hgl2
              clear hgl2 m16 G XW
              go_wp2
              go_roundw
              case rel => exact ⟨k + 1, vs2, by omega, by go_num, by unfold Hid; rw [HR2.out]; exact G4.out, HSh2⟩
              case measure => simp [intOf]; omega
          · obtain rfl : k = Q := by omega
            have I4 : Hid (GrB w wr g ro S N k A vs vs (hasR S A k (m + 1))) := by
              have := G.out.b
              rw [List.take_of_length_le (by rw [HLl.out]; omega), ← HNx.out] at this
              exact this
            have S4 : Hid (Short (8 * (m + 1)) (hasR S A k (m + 1))) := by
              have := HSh.out
              rw [List.take_of_length_le (by rw [HLl.out]; omega), ← HNx.out] at this
              exact this.mono (by omega)
            clear G HSh HNx
            go_wp2
            go_roundw
            case rel => exact ⟨m + 1, vs, by omega, by go_num, I4, S4⟩
            case measure => simp [intOf]; omega
      · obtain rfl : m = N := by omega
        go_wp2
        go_ret2
        exact ⟨g, ro, vs, rfl, I.out⟩

theorem onew_yes (B E F : Int) (N Q A S : Nat) (w : World) (h : PrOk N B Q E F N Q A) (hS : S < 18446744073709551616) :
    Calls Tryz.prog 8 #[.agg #[.int .i64 N, .int .i64 B, .int .i64 Q, .int .i64 E, .int .i64 F], .int .u64 S] w fun e w' => ∃ g ro vs, e = .returned (.tuple #[.pointer (some ⟨g, 0, none⟩), .int .i64 0]) ∧ IsGr w' g ro S N Q A vs (hasR S A Q N) ∧ Below w.heap.size w w' := by
  refine (onew_own B E F N Q A S w h hS).mono ?_
  rintro e w' ⟨g, ro, vs, rfl, hg⟩
  exact ⟨g, ro, vs, rfl, hg.isGr, hg.bel⟩

end

section
/-
  outer: what the statements' smaller makes of Params; what their speaks says.
-/
open Go.RowKit
set_option linter.unusedVariables false

theorem Five.set0 {W : World} {b : Nat} {N B Q E F : Int} (h : Five W b N B Q E F) (N' : Int) : Five (W.setCell ⟨b, 0, none⟩ (.int .i64 N')) b N' B Q E F := by
  obtain ⟨h0, h1, h2, h3, h4⟩ := h
  refine ⟨?_, ?_, ?_, ?_, ?_⟩
  · exact World.cell?_setCell_same W _ _ h0
  · rw [World.cell?_setCell_other W _ _ _ (by simp)]; exact h1
  · rw [World.cell?_setCell_other W _ _ _ (by simp)]; exact h2
  · rw [World.cell?_setCell_other W _ _ _ (by simp)]; exact h3
  · rw [World.cell?_setCell_other W _ _ _ (by simp)]; exact h4

theorem Five.set1 {W : World} {b : Nat} {N B Q E F : Int} (h : Five W b N B Q E F) (B' : Int) : Five (W.setCell ⟨b, 1, none⟩ (.int .i64 B')) b N B' Q E F := by
  obtain ⟨h0, h1, h2, h3, h4⟩ := h
  refine ⟨?_, ?_, ?_, ?_, ?_⟩
  · rw [World.cell?_setCell_other W _ _ _ (by simp)]; exact h0
  · exact World.cell?_setCell_same W _ _ h1
  · rw [World.cell?_setCell_other W _ _ _ (by simp)]; exact h2
  · rw [World.cell?_setCell_other W _ _ _ (by simp)]; exact h3
  · rw [World.cell?_setCell_other W _ _ _ (by simp)]; exact h4

theorem Five.set2 {W : World} {b : Nat} {N B Q E F : Int} (h : Five W b N B Q E F) (Q' : Int) : Five (W.setCell ⟨b, 2, none⟩ (.int .i64 Q')) b N B Q' E F := by
  obtain ⟨h0, h1, h2, h3, h4⟩ := h
  refine ⟨?_, ?_, ?_, ?_, ?_⟩
  · rw [World.cell?_setCell_other W _ _ _ (by simp)]; exact h0
  · rw [World.cell?_setCell_other W _ _ _ (by simp)]; exact h1
  · exact World.cell?_setCell_same W _ _ h2
  · rw [World.cell?_setCell_other W _ _ _ (by simp)]; exact h3
  · rw [World.cell?_setCell_other W _ _ _ (by simp)]; exact h4

theorem Five.set3 {W : World} {b : Nat} {N B Q E F : Int} (h : Five W b N B Q E F) (E' : Int) : Five (W.setCell ⟨b, 3, none⟩ (.int .i64 E')) b N B Q E' F := by
  obtain ⟨h0, h1, h2, h3, h4⟩ := h
  refine ⟨?_, ?_, ?_, ?_, ?_⟩
  · rw [World.cell?_setCell_other W _ _ _ (by simp)]; exact h0
  · rw [World.cell?_setCell_other W _ _ _ (by simp)]; exact h1
  · rw [World.cell?_setCell_other W _ _ _ (by simp)]; exact h2
  · exact World.cell?_setCell_same W _ _ h3
  · rw [World.cell?_setCell_other W _ _ _ (by simp)]; exact h4

theorem Five.set4 {W : World} {b : Nat} {N B Q E F : Int} (h : Five W b N B Q E F) (F' : Int) : Five (W.setCell ⟨b, 4, none⟩ (.int .i64 F')) b N B Q E F' := by
  obtain ⟨h0, h1, h2, h3, h4⟩ := h
  refine ⟨?_, ?_, ?_, ?_, ?_⟩
  · rw [World.cell?_setCell_other W _ _ _ (by simp)]; exact h0
  · rw [World.cell?_setCell_other W _ _ _ (by simp)]; exact h1
  · rw [World.cell?_setCell_other W _ _ _ (by simp)]; exact h2
  · rw [World.cell?_setCell_other W _ _ _ (by simp)]; exact h3
  · exact World.cell?_setCell_same W _ _ h4

theorem store5 {W : World} {b : Nat} {n o p q r : Int} (h : Five W b n o p q r) (N B Q E F : Int) : Five (((((W.setCell ⟨b, 0, none⟩ (.int .i64 N)).setCell ⟨b, 1, none⟩ (.int .i64 B)).setCell ⟨b, 2, none⟩ (.int .i64 Q)).setCell ⟨b, 3, none⟩ (.int .i64 E)).setCell ⟨b, 4, none⟩ (.int .i64 F)) b N B Q E F :=
  ((((h.set0 N).set1 B).set2 Q).set3 E).set4 F

theorem below5 {w0 W : World} {B0 b : Nat} (h : Below B0 w0 W) (hb : B0 ≤ b) (v0 v1 v2 v3 v4 : Value) : Below B0 w0 (((((W.setCell ⟨b, 0, none⟩ v0).setCell ⟨b, 1, none⟩ v1).setCell ⟨b, 2, none⟩ v2).setCell ⟨b, 3, none⟩ v3).setCell ⟨b, 4, none⟩ v4) :=
  ((((h.setCell hb v0).setCell hb v1).setCell hb v2).setCell hb v3).setCell hb v4

theorem load5 {W : World} {b : Nat} {N B Q E F : Int} (h : Five W b N B Q E F) : (loadVar 23 ⟨b, 0, none⟩).run Tryz.prog W = .ok (.agg #[.int .i64 N, .int .i64 B, .int .i64 Q, .int .i64 E, .int .i64 F]) W := by
  obtain ⟨h0, h1, h2, h3, h4⟩ := h
  refine run_loadVar_mid W b 0 23 [.int .i64 N, .int .i64 B, .int .i64 Q, .int .i64 E, .int .i64 F] _ ?_ Tryz.underlying23 rfl (by kernel_rfl)
  intro j v hj
  rw [Nat.zero_add]
  have hj5 : j < 5 := by have := (List.getElem?_eq_some_iff.1 hj).1; simpa using this
  match j, hj5 with
  | 0, _ => simp at hj; subst hj; exact h0
  | 1, _ => simp at hj; subst hj; exact h1
  | 2, _ => simp at hj; subst hj; exact h2
  | 3, _ => simp at hj; subst hj; exact h3
  | 4, _ => simp at hj; subst hj; exact h4

theorem ret_cell1 {fn : Func} {p : Tmp} {ty : TypeId} (h : fn.results = #[.cell p ty]) {tmps : Array Value} {P : Program} {W : World} {b : Nat} {v : Value} (hp : tmps.getD p undef = .pointer (some ⟨b, 0, none⟩)) (hl : (loadVar ty ⟨b, 0, none⟩).run P W = .ok v W) : (results fn tmps).run P W = .ok v W := by
  have hp' : tmps[p]?.getD undef = .pointer (some ⟨b, 0, none⟩) := by rw [← hp]; simp
  simp [results, h, hp', asAddr, hl]

/-- No more blocks than are looked at. -/
def smallN (N : Int) : Int := if N > 60 then 1 + N % 60 else N
theorem smallN_le (N : Int) : smallN N ≤ 60 := by unfold smallN; split <;> omega

theorem pr_one : PrOk ((1 : Nat) : Int) 1 ((1 : Nat) : Int) 1000 2 1 1 1 := ⟨by unfold May; decide, rfl, rfl, by decide⟩

theorem of_one (S i : Nat) : ofD S 1 1 i = [0] := by
  unfold ofD
  rw [someD_all]
  rfl
theorem has_one (S : Nat) : hasR S 1 1 1 = [[0]] := by
  show addAll (hasR S 1 1 0) (ofD S 1 1 0) _ = _
  rw [of_one]
  rfl

/-- Params in a box. -/
def FiveB (W : World) (b : Nat) (N B Q E F : Int) : Prop := W.heap[b]? = some (.cells #[.int .i64 N, .int .i64 B, .int .i64 Q, .int .i64 E, .int .i64 F] 23 (0, 0))
theorem FiveB.five {W : World} {b : Nat} {N B Q E F : Int} (h : FiveB W b N B Q E F) : Five W b N B Q E F := by
  unfold FiveB at h
  refine ⟨?_, ?_, ?_, ?_, ?_⟩ <;> simp [World.cell?, h]
theorem FiveB.fr {W : World} {b : Nat} {N B Q E F : Int} (h : FiveB W b N B Q E F) (i : Nat) : W.frozen? ⟨b, i, none⟩ = false := by
  unfold FiveB at h
  simp [World.frozen?, h]
theorem FiveB.lt {W : World} {b : Nat} {N B Q E F : Int} (h : FiveB W b N B Q E F) : b < W.heap.size := (Array.getElem?_eq_some_iff.1 h).1
theorem FiveB.below {W W' : World} {b : Nat} {N B Q E F : Int} (h : FiveB W b N B Q E F) (hb : Below W.heap.size W W') : FiveB W' b N B Q E F := heap_stays hb h
theorem FiveB.new (W : World) (N B Q E F : Int) : FiveB (W.alloc (.cells #[.int .i64 N, .int .i64 B, .int .i64 Q, .int .i64 E, .int .i64 F] 23)) W.heap.size N B Q E F := alloc_at _ _
theorem fiveB_store {W : World} {b : Nat} {n o p q r : Int} (h : FiveB W b n o p q r) (N B Q E F : Int) : FiveB (((((W.setCell ⟨b, 0, none⟩ (.int .i64 N)).setCell ⟨b, 1, none⟩ (.int .i64 B)).setCell ⟨b, 2, none⟩ (.int .i64 Q)).setCell ⟨b, 3, none⟩ (.int .i64 E)).setCell ⟨b, 4, none⟩ (.int .i64 F)) b N B Q E F := by
  have h0 : W.heap[b]? = some (.cells [Value.int .i64 n, .int .i64 o, .int .i64 p, .int .i64 q, .int .i64 r].toArray 23 (0, 0)) := h
  exact heap_setCell_at (heap_setCell_at (heap_setCell_at (heap_setCell_at (heap_setCell_at h0 _) _) _) _) _

end

section
/-
  outer: which message blocks each auxiliary one has: who is among them, that they rise, how many there are.
-/
open Go.RowKit
set_option linter.unusedVariables false

theorem addAll_at (m : Int) : ∀ (l : List Int) (rows : List (List Int)), l.Nodup → (∀ x ∈ l, 0 ≤ x) → ∀ j : Nat, (addAll rows l m)[j]? = rows[j]?.map (fun r => if (j : Int) ∈ l then r ++ [m] else r) := by
  intro l
  induction l with
  | nil =>
    intro rows _ _ j
    show rows[j]? = _
    cases rows[j]? with
    | none => rfl
    | some r => simp
  | cons x l ih =>
    intro rows hn h0 j
    rw [List.nodup_cons] at hn
    show (addAll (addTo rows x.toNat m) l m)[j]? = _
    rw [ih _ hn.2 (fun y hy => h0 y (by simp [hy])) j]
    have hx := h0 x (by simp)
    by_cases e : x.toNat = j
    · have ex : (j : Int) = x := by omega
      have hj : (j : Int) ∉ l := by rw [ex]; exact hn.1
      have hj2 : (j : Int) ∈ x :: l := by rw [ex]; simp
      unfold addTo
      rw [e]
      cases hr : rows[j]? with
      | none =>
        have : rows.length ≤ j := by
          rcases Nat.lt_or_ge j rows.length with h | h
          · rw [List.getElem?_eq_getElem h] at hr
            cases hr
          · exact h
        rw [List.getElem?_set_self' , hr]
        rfl
      | some r =>
        have hjl : j < rows.length := (List.getElem?_eq_some_iff.1 hr).1
        rw [List.getElem?_set_self hjl, List.getD_eq_getElem?_getD, hr]
        simp [hj, hj2]
    · have hj2 : ((j : Int) ∈ x :: l) ↔ (j : Int) ∈ l := by
        rw [List.mem_cons]
        constructor
        · rintro (h | h)
          · omega
          · exact h
        · exact .inr
      unfold addTo
      rw [List.getElem?_set_ne e]
      simp only [hj2]

theorem ofD_nodup (S A Q i : Nat) : (ofD S A Q i).Nodup := someD_nodup _ _ _

theorem hasR_next (S A Q m j : Nat) : (hasR S A Q (m + 1))[j]? = (hasR S A Q m)[j]?.map (fun r => if (j : Int) ∈ ofD S A Q m then r ++ [(m : Int)] else r) :=
  addAll_at m (ofD S A Q m) (hasR S A Q m) (ofD_nodup _ _ _ _) (fun x hx => (ofD_mem hx).1) j

/-- Whoever is in a row: it rises, and has just those that are in it. -/
structure RowOk (S A Q m j : Nat) (r : List Int) : Prop where
  lt : ∀ x ∈ r, 0 ≤ x ∧ x < (m : Int)
  up : r.Pairwise (· < ·)
  mem : ∀ i : Nat, (i : Int) ∈ r ↔ i < m ∧ (j : Int) ∈ ofD S A Q i

theorem hasR_ok (S A Q : Nat) : ∀ (m j : Nat) (r : List Int), (hasR S A Q m)[j]? = some r → RowOk S A Q m j r := by
  intro m
  induction m with
  | zero =>
    intro j r h
    unfold hasR at h
    rw [List.getElem?_replicate] at h
    split at h
    · obtain rfl := Option.some.inj h
      exact ⟨by simp, List.Pairwise.nil, by simp⟩
    · cases h
  | succ m ih =>
    intro j r h
    rw [hasR_next] at h
    cases hr : (hasR S A Q m)[j]? with
    | none => rw [hr] at h; cases h
    | some r0 =>
      rw [hr] at h
      have h0 := ih j r0 hr
      simp only [Option.map_some, Option.some.injEq] at h
      by_cases hj : (j : Int) ∈ ofD S A Q m
      · rw [if_pos hj] at h
        subst h
        refine ⟨?_, ?_, ?_⟩
        · intro x hx
          rcases List.mem_append.1 hx with hx | hx
          · have := h0.lt x hx
            omega
          · have := List.mem_singleton.1 hx
            omega
        · rw [List.pairwise_append]
          refine ⟨h0.up, by simp, ?_⟩
          intro x hx y hy
          have := h0.lt x hx
          have := List.mem_singleton.1 hy
          omega
        · intro i
          rw [List.mem_append, h0.mem i, List.mem_singleton]
          constructor
          · rintro (⟨h1, h2⟩ | h1)
            · exact ⟨by omega, h2⟩
            · have : i = m := by omega
              subst this
              exact ⟨by omega, hj⟩
          · rintro ⟨h1, h2⟩
            by_cases e : i = m
            · exact .inr (by omega)
            · exact .inl ⟨by omega, h2⟩
      · rw [if_neg hj] at h
        subst h
        refine ⟨?_, h0.up, ?_⟩
        · intro x hx
          have := h0.lt x hx
          omega
        · intro i
          rw [h0.mem i]
          constructor
          · rintro ⟨h1, h2⟩
            exact ⟨by omega, h2⟩
          · rintro ⟨h1, h2⟩
            refine ⟨?_, h2⟩
            by_cases e : i = m
            · subst e
              exact absurd h2 hj
            · omega

/-- How many there are in all. -/
def total (rows : List (List Int)) : Nat := (rows.map List.length).sum

theorem total_add (m : Int) : ∀ (rows : List (List Int)) (x : Nat), x < rows.length → total (addTo rows x m) = total rows + 1 := by
  intro rows
  induction rows with
  | nil => intro x h; simp at h
  | cons r rs ih =>
    intro x h
    cases x with
    | zero =>
      simp [addTo, total]
      omega
    | succ x =>
      have := ih x (by simpa using h)
      simp [addTo, total] at this ⊢
      omega

theorem total_all (m : Int) : ∀ (l : List Int) (rows : List (List Int)), (∀ x ∈ l, 0 ≤ x ∧ x < (rows.length : Int)) → total (addAll rows l m) = total rows + l.length := by
  intro l
  induction l with
  | nil => intro rows _; rfl
  | cons x l ih =>
    intro rows h
    have hx := h x (by simp)
    show total (addAll (addTo rows x.toNat m) l m) = _
    rw [ih _ (fun y hy => by rw [addTo_length]; exact h y (by simp [hy])), total_add m rows x.toNat (by omega), List.length_cons]
    omega

theorem total_has {S A Q : Nat} (h1 : 1 ≤ Q) (h2 : Q ≤ A) (m : Nat) : total (hasR S A Q m) = m * Q := by
  induction m with
  | zero => simp [hasR, total]
  | succ m ih =>
    unfold hasR
    rw [total_all _ _ _ (fun x hx => by rw [hasR_length]; exact ofD_mem hx), ih, ofD_length h1 h2, Nat.succ_mul]

/-- How many are in the first j rows. -/
def totalTo (rows : List (List Int)) (j : Nat) : Nat := total (rows.take j)
theorem totalTo_zero (rows : List (List Int)) : totalTo rows 0 = 0 := by simp [totalTo, total]
theorem totalTo_next {rows : List (List Int)} {j : Nat} {r : List Int} (h : rows[j]? = some r) : totalTo rows (j + 1) = totalTo rows j + r.length := by
  obtain ⟨hj, rfl⟩ := List.getElem?_eq_some_iff.1 h
  unfold totalTo total
  rw [List.take_succ_eq_append_getElem hj, List.map_append, List.sum_append]
  simp only [List.map_cons, List.map_nil, List.sum_cons, List.sum_nil, Nat.add_zero]
theorem totalTo_all {rows : List (List Int)} {j : Nat} (h : rows.length ≤ j) : totalTo rows j = total rows := by
  unfold totalTo
  rw [List.take_of_length_le h]

theorem hasR_short {S A Q : Nat} (m j : Nat) (r : List Int) (h : (hasR S A Q m)[j]? = some r) : r.length ≤ m := by
  have h0 := hasR_ok S A Q m j r h
  have hn : (r.map Int.toNat).Nodup := by
    rw [List.nodup_iff_pairwise_ne, List.pairwise_map]
    refine h0.up.imp_of_mem ?_
    intro a b ha hb hab
    have := h0.lt a ha
    have := h0.lt b hb
    omega
  have := nodup_le m (r.map Int.toNat) hn (by
    intro x hx
    obtain ⟨y, hy, rfl⟩ := List.mem_map.1 hx
    have := h0.lt y hy
    omega)
  simpa using this

end

section
/-
  outer: the document's Has.
-/
open Go.RowKit
set_option linter.unusedVariables false

/-- Rows of numbers behind a block of slices. -/
structure RfI (Bs : Nat) (W : World) (qb A : Nat) (vs : List Value) (rows : List (List Int)) : Prop where
  hc : W.heap[qb]? = some (.cells vs.toArray 29 (0, 0))
  lv : vs.length = A
  lr : rows.length = A
  own : ∀ (i : Nat) (v : Value) (l : List Int), vs[i]? = some v → rows[i]? = some l → OwnZ Bs W v l.length l
  hq : Bs ≤ qb

theorem own_ne {B : Nat} {w : World} {v : Value} {n : Nat} {l : List Int} (h : OwnZ B w v n l) {g : Nat} {cs : Array Value} {t : TypeId} {fr : Nat × Nat} (hg : w.heap[g]? = some (.cells cs t fr)) (ht : t ≠ 3) : v.ownBlock ≠ some g := by
  intro e
  obtain ⟨cur, hh⟩ := own_cells h e
  rw [hg] at hh
  injection hh with hh
  injection hh with _ hh _
  exact ht hh

section
variable {Bs : Nat} {W W' : World} {qb A : Nat} {vs : List Value} {rows : List (List Int)}

theorem RfI.lt (h : RfI Bs W qb A vs rows) : qb < W.heap.size := (Array.getElem?_eq_some_iff.1 h.hc).1
theorem RfI.below (h : RfI Bs W qb A vs rows) (b : Below W.heap.size W W') : RfI Bs W' qb A vs rows :=
  ⟨heap_stays b h.hc, h.lv, h.lr, fun i v l hv hl => (h.own i v l hv hl).below b, h.hq⟩
theorem RfI.cell (h : RfI Bs W qb A vs rows) {i : Nat} {v : Value} (hv : vs[i]? = some v) : W.cell? ⟨qb, i, none⟩ = some v := by
  simp [World.cell?, h.hc, hv]
theorem RfI.free (h : RfI Bs W qb A vs rows) (i : Nat) : W.frozen? ⟨qb, i, none⟩ = false := by
  simp [World.frozen?, h.hc]
theorem RfI.row (h : RfI Bs W qb A vs rows) {i : Nat} (hi : i < A) : ∃ v l, vs[i]? = some v ∧ rows[i]? = some l :=
  ⟨_, _, List.getElem?_eq_getElem (by rw [h.lv]; exact hi), List.getElem?_eq_getElem (by rw [h.lr]; exact hi)⟩

theorem RfI.store (h : RfI Bs W qb A vs rows) (x : Nat) {v' : Value} {r' : List Int} (ho : OwnZ Bs W v' r'.length r') : RfI Bs (W.setCell ⟨qb, x, none⟩ v') qb A (vs.set x v') (rows.set x r') := by
  have key : ∀ k, k ≠ qb → (W.setCell ⟨qb, x, none⟩ v').heap[k]? = W.heap[k]? := fun k hk => Below.heap_setCell _ _ _ _ hk
  refine ⟨heap_setCell_at h.hc v', by rw [List.length_set]; exact h.lv, by rw [List.length_set]; exact h.lr, ?_, h.hq⟩
  have keep : ∀ (v : Value) (n : Nat) (l : List Int), OwnZ Bs W v n l → OwnZ Bs (W.setCell ⟨qb, x, none⟩ v') v n l := fun v n l hO => hO.kept (fun q hq => key q (fun e => own_ne hO h.hc (by decide) (by rw [hq, e])))
  intro i v l hv hl
  by_cases e : x = i
  · subst e
    have hx : x < vs.length := by
      rcases Nat.lt_or_ge x vs.length with h1 | h1
      · exact h1
      · rw [List.getElem?_eq_none (by rw [List.length_set]; exact h1)] at hv
        cases hv
    rw [List.getElem?_set_self hx] at hv
    rw [List.getElem?_set_self (by rw [h.lr, ← h.lv]; exact hx)] at hl
    obtain rfl := Option.some.inj hv
    obtain rfl := Option.some.inj hl
    exact keep _ _ _ ho
  · rw [List.getElem?_set_ne e] at hv hl
    exact keep _ _ _ (h.own i v l hv hl)
end

theorem rfi_start {Bs : Nat} {W : World} {qb : Nat} (S A Q : Nat) (h : W.heap[qb]? = some (.cells (nils A).toArray 29 (0, 0))) (hq : Bs ≤ qb) : RfI Bs W qb A (nils A) (hasR S A Q 0) := by
  refine ⟨h, by simp [nils], by simp [hasR], ?_, hq⟩
  intro i v l hv hl
  unfold nils at hv
  rw [List.getElem?_replicate] at hv
  unfold hasR at hl
  rw [List.getElem?_replicate] at hl
  by_cases hi : i < A
  · rw [if_pos hi] at hv hl
    obtain rfl := Option.some.inj hv
    obtain rfl := Option.some.inj hl
    exact OwnZ.nil _ _
  · rw [if_neg hi] at hv
    cases hv

theorem Fd.yet {listed : Array Bool} {xv : Nat → Value} {W : World} {i j : Nat} {p : Value → World → Prop} {o : Nat} (h : listed.getD i false = false) (hi : i ≠ o) (v : Value) : Fd (listed.setIfInBounds o true) (updV xv o v) W i j p := by
  intro a
  rw [getD_set_other hi, h] at a
  cases a

/-- No numbers yet. -/
def IsE0 (B : Nat) : Value → World → Prop := fun v W => ∃ q, v = .slice (some ⟨q, 0, none⟩) 0 0 ∧ B ≤ q ∧ W.heap[q]? = some (.cells #[] 3 (0, 0))
theorem stays_e0 (B : Nat) : Stays (IsE0 B) := fun _ _ _ hb ⟨q, h1, h2, h3⟩ => ⟨q, h1, h2, heap_stays hb h3⟩
theorem e0_own {B q : Nat} {W : World} (h2 : B ≤ q) (h3 : W.heap[q]? = some (.cells #[] 3 (0, 0))) : OwnZ B W (.slice (some ⟨q, 0, none⟩) 0 0) 0 [] :=
  ⟨rfl, .inr ⟨q, 0, #[], rfl, h2, h3, Nat.le_refl _, by simp [maxLen], rfl, rfl⟩⟩
theorem z1_grown {x : Int} {v : Value} {W W' : World} {q : Nat} {t : TypeId} (h : IsZ1 x v W) (hq : W.heap[q]? = some (.cells #[] t (0, 0))) (hg : W.grownBy W' (some q)) : IsZ1 x v W' := by
  obtain ⟨h1, ao, cap, hv, h2, h3, h4, h5⟩ := h
  refine ⟨h1, ao, cap, hv, h2, h3, h4, ?_⟩
  rcases h5 with h5 | ⟨b, off, hao, h5⟩
  · cases h5
  · refine .inr ⟨b, off, hao, fun j u hj => ?_⟩
    have hc := h5 j u hj
    have hne : b ≠ q := by
      rintro rfl
      simp [World.cell?, hq] at hc
    rw [← hc]
    exact World.cell?_of_block (a := ⟨b, off + j, none⟩) (hg.block b (cell_block_lt hc) (fun e => hne (Option.some.inj e)))

/-- What the document's Has keeps. -/
structure RhI (w W : World) (b0 : Nat) (N B Q E F : Int) (qb A : Nat) (vs : List Value) (rows : List (List Int)) (lv : Value) (ln : Nat) (l : List Int) : Prop where
  f : RfI w.heap.size W qb A vs rows
  z : OwnZ w.heap.size W lv ln l
  p : FiveB W b0 N B Q E F
  b : Below w.heap.size w W

section
variable {w W W' : World} {b0 : Nat} {N B Q E F : Int} {qb A : Nat} {vs : List Value} {rows : List (List Int)} {lv : Value} {ln : Nat} {l : List Int}
theorem RhI.below (h : RhI w W b0 N B Q E F qb A vs rows lv ln l) (hb : Below W.heap.size W W') : RhI w W' b0 N B Q E F qb A vs rows lv ln l := ⟨h.f.below hb, h.z.below hb, h.p.below hb, below_on h.b hb⟩
theorem RhI.store (h : RhI w W b0 N B Q E F qb A vs rows lv ln l) (x : Nat) {v' : Value} {r' : List Int} (ho : OwnZ w.heap.size W v' r'.length r') : RhI w (W.setCell ⟨qb, x, none⟩ v') b0 N B Q E F qb A (vs.set x v') (rows.set x r') lv ln l := by
  have key : ∀ k, k ≠ qb → (W.setCell ⟨qb, x, none⟩ v').heap[k]? = W.heap[k]? := fun k hk => Below.heap_setCell _ _ _ _ hk
  refine ⟨h.f.store x ho, h.z.kept (fun q hq => key q (fun e => own_ne h.z h.f.hc (by decide) (by rw [hq, e]))), ?_, h.b.setCell h.f.hq _⟩
  unfold FiveB
  rw [key b0 (fun e => ?_)]
  · exact h.p
  · have h1 := h.p
    unfold FiveB at h1
    rw [e, h.f.hc] at h1
    injection h1 with h1
    injection h1 with _ h1 _
    exact absurd h1 (by decide)
end

def IsRh (w : World) (b0 : Nat) (N B Q E F : Int) (qb A : Nat) (rows : List (List Int)) (lv : Value) (ln : Nat) (l : List Int) : Value → World → Prop := fun _ W => ∃ vs, RhI w W b0 N B Q E F qb A vs rows lv ln l
theorem stays_rh (w : World) (b0 : Nat) (N B Q E F : Int) (qb A : Nat) (rows : List (List Int)) (lv : Value) (ln : Nat) (l : List Int) : Stays (IsRh w b0 N B Q E F qb A rows lv ln l) := fun _ _ _ hb ⟨vs, h⟩ => ⟨vs, h.below hb⟩

end

section
/-
  outer: the document's Equations.
-/
open Go.RowKit
set_option linter.unusedVariables false

/-- What lies in a slot until an operation writes it. -/
def Ini4 (listed : Array Bool) (xv : Nat → Value) (c : Nat) (v : Value) : Prop := listed.getD c false = false → xv c = v
theorem Ini4.skip {listed : Array Bool} {xv : Nat → Value} {c i : Nat} {v u : Value} (h : Ini4 listed xv c v) (hc : c ≠ i) : Ini4 (listed.setIfInBounds i true) (updV xv i u) c v := by
  intro a
  rw [getD_set_other hc] at a
  unfold updV
  rw [if_neg hc]
  exact h a
theorem Ini4.done {listed : Array Bool} {xv : Nat → Value} {c : Nat} {v u : Value} (h : listed.getD c true = false) : Ini4 (listed.setIfInBounds c true) (updV xv c u) c v := by
  intro a
  rw [getD_set_self h] at a
  cases a

/-- The equations of the first j rows. -/
def eqTo (rows : List (List Int)) (N j : Nat) : List (List Int) := (List.range j).map fun i => rows.getD i [] ++ [(N : Int) + (i : Int)]
theorem eqTo_length (rows : List (List Int)) (N j : Nat) : (eqTo rows N j).length = j := by simp [eqTo]
theorem eqTo_next {rows : List (List Int)} {N j : Nat} {r : List Int} (h : rows[j]? = some r) : eqTo rows N (j + 1) = eqTo rows N j ++ [r ++ [(N : Int) + (j : Int)]] := by
  unfold eqTo
  rw [List.range_succ, List.map_append, List.map_cons, List.map_nil, List.getD_eq_getElem?_getD, h]
  rfl
theorem eqTo_at {rows : List (List Int)} {N A j : Nat} {r : List Int} (h : rows[j]? = some r) (hj : j < A) : (eqTo rows N A)[j]? = some (r ++ [(N : Int) + (j : Int)]) := by
  unfold eqTo
  rw [List.getElem?_map, List.getElem?_range hj, Option.map_some, List.getD_eq_getElem?_getD, h]
  rfl

/-- What the document's Equations keeps. -/
structure EqI (w W : World) (b0 : Nat) (N B Q E F : Int) (qb A : Nat) (vs : List Value) (rows : List (List Int)) (ov : Value) (on : Nat) (vE : List Value) (eqs : List (List Int)) : Prop where
  f : RfI w.heap.size W qb A vs rows
  p : FiveB W b0 N B Q E F
  b : Below w.heap.size w W
  o : W.ownsRow w.heap.size 29 1 ov on vE
  ne : ov.ownBlock ≠ some qb
  le : eqs.length = on
  rd : ∀ (i : Nat) (v : Value) (l : List Int), vE[i]? = some v → eqs[i]? = some l → OwnZ w.heap.size W v l.length l

section
variable {w W W' : World} {b0 : Nat} {N B Q E F : Int} {qb A : Nat} {vs : List Value} {rows : List (List Int)} {ov : Value} {on : Nat} {vE : List Value} {eqs : List (List Int)}

theorem EqI.below (h : EqI w W b0 N B Q E F qb A vs rows ov on vE eqs) (hb : Below W.heap.size W W') : EqI w W' b0 N B Q E F qb A vs rows ov on vE eqs :=
  ⟨h.f.below hb, h.p.below hb, below_on h.b hb, owns_kept h.o (fun q hq => hb.block q (h.o.lt q hq).2), h.ne, h.le, fun i v l hv hl => (h.rd i v l hv hl).below hb⟩

theorem EqI.len (h : EqI w W b0 N B Q E F qb A vs rows ov on vE eqs) : vE.length = on := by
  have := h.o.1
  omega

theorem EqI.push (h : EqI w W b0 N B Q E F qb A vs rows ov on vE eqs) {v ov' : Value} {r : List Int} (hv : OwnZ w.heap.size W v r.length r) (hg : W.grownBy W' ov.ownBlock) (ho : W'.ownsRow w.heap.size 29 1 ov' (on + 1) (vE ++ [v])) (hat : ov'.ownBlock = ov.ownBlock ∨ ov'.ownBlock = some W.heap.size) :
    EqI w W' b0 N B Q E F qb A vs rows ov' (on + 1) (vE ++ [v]) (eqs ++ [r]) := by
  have hty : ∀ g, ov.ownBlock = some g → ∃ cur, W.heap[g]? = some (.cells cur 29 (0, 0)) := by
    intro g hg'
    rcases h.o.2 with ⟨hv', _⟩ | ⟨g', cap, cur, hv', _, hh, _⟩
    · rw [hv'] at hg'
      cases hg'
    · rw [hv'] at hg'
      obtain rfl := Option.some.inj hg'
      exact ⟨cur, hh⟩
  have keep : ∀ (u : Value) (n : Nat) (l : List Int), OwnZ w.heap.size W u n l → OwnZ w.heap.size W' u n l := by
    intro u n l hO
    refine hO.kept (fun q hq => hg.block q (hO.lt q hq).2 (fun e => ?_))
    obtain ⟨cur, hh⟩ := hty q e.symm
    exact own_ne hO hh (by decide) hq
  refine ⟨⟨?_, h.f.lv, h.f.lr, fun i u l hu hl => keep _ _ _ (h.f.own i u l hu hl), h.f.hq⟩, ?_, ?_, ho, ?_, by rw [List.length_append, h.le]; rfl, ?_⟩
  · rw [hg.block qb h.f.lt (fun e => h.ne e.symm)]
    exact h.f.hc
  · unfold FiveB
    rw [hg.block b0 h.p.lt (fun e => ?_)]
    · exact h.p
    · obtain ⟨cur, hh⟩ := hty b0 e.symm
      have h1 := h.p
      unfold FiveB at h1
      rw [h1] at hh
      injection hh with hh
      injection hh with _ hh _
      exact absurd hh (by decide)
  · exact h.b.grown hg h.b.size (fun k hk => (h.o.lt k hk).1)
  · rcases hat with h1 | h1
    · rw [h1]
      exact h.ne
    · rw [h1]
      intro e
      have := h.f.lt
      injection e with e
      omega
  · intro i u l hu hl
    have hlen := h.len
    have hle := h.le
    by_cases hi : i < on
    · rw [List.getElem?_append_left (by omega)] at hu hl
      exact keep _ _ _ (h.rd i u l hu hl)
    · by_cases e : i = on
      · subst e
        rw [List.getElem?_append_right (by omega)] at hu hl
        rw [hlen, Nat.sub_self] at hu
        rw [hle, Nat.sub_self] at hl
        simp at hu hl
        subst hu
        subst hl
        exact keep _ _ _ hv
      · rw [List.getElem?_eq_none (by simp; omega)] at hu
        cases hu
end

theorem s1_sl {W : World} {p : Nat} {u : Value} (h : W.cell? ⟨p, 0, none⟩ = some u) : Sl 1 W (.slice (some ⟨p, 0, none⟩) 1 1) 1 [u] := by
  refine ⟨rfl, _, _, rfl, Nat.le_refl _, by simp [maxLen], fun h => by simp at h, .inr ⟨p, 0, rfl, ?_⟩⟩
  intro j v hj
  have : j = 0 := by have := (List.getElem?_eq_some_iff.1 hj).1; simp at this; omega
  subst this
  simp at hj
  subst hj
  exact h

def IsS1 (Bs n : Nat) (l : List Int) : Value → World → Prop := fun v W => ∃ p a c, v = .slice (some ⟨p, 0, none⟩) 1 1 ∧ W.cell? ⟨p, 0, none⟩ = some (.slice a n c) ∧ OwnZ Bs W (.slice a n c) n l
theorem stays_s1 (Bs n : Nat) (l : List Int) : Stays (IsS1 Bs n l) := fun _ _ _ hb ⟨p, a, c, h1, h2, h3⟩ => ⟨p, a, c, h1, (hb.cell (cell_block_lt h2)).trans h2, h3.below hb⟩
def IsEq (w : World) (b0 : Nat) (N B Q E F : Int) (qb A : Nat) (vs : List Value) (rows : List (List Int)) (on : Nat) (eqs : List (List Int)) : Value → World → Prop :=
  fun v W => ∃ a c vE, v = .slice a on c ∧ EqI w W b0 N B Q E F qb A vs rows (.slice a on c) on vE eqs
theorem stays_eq (w : World) (b0 : Nat) (N B Q E F : Int) (qb A : Nat) (vs : List Value) (rows : List (List Int)) (on : Nat) (eqs : List (List Int)) : Stays (IsEq w b0 N B Q E F qb A vs rows on eqs) := fun _ _ _ hb ⟨a, c, vE, h1, h2⟩ => ⟨a, c, vE, h1, h2.below hb⟩

end

end Go.Proofs.YtkckbeekehecnaaGreat
