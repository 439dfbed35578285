/-
  outer: a graph as it lies, and what is read of it: Message, Auxiliary, Of, Has, Equation.
-/
import Derived.Test.YthlladpappldbaaSmpS
import Derived.Test.YthlladpappldbaaLFd
namespace Go.Proofs.Ythlladpappldbaa
open Go.RowKit
set_option linter.unusedVariables false

/-- A graph at a block: its rows lie behind the block hb. -/
structure IsGr (w : World) (g hb S N Q A : Nat) (vs : List Value) (rows : List (List Int)) : Prop where
  c0 : w.cell? ⟨g, 0, none⟩ = some (.int .u64 (S : Int))
  c1 : w.cell? ⟨g, 1, none⟩ = some (.int .i64 (N : Int))
  c2 : w.cell? ⟨g, 2, none⟩ = some (.int .i64 (Q : Int))
  c3 : w.cell? ⟨g, 3, none⟩ = some (.slice (some ⟨hb, 0, none⟩) A A)
  lv : vs.length = A
  lr : rows.length = A
  cv : ∀ (i : Nat) (v : Value), vs[i]? = some v → w.cell? ⟨hb, i, none⟩ = some v
  rd : ∀ (i : Nat) (v : Value) (l : List Int), vs[i]? = some v → rows[i]? = some l → Zs w v l

theorem IsGr.below {w w' : World} {g hb S N Q A : Nat} {vs : List Value} {rows : List (List Int)} (h : IsGr w g hb S N Q A vs rows) (b : Below w.heap.size w w') : IsGr w' g hb S N Q A vs rows :=
  ⟨(b.cell (cell_block_lt h.c0)).trans h.c0, (b.cell (cell_block_lt h.c1)).trans h.c1, (b.cell (cell_block_lt h.c2)).trans h.c2, (b.cell (cell_block_lt h.c3)).trans h.c3, h.lv, h.lr,
    fun i v hv => (b.cell (cell_block_lt (h.cv i v hv))).trans (h.cv i v hv), fun i v l hv hl => (h.rd i v l hv hl).below b⟩

/-- Numbers that may be. -/
structure GrOk (S N Q A : Nat) : Prop where
  s : S < 18446744073709551616
  n : N ≤ 1048576
  q : Q ≤ 8
  a1 : 1 ≤ A
  a : A ≤ 16777216
  qa : Q ≤ A
  q1 : 1 ≤ Q

set_option maxHeartbeats 400000 in
theorem oaux_any (g hb S N Q A : Nat) (vs : List Value) (rows : List (List Int)) (w : World) (h : IsGr w g hb S N Q A vs rows) :
    Calls Try.prog 26 #[.pointer (some ⟨g, 0, none⟩)] w fun e w' => e = .returned (.int .i64 (A : Int)) ∧ w' = w := by
  have c3 := h.c3
  clear h
  go_enter Try.func26, Try.ntmps26
  go_wp2
  go_ret
  exact ⟨rfl, rfl⟩

set_option maxHeartbeats 400000 in
theorem omsg_any (g hb S N Q A : Nat) (vs : List Value) (rows : List (List Int)) (w : World) (h : IsGr w g hb S N Q A vs rows) :
    Calls Try.prog 25 #[.pointer (some ⟨g, 0, none⟩)] w fun e w' => e = .returned (.int .i64 (N : Int)) ∧ w' = w := by
  have c1 := h.c1
  clear h
  go_enter Try.func25, Try.ntmps25
  go_wp2
  go_ret
  exact ⟨rfl, rfl⟩

/-- The auxiliary blocks of a message block. -/
def ofD (S A Q i : Nat) : List Int := (someD (seedTo 0 [S, 1, i]) (A : Int) (Q : Int)).2

theorem ofD_length {S A Q i : Nat} (h1 : 1 ≤ Q) (h2 : Q ≤ A) : (ofD S A Q i).length = Q := by
  unfold ofD
  rw [someD_length]
  unfold howMany
  split <;> omega

def IsUs (l : List Nat) : Value → World → Prop := fun v W => Us W v l
theorem stays_us (l : List Nat) : Stays (IsUs l) := fun _ _ _ hb h => Us.below h hb
def IsRd (B s : Nat) : Value → World → Prop := fun v W => ∃ r, v = .pointer (some ⟨r, 0, none⟩) ∧ B ≤ r ∧ IsRand W r s
theorem stays_rd (B s : Nat) : Stays (IsRd B s) := fun _ _ _ hb ⟨r, h1, h2, h3⟩ => ⟨r, h1, h2, h3.below hb⟩
def IsOz (B n : Nat) (l : List Int) : Value → World → Prop := fun v W => ∃ a c, v = .slice a n c ∧ OwnZ B W (.slice a n c) n l
theorem stays_oz (B n : Nat) (l : List Int) : Stays (IsOz B n l) := fun _ _ _ hb ⟨a, c, h1, h2⟩ => ⟨a, c, h1, h2.below hb⟩
theorem IsOz.zs {B n : Nat} {l : List Int} {v : Value} {W : World} (h : IsOz B n l v W) : Zs W v l := by
  obtain ⟨a, c, rfl, h⟩ := h
  exact h.zs

theorem us_lit3 (w : World) (t : TypeId) (x y z : Nat) (hx : x < 18446744073709551616) (hy : y < 18446744073709551616) (hz : z < 18446744073709551616) (b : Nat) (hb : b = w.heap.size) : Us (w.alloc (.cells #[.int .u64 (x : Int), .int .u64 (y : Int), .int .u64 (z : Int)] t)) (.slice (some ⟨b, 0, none⟩) 3 3) [x, y, z] :=
  ⟨Sl.lit w [uv x, uv y, uv z] t b 3 hb rfl (by simp), by intro q hq; simp at hq; rcases hq with rfl | rfl | rfl <;> assumption⟩

set_option maxRecDepth 100000 in
set_option maxHeartbeats 1000000 in
/-- OF: what is drawn. -/
theorem oof_yes (g hb S N Q A i : Nat) (vs : List Value) (rows : List (List Int)) (w : World) (h : IsGr w g hb S N Q A vs rows) (ok : GrOk S N Q A) (hi : i < N) :
    Calls Try.prog 28 #[.pointer (some ⟨g, 0, none⟩), .int .i64 i] w fun e w' => ∃ a c, e = .returned (.slice a Q c) ∧ OwnZ w.heap.size w' (.slice a Q c) Q (ofD S A Q i) ∧ Below w.heap.size w w' := by
  have HG : Hid (IsGr w g hb S N Q A vs rows) := h
  have c1 := h.c1
  have BX : Hid (∀ W, Below w.heap.size w W → W.cell? ⟨g, 0, none⟩ = some (.int .u64 (S : Int)) ∧ W.cell? ⟨g, 1, none⟩ = some (.int .i64 (N : Int)) ∧ W.cell? ⟨g, 2, none⟩ = some (.int .i64 (Q : Int))) := fun W hW => ⟨(hW.cell (cell_block_lt h.c0)).trans h.c0, (hW.cell (cell_block_lt h.c1)).trans h.c1, (hW.cell (cell_block_lt h.c2)).trans h.c2⟩
  have hN := ok.n
  have HS : Hid (S < 18446744073709551616) := ok.s
  obtain ⟨t, l, hT⟩ : ∃ t l, someD (seedTo 0 [S, 1, i]) (A : Int) (Q : Int) = (t, l) := ⟨_, _, rfl⟩
  have HL : Hid (ofD S A Q i = l) := by unfold Hid ofD; rw [hT]
  have hA := ok.a
  have hk : howMany (A : Int) (Q : Int) = Q := by
    have := ok.q1
    have := ok.qa
    unfold howMany
    split <;> omega
  have HC : Hid (∀ W r, IsRand W r (seedTo 0 [S, 1, i]) → Calls Try.prog 15 #[.pointer (some ⟨r, 0, none⟩), .int .i64 A, .int .i64 Q] W fun e w' => ∃ a c, e = .returned (.slice a Q c) ∧ OwnZ W.heap.size w' (.slice a Q c) Q l ∧ IsRand w' r t ∧ KeepsBut (fun x => x = r) W w') := fun W r hr => some_any r _ A Q W hr (by omega) Q hk t l hT
  clear hT hk hA ok h
  have CN : Hid (∀ W v, Below w.heap.size w W → IsUs [S, 1, i] v W → Calls Try.prog 12 #[v] W fun e w' => ∃ v, e = .returned v ∧ IsRd w.heap.size (seedTo 0 [S, 1, i]) v w' ∧ Below W.heap.size W w') := by
    intro W v hW hv
    refine (rnew_any v _ W hv).mono ?_
    rintro e w' ⟨rfl, h1, h2, -⟩
    exact ⟨_, rfl, ⟨_, rfl, hW.size, h1⟩, h2⟩
  generalize seedTo 0 [S, 1, i] = s at *
  have CA : Hid (∀ W, Below w.heap.size w W → Calls Try.prog 26 #[.pointer (some ⟨g, 0, none⟩)] W fun e w' => ∃ v, e = .returned v ∧ IsV (.int .i64 (A : Int)) v w' ∧ Below W.heap.size W w') := by
    intro W hW
    refine (oaux_any g hb S N Q A vs rows W (HG.out.below hW)).mono ?_
    rintro e w' ⟨rfl, rfl⟩
    exact ⟨_, rfl, rfl, Below.refl _ _⟩
  clear HG
  have hwi : IntKind.u64.wrap (i : Int) = (i : Int) := by rw [IntKind.wrap_u64]; omega
  go_enter Try.func28, Try.ntmps28
  go_upto_region 3 with fail
  clear c1
  have hiG : ¬ N ≤ i := by omega

  refine wp_region_any (by kernel_rfl) ?_
  obtain ⟨gs, hgs⟩ : ∃ gs : List (Value → World → Prop), gs = [IsV (Value.pointer (some { block := g, off := 0 })), IsV (Value.pointer (some { block := g, off := 0 })), IsV (.pointer (some ⟨g, 0, none⟩)), IsV (.int .u64 (S : Int)), IsV (Value.int IntKind.i64 ↑i), IsV (.int .u64 (i : Int)), IsAnyV, IsAnyV, IsV (Value.pointer (some { block := g, off := 0 })), IsV (.int .i64 (A : Int)), IsV (Value.pointer (some { block := g, off := 0 })), IsV (Value.pointer (some { block := g, off := 0 })), IsV (.pointer (some ⟨g, 2, none⟩)), IsV (.int .i64 (Q : Int)), IsAnyV, IsAnyV] := ⟨_, rfl⟩
  have g0 : Hid (gs[0]? = some (IsV (Value.pointer (some { block := g, off := 0 })))) := by unfold Hid; rw [hgs]; rfl
  have g1 : Hid (gs[1]? = some (IsV (Value.pointer (some { block := g, off := 0 })))) := by unfold Hid; rw [hgs]; rfl
  have g2 : Hid (gs[2]? = some (IsV (.pointer (some ⟨g, 0, none⟩)))) := by unfold Hid; rw [hgs]; rfl
  have g3 : Hid (gs[3]? = some (IsV (.int .u64 (S : Int)))) := by unfold Hid; rw [hgs]; rfl
  have g4 : Hid (gs[4]? = some (IsV (Value.int IntKind.i64 ↑i))) := by unfold Hid; rw [hgs]; rfl
  have g5 : Hid (gs[5]? = some (IsV (.int .u64 (i : Int)))) := by unfold Hid; rw [hgs]; rfl
  have g6 : Hid (gs[6]? = some (IsAnyV)) := by unfold Hid; rw [hgs]; rfl
  have g7 : Hid (gs[7]? = some (IsAnyV)) := by unfold Hid; rw [hgs]; rfl
  have g8 : Hid (gs[8]? = some (IsV (Value.pointer (some { block := g, off := 0 })))) := by unfold Hid; rw [hgs]; rfl
  have g9 : Hid (gs[9]? = some (IsV (.int .i64 (A : Int)))) := by unfold Hid; rw [hgs]; rfl
  have g10 : Hid (gs[10]? = some (IsV (Value.pointer (some { block := g, off := 0 })))) := by unfold Hid; rw [hgs]; rfl
  have g11 : Hid (gs[11]? = some (IsV (Value.pointer (some { block := g, off := 0 })))) := by unfold Hid; rw [hgs]; rfl
  have g12 : Hid (gs[12]? = some (IsV (.pointer (some ⟨g, 2, none⟩)))) := by unfold Hid; rw [hgs]; rfl
  have g13 : Hid (gs[13]? = some (IsV (.int .i64 (Q : Int)))) := by unfold Hid; rw [hgs]; rfl
  have g14 : Hid (gs[14]? = some (IsAnyV)) := by unfold Hid; rw [hgs]; rfl
  have g15 : Hid (gs[15]? = some (IsAnyV)) := by unfold Hid; rw [hgs]; rfl
  have gk : Hid (∀ p ∈ gs, ∀ v (U U' : World), p v U → p v U') := by
    unfold Hid
    rw [hgs]
    simp only [List.forall_mem_cons]
    exact ⟨(fun _ _ _ h => h), (fun _ _ _ h => h), (fun _ _ _ h => h), (fun _ _ _ h => h), (fun _ _ _ h => h), (fun _ _ _ h => h), (fun _ _ _ h => h), (fun _ _ _ h => h), (fun _ _ _ h => h), (fun _ _ _ h => h), (fun _ _ _ h => h), (fun _ _ _ h => h), (fun _ _ _ h => h), (fun _ _ _ h => h), (fun _ _ _ h => h), (fun _ _ _ h => h), by simp⟩
  clear hgs
  have JS : Hid (∀ W W', Below W.heap.size W W' → (fun W => Below w.heap.size w W) W → (fun W => Below w.heap.size w W) W') := fun W W' hb h => h.trans (hb.mono h.size)
  have st6 : Hid (Stays (IsUs [S, 1, i])) := stays_us _
  have st7 : Hid (Stays (IsRd w.heap.size s)) := stays_rd _ _
  have st14 : Hid (Stays (IsOz w.heap.size Q l)) := stays_oz _ _ _
  have st15 : Hid (Stays (IsOz w.heap.size Q l)) := stays_oz _ _ _
  refine wpAny_inv4 (fun listed ac W => ∃ xv : Nat → Value, ac = ⟨#[Value.pointer (some { block := g, off := 0 }), Value.int IntKind.i64 ↑i, undef, undef, xv 15, Value.int IntKind.i64 ↑i, Value.bool (decide (↑i < (0 : Int))), Value.bool (decide (↑i < (0 : Int))), Value.int IntKind.i64 ↑i, Value.pointer (some { block := g, off := 0 }), Value.pointer (some { block := g, off := 0 }), Value.pointer (some { block := g, off := 1 }), Value.int IntKind.i64 ↑N, Value.bool (decide (N ≤ i)), Value.bool (decide (↑i < (0 : Int)) || decide (N ≤ i)), xv 0, xv 1, xv 2, xv 3, xv 4, xv 5, xv 6, xv 7, xv 8, xv 9, xv 10, xv 11, xv 12, xv 13, xv 14], []⟩ ∧ (fun W => Below w.heap.size w W) W ∧ Lst gs listed xv W ∧ Fd listed xv W 6 7 (IsUs [S, 1, i]) ∧ Fd listed xv W 7 14 (IsRd w.heap.size s) ∧ Fe listed xv W 14 (IsOz w.heap.size Q l) ∧ Fe listed xv W 15 (IsOz w.heap.size Q l)) (by kernel_rfl) ?_ ?_ _ _ _ _ (by kernel_rfl) (of_decide_eq_true (by kernel_rfl)) (Down.start _) ⟨fun j => if j = 15 then Value.slice none 0 0 else undef, rfl, below0 _, Lst.start _ _ _ _, Fd.start _ _ _ _ _ _, Fd.start _ _ _ _ _ _, Fe.start _ _ _ _ _, Fe.start _ _ _ _ _⟩
  · rintro listed ac W ⟨xv, rfl, hb, hG, hF6, hF7, hF14, hF15⟩ hD i hi hnl hd
    have hin : i < 16 := hi
    clear hi
    have hcase : i = 0 ∨ i = 1 ∨ i = 2 ∨ i = 3 ∨ i = 4 ∨ i = 5 ∨ i = 6 ∨ i = 7 ∨ i = 8 ∨ i = 9 ∨ i = 10 ∨ i = 11 ∨ i = 12 ∨ i = 13 ∨ i = 14 ∨ i = 15 := by omega
    rcases hcase with rfl | rfl | rfl | rfl | rfl | rfl | rfl | rfl | rfl | rfl | rfl | rfl | rfl | rfl | rfl | rfl
    · refine wpOp_step rfl (fun K' hK => ?_)
      clear hd hin hD
      go_simp
      exact hK _ _ ⟨updV xv 0 (Value.pointer (some { block := g, off := 0 })), by simp [updV, hiG], hb, hG.any gk.out g0.out _ rfl, hF6.step (fun _ h => h) (by decide) (by decide) _, hF7.step (fun _ h => h) (by decide) (by decide) _, hF14.step (fun _ h => h) (by decide) _, hF15.step (fun _ h => h) (by decide) _⟩
    · refine wpOp_step rfl (fun K' hK => ?_)
      simp [Region.binds] at hd
      have e0 : xv 0 = Value.pointer (some { block := g, off := 0 }) := hG.get g0.out (by simp [hd])
      clear hd hin hD
      go_simp
      exact hK _ _ ⟨updV xv 1 (Value.pointer (some { block := g, off := 0 })), by simp [updV, e0, hiG], hb, hG.any gk.out g1.out _ rfl, hF6.step (fun _ h => h) (by decide) (by decide) _, hF7.step (fun _ h => h) (by decide) (by decide) _, hF14.step (fun _ h => h) (by decide) _, hF15.step (fun _ h => h) (by decide) _⟩
    · refine wpOp_step rfl (fun K' hK => ?_)
      simp [Region.binds] at hd
      have e1 : xv 1 = Value.pointer (some { block := g, off := 0 }) := hG.get g1.out (by simp [hd])
      clear hd hin hD
      go_simp
      exact hK _ _ ⟨updV xv 2 (.pointer (some ⟨g, 0, none⟩)), by simp [updV, e1, hiG], hb, hG.any gk.out g2.out _ rfl, hF6.step (fun _ h => h) (by decide) (by decide) _, hF7.step (fun _ h => h) (by decide) (by decide) _, hF14.step (fun _ h => h) (by decide) _, hF15.step (fun _ h => h) (by decide) _⟩
    · refine wpOp_step rfl (fun K' hK => ?_)
      simp [Region.binds] at hd
      have e2 : xv 2 = .pointer (some ⟨g, 0, none⟩) := hG.get g2.out (by simp [hd])
      obtain ⟨c0, c1, c2⟩ := BX.out W hb
      clear hd hin hD
      go_simp
      exact hK _ _ ⟨updV xv 3 (.int .u64 (S : Int)), by simp [updV, e2, hiG], hb, hG.any gk.out g3.out _ rfl, hF6.step (fun _ h => h) (by decide) (by decide) _, hF7.step (fun _ h => h) (by decide) (by decide) _, hF14.step (fun _ h => h) (by decide) _, hF15.step (fun _ h => h) (by decide) _⟩
    · refine wpOp_step rfl (fun K' hK => ?_)
      clear hd hin hD
      go_simp
      exact hK _ _ ⟨updV xv 4 (Value.int IntKind.i64 ↑i), by simp [updV, hiG], hb, hG.any gk.out g4.out _ rfl, hF6.step (fun _ h => h) (by decide) (by decide) _, hF7.step (fun _ h => h) (by decide) (by decide) _, hF14.step (fun _ h => h) (by decide) _, hF15.step (fun _ h => h) (by decide) _⟩
    · refine wpOp_step rfl (fun K' hK => ?_)
      simp [Region.binds] at hd
      have e4 : xv 4 = Value.int IntKind.i64 ↑i := hG.get g4.out (by simp [hd])
      clear hd hin hD
      go_simp
      exact hK _ _ ⟨updV xv 5 (.int .u64 (i : Int)), by simp [updV, e4, hiG], hb, hG.any gk.out g5.out _ rfl, hF6.step (fun _ h => h) (by decide) (by decide) _, hF7.step (fun _ h => h) (by decide) (by decide) _, hF14.step (fun _ h => h) (by decide) _, hF15.step (fun _ h => h) (by decide) _⟩
    · refine wpOp_step rfl (fun K' hK => ?_)
      simp [Region.binds] at hd
      have e3 : xv 3 = .int .u64 (S : Int) := hG.get g3.out (by simp [hd])
      have e5 : xv 5 = .int .u64 (i : Int) := hG.get g5.out (by simp [hd])
      clear hd hin hD
      go_simp
      exact hK _ _ ⟨updV xv 6 (.slice (some ⟨W.heap.size, 0, none⟩) 3 3), by simp [updV, e3, e5, hiG], JS.out _ _ (below_alloc _ _) hb, hG.any gk.out g6.out _ trivial, Fd.new (us_lit3 _ _ S 1 i HS.out (by decide) (by omega) _ rfl), hF7.on st7.out (below_alloc _ _) (by decide) (by decide) _, hF14.on st14.out (below_alloc _ _) (by decide) _, hF15.on st15.out (below_alloc _ _) (by decide) _⟩
    · refine wpOp_step rfl (fun K' hK => ?_)
      simp [Region.binds] at hd
      have l6 : listed.getD 6 false = true := by simp [hd]
      have m6 := hF6.get l6 hnl
      clear hd hin hD
      go_simp
      refine (CN.out W _ hb m6).mono ?_
      rintro e w' ⟨v, rfl, hv, hb'⟩
      go_wp2_with fail
      exact ⟨updV xv 7 v, by simp [updV, hiG], JS.out _ _ hb' hb, hG.any gk.out g7.out v trivial, Fd.off hnl, Fd.new (hv), hF14.on st14.out hb' (by decide) _, hF15.on st15.out hb' (by decide) _⟩
    · refine wpOp_step rfl (fun K' hK => ?_)
      clear hd hin hD
      go_simp
      exact hK _ _ ⟨updV xv 8 (Value.pointer (some { block := g, off := 0 })), by simp [updV, hiG], hb, hG.any gk.out g8.out _ rfl, hF6.step (fun _ h => h) (by decide) (by decide) _, hF7.step (fun _ h => h) (by decide) (by decide) _, hF14.step (fun _ h => h) (by decide) _, hF15.step (fun _ h => h) (by decide) _⟩
    · refine wpOp_step rfl (fun K' hK => ?_)
      simp [Region.binds] at hd
      have e8 : xv 8 = Value.pointer (some { block := g, off := 0 }) := hG.get g8.out (by simp [hd])
      clear hd hin hD
      go_simp
      refine (CA.out W hb).mono ?_
      rintro e w' ⟨v, rfl, hv, hb'⟩
      go_wp2_with fail
      exact ⟨updV xv 9 v, by simp [updV, e8, hiG], JS.out _ _ hb' hb, hG.any gk.out g9.out v hv, hF6.on st6.out hb' (by decide) (by decide) _, hF7.on st7.out hb' (by decide) (by decide) _, hF14.on st14.out hb' (by decide) _, hF15.on st15.out hb' (by decide) _⟩
    · refine wpOp_step rfl (fun K' hK => ?_)
      clear hd hin hD
      go_simp
      exact hK _ _ ⟨updV xv 10 (Value.pointer (some { block := g, off := 0 })), by simp [updV, hiG], hb, hG.any gk.out g10.out _ rfl, hF6.step (fun _ h => h) (by decide) (by decide) _, hF7.step (fun _ h => h) (by decide) (by decide) _, hF14.step (fun _ h => h) (by decide) _, hF15.step (fun _ h => h) (by decide) _⟩
    · refine wpOp_step rfl (fun K' hK => ?_)
      simp [Region.binds] at hd
      have e10 : xv 10 = Value.pointer (some { block := g, off := 0 }) := hG.get g10.out (by simp [hd])
      clear hd hin hD
      go_simp
      exact hK _ _ ⟨updV xv 11 (Value.pointer (some { block := g, off := 0 })), by simp [updV, e10, hiG], hb, hG.any gk.out g11.out _ rfl, hF6.step (fun _ h => h) (by decide) (by decide) _, hF7.step (fun _ h => h) (by decide) (by decide) _, hF14.step (fun _ h => h) (by decide) _, hF15.step (fun _ h => h) (by decide) _⟩
    · refine wpOp_step rfl (fun K' hK => ?_)
      simp [Region.binds] at hd
      have e11 : xv 11 = Value.pointer (some { block := g, off := 0 }) := hG.get g11.out (by simp [hd])
      clear hd hin hD
      go_simp
      exact hK _ _ ⟨updV xv 12 (.pointer (some ⟨g, 2, none⟩)), by simp [updV, e11, hiG], hb, hG.any gk.out g12.out _ rfl, hF6.step (fun _ h => h) (by decide) (by decide) _, hF7.step (fun _ h => h) (by decide) (by decide) _, hF14.step (fun _ h => h) (by decide) _, hF15.step (fun _ h => h) (by decide) _⟩
    · refine wpOp_step rfl (fun K' hK => ?_)
      simp [Region.binds] at hd
      have e12 : xv 12 = .pointer (some ⟨g, 2, none⟩) := hG.get g12.out (by simp [hd])
      obtain ⟨c0, c1, c2⟩ := BX.out W hb
      clear hd hin hD
      go_simp
      exact hK _ _ ⟨updV xv 13 (.int .i64 (Q : Int)), by simp [updV, e12, hiG], hb, hG.any gk.out g13.out _ rfl, hF6.step (fun _ h => h) (by decide) (by decide) _, hF7.step (fun _ h => h) (by decide) (by decide) _, hF14.step (fun _ h => h) (by decide) _, hF15.step (fun _ h => h) (by decide) _⟩
    · refine wpOp_step rfl (fun K' hK => ?_)
      simp [Region.binds] at hd
      have l7 : listed.getD 7 false = true := by simp [hd]
      have m7 := hF7.get l7 hnl
      have e9 : xv 9 = .int .i64 (A : Int) := hG.get g9.out (by simp [hd])
      have e13 : xv 13 = .int .i64 (Q : Int) := hG.get g13.out (by simp [hd])
      have f15 : listed.getD 15 false = false := by
        cases hx : listed.getD 15 false with
        | false => rfl
        | true =>
          have r14 : listed.getD 14 false = true := by have h := hD 15 (by decide) hx; simp [Region.binds] at h; simp [h]
          rw [getD_false hnl] at r14; cases r14
      clear hd hin hD
      obtain ⟨r, e7, hr, hR⟩ := m7
      go_simp
      refine (HC.out W r hR).mono ?_
      rintro e w' ⟨a, c, rfl, ho, -, hk⟩
      go_wp2_with fail
      exact ⟨updV xv 14 (.slice a Q c), by simp [updV, e7, e9, e13, hiG], hb.trans (hk.below hb.size (fun k e => by omega)), hG.any gk.out g14.out _ trivial, Fd.gone l7 (by decide), Fd.off hnl, Fe.new (⟨a, c, rfl, ho.mono hb.size⟩), Fe.yet f15 (by decide) _⟩
    · refine wpOp_step rfl (fun K' hK => ?_)
      simp [Region.binds] at hd
      have l14 : listed.getD 14 false = true := by simp [hd]
      have m14 := hF14 l14
      clear hd hin hD
      go_simp
      exact hK _ _ ⟨updV xv 15 (xv 14), by simp [updV, hiG], hb, hG.any gk.out g15.out _ trivial, hF6.step (fun _ h => h) (by decide) (by decide) _, hF7.step (fun _ h => h) (by decide) (by decide) _, hF14.step (fun _ h => h) (by decide) _, Fe.new (m14)⟩
  · rintro listed ac W ⟨xv, rfl, hb, hG, hF6, hF7, hF14, hF15⟩ hall
    have m15 : Hid ((IsOz w.heap.size Q l) (xv 15) W) := hF15 (hall 15 (by decide))
    have XW : Hid ((fun W => Below w.heap.size w W) W) := hb
    clear hall hG hb gk JS g0 g1 g2 g3 g4 g5 g6 g7 g8 g9 g10 g11 g12 g13 g14 g15 hF6 st6 hF7 st7 hF14 st14 hF15 st15
    obtain ⟨a, c, e15, ho⟩ := m15.out
    rw [e15]
    clear m15 e15
    have HO : Hid (OwnZ w.heap.size W (.slice a Q c) Q l) := ho
    clear ho
    go_wp2
    go_ret
    exact ⟨a, c, rfl, by rw [HL.out]; exact HO.out, XW.out⟩

set_option maxRecDepth 100000 in
set_option maxHeartbeats 400000 in
theorem oof_no (g hb S N Q A : Nat) (i : Int) (vs : List Value) (rows : List (List Int)) (w : World) (h : IsGr w g hb S N Q A vs rows) (hi : i < 0 ∨ (N : Int) ≤ i) :
    Calls Try.prog 28 #[.pointer (some ⟨g, 0, none⟩), .int .i64 i] w fun e w' => e = .returned (.slice none 0 0) ∧ w' = w := by
  have c1 := h.c1
  clear h
  by_cases h0 : i < 0
  · clear hi
    go_enter Try.func28, Try.ntmps28
    go_wp2
    go_ret
    exact ⟨rfl, rfl⟩
  · have h1 : (N : Int) ≤ i := hi.resolve_left h0
    clear hi
    have h2 : i ≥ (N : Int) := h1
    go_enter Try.func28, Try.ntmps28
    go_wp2
    go_ret
    exact ⟨rfl, rfl⟩

/-- CLONE: of numbers. -/
theorem clone_any (v : Value) (l : List Int) (n : Nat) (w : World) (h : Zs w v l) (hn : l.length = n) (hl : n ≤ 1000000000) :
    Calls Try.prog 43 #[v] w fun e w' => ∃ a c, e = .returned (.slice a n c) ∧ OwnZ w.heap.size w' (.slice a n c) n l ∧ Below w.heap.size w w' := by
  subst hn
  have h' := h
  obtain ⟨-, ao, cap, rfl, h2, h3, h4, -⟩ := h'
  obtain ⟨-, hc⟩ := zs_cells h
  have fin : ∀ (v' : Value) (w' : World), w'.ownsRow w.heap.size 3 1 v' l.length (l.map (Value.int .i64)) → Below w.heap.size w w' → ∃ a c, Ending.returned v' = .returned (.slice a l.length c) ∧ OwnZ w.heap.size w' (.slice a l.length c) l.length l ∧ Below w.heap.size w w' := by
    intro v' w' ho hb
    obtain ⟨a, c, rfl, -⟩ := owned_slice ho
    exact ⟨a, c, rfl, ho, hb⟩
  cases ao with
  | none =>
    have e0 : cap = 0 := h4 rfl
    have e1 : l = [] := List.eq_nil_of_length_eq_zero (by omega)
    subst e1
    refine (Any.slices_Clone_int_nil Try.laysNm215 0 cap w).mono ?_
    rintro e w' ⟨rfl, rfl⟩
    exact ⟨none, 0, rfl, OwnZ.nil _ _, Below.refl _ _⟩
  | some a =>
    by_cases h0 : l.length = 0
    · have e1 : l = [] := List.eq_nil_of_length_eq_zero h0
      subst e1
      refine (Any.slices_Clone_int_zero Try.laysNm215 a cap w).mono ?_
      rintro e w' ⟨v', rfl, ho, -, hb⟩
      exact fin v' w' ho hb
    · obtain ⟨b, off, e, hc'⟩ := hc.resolve_left h0
      obtain rfl := Option.some.inj e
      refine (Any.slices_Clone_int Try.laysNm215 b off l.length cap l w (Nat.le_refl _) (by omega) hc').mono ?_
      rintro e w' ⟨v', rfl, ho, -, hb⟩
      rw [List.take_of_length_le (Nat.le_refl _)] at ho
      exact fin v' w' ho hb

set_option maxRecDepth 100000 in
set_option maxHeartbeats 1000000 in
/-- HAS: a row, anew. -/
theorem ohas_yes (g hb S N Q A j n : Nat) (vs : List Value) (rows : List (List Int)) (l : List Int) (w : World) (h : IsGr w g hb S N Q A vs rows) (hA : A ≤ 16777216) (hl : rows[j]? = some l) (hn : l.length = n) (hn2 : n ≤ 1000000000) :
    Calls Try.prog 32 #[.pointer (some ⟨g, 0, none⟩), .int .i64 j] w fun e w' => ∃ a c, e = .returned (.slice a n c) ∧ OwnZ w.heap.size w' (.slice a n c) n l ∧ Below w.heap.size w w' := by
  have hj : j < A := by
    have := (List.getElem?_eq_some_iff.1 hl).1
    rw [h.lr] at this
    exact this
  have hjv : j < vs.length := by rw [h.lv]; exact hj
  have CA : Hid (Calls Try.prog 26 #[.pointer (some ⟨g, 0, none⟩)] w fun e w' => e = .returned (.int .i64 (A : Int)) ∧ w' = w) := oaux_any g hb S N Q A vs rows w h
  have c3 := h.c3
  have cj := h.cv j _ (List.getElem?_eq_getElem hjv)
  have zj := h.rd j _ l (List.getElem?_eq_getElem hjv) hl
  have CC : Hid (Calls Try.prog 43 #[vs[j]] w fun e w' => ∃ a c, e = .returned (.slice a n c) ∧ OwnZ w.heap.size w' (.slice a n c) n l ∧ Below w.heap.size w w') := clone_any _ l n w zj hn hn2
  obtain ⟨-, az, cz, ez, -, -, -, -⟩ := zj
  rw [ez] at cj CC
  clear h hl ez hjv hn
  go_enter Try.func32, Try.ntmps32
  go_wp2_with fail
  refine CA.out.mono ?_
  rintro e w1 ⟨rfl, rfl⟩
  go_wp2_with fail
  refine CC.out.mono ?_
  rintro e w2 ⟨a, c, rfl, ho, hb2⟩
  have HO : Hid (OwnZ w1.heap.size w2 (.slice a n c) n l ∧ Below w1.heap.size w1 w2) := ⟨ho, hb2⟩
  clear ho hb2 CC CA
  go_wp2
  go_ret
  exact ⟨a, c, rfl, HO.out⟩

set_option maxRecDepth 100000 in
set_option maxHeartbeats 400000 in
theorem ohas_no (g hb S N Q A : Nat) (i : Int) (vs : List Value) (rows : List (List Int)) (w : World) (h : IsGr w g hb S N Q A vs rows) (hi : i < 0 ∨ (A : Int) ≤ i) :
    Calls Try.prog 32 #[.pointer (some ⟨g, 0, none⟩), .int .i64 i] w fun e w' => e = .returned (.slice none 0 0) ∧ w' = w := by
  have CA : Hid (Calls Try.prog 26 #[.pointer (some ⟨g, 0, none⟩)] w fun e w' => e = .returned (.int .i64 (A : Int)) ∧ w' = w) := oaux_any g hb S N Q A vs rows w h
  clear h
  by_cases h0 : i < 0
  · clear hi
    go_enter Try.func32, Try.ntmps32
    go_wp2
    go_ret
    exact ⟨rfl, rfl⟩
  · have h2 : i ≥ (A : Int) := hi.resolve_left h0
    clear hi
    go_enter Try.func32, Try.ntmps32
    go_wp2_with fail
    refine CA.out.mono ?_
    rintro e w1 ⟨rfl, rfl⟩
    go_wp2
    go_ret
    exact ⟨rfl, rfl⟩

end Go.Proofs.Ythlladpappldbaa
