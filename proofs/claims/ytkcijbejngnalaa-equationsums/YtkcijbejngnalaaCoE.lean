/-
  compose: the document's Blocks.
-/
import Derived.Test.YtkcijbejngnalaaCoD
namespace Go.Proofs.Ytkcijbejngnalaa
open Go.RowKit
set_option linter.unusedVariables false

/-- An empty row of blocks. -/
def IsE0B (B : Nat) : Value → World → Prop := fun v W => ∃ q, v = .slice (some ⟨q, 0, none⟩) 0 0 ∧ B ≤ q ∧ W.heap[q]? = some (.cells #[] 25 (0, 0))
theorem stays_e0b (B : Nat) : Stays (IsE0B B) := fun _ _ _ hb ⟨q, h1, h2, h3⟩ => ⟨q, h1, h2, heap_stays hb h3⟩
theorem e0b_own {B q : Nat} {W : World} (h2 : B ≤ q) (h3 : W.heap[q]? = some (.cells #[] 25 (0, 0))) : W.ownsRow B 25 1 (.slice (some ⟨q, 0, none⟩) 0 0) 0 [] :=
  ⟨rfl, .inr ⟨q, 0, #[], rfl, h2, h3, Nat.le_refl _, by simp [maxLen], rfl, rfl⟩⟩
/-- A row of one's own. -/
def IsRS (B n : Nat) (us : List Value) : Value → World → Prop := fun v W => ∃ a c, v = .slice a n c ∧ W.ownsRow B 25 1 (.slice a n c) n us
theorem stays_rs (B n : Nat) (us : List Value) : Stays (IsRS B n us) := fun _ _ _ hb ⟨a, c, h1, h2⟩ => ⟨a, c, h1, owns_below h2 hb⟩
/-- Blocks that were picked. -/
def IsPk (n : Nat) (us : List Value) (ps : List (List UInt8)) : Value → World → Prop := fun v W => (∃ a c, v = .slice a n c) ∧ Sl 1 W v us.length us ∧ Parts W us ps
theorem stays_pk (n : Nat) (us : List Value) (ps : List (List UInt8)) : Stays (IsPk n us ps) := fun _ _ _ hb ⟨h1, h2, h3⟩ => ⟨h1, h2.below hb, h3.below hb⟩
/-- A row of one block. -/
def IsS1b (B n : Nat) (x : List UInt8) : Value → World → Prop := fun v W => ∃ q, Sl 1 W v 1 [.slice (some ⟨q, 0, none⟩) n n] ∧ B ≤ q ∧ Blk W q [] x []
theorem stays_s1b (B n : Nat) (x : List UInt8) : Stays (IsS1b B n x) := fun _ _ _ hb ⟨q, h1, h2, h3⟩ => ⟨q, h1.below hb, h2, h3.below hb⟩
/-- A row, and a block behind it. -/
def IsRb (B n k : Nat) (us : List Value) (x : List UInt8) : Value → World → Prop := fun v W => ∃ a c q, v = .slice a (k + 1) c ∧ W.ownsRow B 25 1 (.slice a (k + 1) c) (k + 1) (us ++ [.slice (some ⟨q, 0, none⟩) n n]) ∧ B ≤ q ∧ Blk W q [] x []
theorem stays_rb (B n k : Nat) (us : List Value) (x : List UInt8) : Stays (IsRb B n k us x) := fun _ _ _ hb ⟨a, c, q, h1, h2, h3, h4⟩ => ⟨a, c, q, h1, owns_below h2 hb, h3, h4.below hb⟩

section
variable {W W' : World} {q : Nat} {t : TypeId}
theorem cell_grown0 (hq : W.heap[q]? = some (.cells #[] t (0, 0))) (hg : W.grownBy W' (some q)) {b off : Nat} {u : Value} (h : W.cell? ⟨b, off, none⟩ = some u) : W'.cell? ⟨b, off, none⟩ = some u := by
  have hne : b ≠ q := by
    rintro rfl
    simp [World.cell?, hq] at h
  rw [← h]
  exact World.cell?_of_block (a := ⟨b, off, none⟩) (hg.block b (cell_block_lt h) (fun e => hne (Option.some.inj e)))
theorem sl_grown0 (hq : W.heap[q]? = some (.cells #[] t (0, 0))) (hg : W.grownBy W' (some q)) {v : Value} {n : Nat} {cs : List Value} (h : Sl 1 W v n cs) : Sl 1 W' v n cs := by
  obtain ⟨h1, ao, cap, hv, h2, h3, h4, h5⟩ := h
  refine ⟨h1, ao, cap, hv, h2, h3, h4, ?_⟩
  rcases h5 with h5 | ⟨b, off, hao, h5⟩
  · exact .inl h5
  · exact .inr ⟨b, off, hao, fun j u hj => cell_grown0 hq hg (h5 j u hj)⟩
theorem parts_grown0 (hq : W.heap[q]? = some (.cells #[] t (0, 0))) (hg : W.grownBy W' (some q)) {vs : List Value} {ls : List (List UInt8)} (h : Parts W vs ls) : Parts W' vs ls := ⟨h.1, fun i v p hv hp => sl_grown0 hq hg (h.2 i v p hv hp)⟩
theorem pk_grown (hq : W.heap[q]? = some (.cells #[] t (0, 0))) (hg : W.grownBy W' (some q)) {n : Nat} {us : List Value} {ps : List (List UInt8)} {v : Value} (h : IsPk n us ps v W) : IsPk n us ps v W' := ⟨h.1, sl_grown0 hq hg h.2.1, parts_grown0 hq hg h.2.2⟩
theorem blk_grown0 (hq : W.heap[q]? = some (.cells #[] 25 (0, 0))) (hg : W.grownBy W' (some q)) {p : Nat} {x : List UInt8} (h : Blk W p [] x []) : Blk W' p [] x [] := by
  refine h.kept (hg.block p h.lt (fun e => ?_))
  have e2 := Option.some.inj e
  subst e2
  have h' : W.heap[p]? = _ := h
  rw [hq] at h'
  injection h' with h'
  injection h' with _ h' _
  exact absurd h' (by decide)
theorem cb_grown (hq : W.heap[q]? = some (.cells #[] 25 (0, 0))) (hg : W.grownBy W' (some q)) {B n : Nat} {x : List UInt8} {v : Value} (h : IsCb B n x v W) : IsCb B n x v W' := by
  obtain ⟨p, h1, h2, h3⟩ := h
  exact ⟨p, h1, h2, blk_grown0 hq hg h3⟩
theorem s1b_grown (hq : W.heap[q]? = some (.cells #[] 25 (0, 0))) (hg : W.grownBy W' (some q)) {B n : Nat} {x : List UInt8} {v : Value} (h : IsS1b B n x v W) : IsS1b B n x v W' := by
  obtain ⟨p, h1, h2, h3⟩ := h
  exact ⟨p, sl_grown0 hq hg h1, h2, blk_grown0 hq hg h3⟩
end

/-- 'append(row, blocks...)' in a drawn region. -/
theorem step_addR (w : World) {ops : Array Oper} {o : Oper} {a : Act} {K : Act → World → Prop} {Q : Exit → Act → World → Prop} {E : Prop} (hgd : o.guard = none) (s x : Operand)
    (ho : o.op = .call { callee := .builtin .append, args := #[s, x], argTypes := #[32, 32] })
    (B : Nat) (v : Value) (n : Nat) (vs : List Value) (hs : a.eval s = v) (hown : w.ownsRow B 25 1 v n vs)
    (xv : Value) (m : Nat) (news : List Value) (hx : a.eval x = xv) (hsrc : Sl 1 w xv m news) (h1 : ∀ u ∈ news, u.oneCell' = true)
    (hlen : n + m ≤ 1000000000) (hbase : B ≤ w.heap.size)
    (h : ∀ ao cap w', w'.ownsRow B 25 1 (.slice ao (n + m) cap) (n + m) (vs ++ news) → w.grownBy w' v.ownBlock → ((Value.slice ao (n + m) cap).ownBlock = v.ownBlock ∨ (Value.slice ao (n + m) cap).ownBlock = some w.heap.size) → n + m ≤ cap → cap ≤ maxLen → K (a.put o.dst (.slice ao (n + m) cap)) w') :
    if Region.wanted o (yielded ops a.tmps) = true then Oper.wp Try.prog o a w K Q else E := by
  obtain ⟨i, hi, hz, hz1, hz8⟩ := infoBs_parts
  refine step_app w hgd s x 32 ho B 25 i (.slice none 0 0) 1 24 Try.underlying32 hi hz hz1 hz8 rfl (by decide) v n _ hs hown xv m _ hx hsrc h1 (by unfold maxLen; omega) (by omega) hbase ?_
  intro ao cap w' h2 h3 h4 h5 h6 h7
  exact h ao cap w' h2 h3 h4 h6 h7

set_option maxRecDepth 100000 in
set_option maxHeartbeats 4000000 in
/-- The document's Blocks: its row and its blocks are its own. -/
theorem rcblocks_own (N B Q A S : Nat) (E F : Int) (ov : Value) (l : List UInt8) (w : World) (h : PrOk N B Q E F N Q A) (hS : S < 18446744073709551616) (hN : N ≤ 1000) (hB : B ≤ 1000) (hA : A ≤ 1000000) (ho : Bs w ov l) :
    Calls Try.prog 15 #[.agg #[.int .i64 (N : Int), .int .i64 (B : Int), .int .i64 (Q : Int), .int .i64 E, .int .i64 F], .int .u64 (S : Int), ov] w fun e w' => ∃ a c vs, e = .returned (.slice a (N + A) c) ∧ w'.ownsRow w.heap.size 25 1 (.slice a (N + A) c) (N + A) vs ∧ RowsB w.heap.size w' vs (compD N B (hasR S A Q N) l) ∧ Below w.heap.size w w' := by
  have CSp : Hid (∀ W, Below w.heap.size w W → Calls Try.prog 46 #[.agg #[.int .i64 (N : Int), .int .i64 (B : Int), .int .i64 (Q : Int), .int .i64 E, .int .i64 F], ov] W fun e w' => ∃ a c vs, e = .returned (.slice a N c) ∧ w'.ownsRow W.heap.size 25 1 (.slice a N c) N vs ∧ RowsB W.heap.size w' vs (splitD N B l) ∧ Below W.heap.size W w') := fun W hW => rsplit_own N B Q E F ov l W hN hB (ho.below hW)
  have CH : Hid (∀ W, Calls Try.prog 47 #[.agg #[.int .i64 (N : Int), .int .i64 (B : Int), .int .i64 (Q : Int), .int .i64 E, .int .i64 F], .int .u64 (S : Int)] W fun e w' => ∃ qb vs, e = .returned (.slice (some ⟨qb, 0, none⟩) A A) ∧ RfI W.heap.size w' qb A vs (hasR S A Q N) ∧ Below W.heap.size W w') := fun W => rhas10_any B E F N Q A S W h hS hA
  have RW : Hid (RwOk N A (hasR S A Q N)) := hasR_rw S A Q N
  obtain ⟨-, ao, cap, rfl, -, -, -, -⟩ := ho
  clear h hS
  generalize hasR S A Q N = rows at *
  have P0 : Hid (FiveB (w.alloc (.cells #[.int .i64 N, .int .i64 B, .int .i64 Q, .int .i64 E, .int .i64 F] 23)) w.heap.size N B Q E F) := FiveB.new _ _ _ _ _ _
  go_enter Try.func15, Try.ntmps15
  go_wp2_with fail
  refine (CSp.out _ (below_alloc _ _)).mono ?_
  rintro e w1 ⟨a0, k0, vs0, rfl, ho1, hr1, hb1⟩
  have B1 : Hid (Below w.heap.size w w1) := on_below (below_alloc _ _) hb1
  have P1 : Hid (FiveB w1 w.heap.size N B Q E F) := P0.out.below hb1
  have O1 : Hid (w1.ownsRow w.heap.size 25 1 (.slice a0 N k0) N vs0 ∧ RowsB w.heap.size w1 vs0 (splitD N B l)) := ⟨owns_mono ho1 (by simp), hr1.mono (by simp)⟩
  clear ho1 hr1 hb1 CSp P0
  obtain ⟨c0, c1, c2, c3, c4⟩ := P1.out.five
  go_wp2_with fail
  refine (CH.out _).mono ?_
  rintro e w2 ⟨qb, hv, rfl, hf2, hb2⟩
  have B2 : Hid (Below w.heap.size w w2) := on_below B1.out hb2
  have P2 : Hid (FiveB w2 w.heap.size N B Q E F) := P1.out.below hb2
  have O2 : Hid (w2.ownsRow w.heap.size 25 1 (.slice a0 N k0) N vs0 ∧ RowsB w.heap.size w2 vs0 (splitD N B l)) := ⟨owns_below O1.out.1 hb2, O1.out.2.below hb2⟩
  have F2 : Hid (RfI w1.heap.size w2 qb A hv rows) := hf2
  clear hf2 hb2 CH P1 O1 B1 c0 c1 c2 c3 c4
  go_wp2
  go_loopw [7, 10] (fun bv jv wr => ∃ (j c : Nat) (a : Option Addr) (vs : List Value), j ≤ A ∧ bv = .slice a (N + j) c ∧ jv = .int .i64 j ∧ Hid (wr.ownsRow w.heap.size 25 1 (.slice a (N + j) c) (N + j) vs) ∧ Hid (RowsB w.heap.size wr vs (compTo N B rows l j)) ∧ Hid (Below w2.heap.size w2 wr)) (fun _ jv _ => A - (intOf jv).toNat)
  case atStart => exact ⟨0, k0, a0, vs0, by omega, rfl, rfl, O2.out.1, by unfold Hid; rw [compTo_zero]; exact O2.out.2, Below.refl _ _⟩
  case round =>
    obtain ⟨j, c, a, vs, hj, rfl, rfl, O, R, BB⟩ := hrel
    by_cases hlt : j < A
    · have hjr : j < rows.length := by rw [RW.out.1]; exact hlt
      obtain ⟨r, hr⟩ : ∃ r, rows[j]? = some r := ⟨_, List.getElem?_eq_getElem hjr⟩
      have RJ := RW.out.2 j r hr
      obtain ⟨n, hn⟩ : ∃ n, r.length = n := ⟨_, rfl⟩
      have hnN : n ≤ N := by rw [← hn]; exact RJ.1
      have HRJ : Hid (∀ i ∈ r, 0 ≤ i ∧ i < (N : Int)) := RJ.2
      obtain ⟨x, hx⟩ : ∃ x, chkD B (splitD N B l) r = x := ⟨_, rfl⟩
      have NX : Hid (compTo N B rows l (j + 1) = compTo N B rows l j ++ [x]) := by unfold Hid; rw [← hx]; exact compTo_next hr
      have LX : Hid (x.length = B) := by unfold Hid; rw [← hx]; exact chkD_length (split_ok HRJ.out)
      have FX : Hid (fitB B (pkD (splitD N B l) r) = true) := pkD_fitB (split_ok HRJ.out)
      have EX : Hid (xorAll (zeros B) (pkD (splitD N B l) r) = x) := hx
      have hjv : j < hv.length := by rw [F2.out.lv]; exact hlt
      have Hv : Hid (hv[j]? = some hv[j]) := List.getElem?_eq_getElem hjv
      have HO := F2.out.own j _ _ Hv.out hr
      rw [hn] at HO
      obtain ⟨av, vc, ev, -⟩ := owned_slice HO
      rw [ev] at Hv HO
      have HZ : Hid (OwnZ w1.heap.size w2 (.slice av n vc) n r) := HO
      have Hn : Hid (r.length = n) := hn
      have CRx : Hid (∀ W, Below wr.heap.size wr W → W.cell? ⟨qb, j, none⟩ = some (.slice av n vc)) := fun W hW => (F2.out.below (on_below BB.out hW)).cell Hv.out
      have BX : Hid (∀ W, Below wr.heap.size wr W → Five W w.heap.size N B Q E F) := fun W hW => (P2.out.below (on_below BB.out hW)).five
      have SLv : Hid (∀ W, Below wr.heap.size wr W → Sl 1 W (.slice a (N + j) c) (N + j) vs) := fun W hW => (owned_sl O.out).below hW
      have V1 : Hid (∀ u ∈ vs, u.oneCell' = true) := R.out.parts.oneCell
      have CP : Hid (∀ W, Below wr.heap.size wr W → Calls Try.prog 48 #[.slice a0 N k0, .slice av n vc] W fun e w' => ∃ v, e = .returned v ∧ IsPk n (pkV vs0 r) (pkD (splitD N B l) r) v w' ∧ Below W.heap.size W w') := by
        intro W hW
        have h2 := on_below BB.out hW
        have e0 : vs0.length = N := by have := O2.out.1.1; omega
        refine (pick_any (.slice a0 N k0) (.slice av n vc) vs0 (splitD N B l) r n W (by rw [e0]; exact (owned_sl O2.out.1).below h2) (O2.out.2.parts.below h2) (HZ.out.zs.below h2) (by rw [splitD_length]; exact HRJ.out) Hn.out (by omega)).mono ?_
        rintro e w' ⟨a5, c5, rfl, h5, h6, h7⟩
        exact ⟨_, rfl, ⟨⟨_, _, rfl⟩, h5, h6⟩, h7⟩
      have CS : Hid (∀ W v, Below wr.heap.size wr W → IsPk n (pkV vs0 r) (pkD (splitD N B l) r) v W → Calls Try.prog 25 #[.int .i64 B, v] W fun e w' => ∃ v, e = .returned v ∧ IsCb wr.heap.size B x v w' ∧ Below W.heap.size W w') := by
        intro W v hW hv
        refine (rsum_any B v _ _ W (by omega) hv.2.1 hv.2.2 FX.out).mono ?_
        rintro e w' ⟨rfl, h5, h6⟩
        rw [EX.out] at h5
        exact ⟨_, rfl, ⟨_, rfl, hW.size, h5⟩, h6⟩
      clear hr hn hx RJ HRJ FX EX HO ev hjr hjv Hv
      go_upto_region 7 with fail
      refine wp_region_any (by kernel_rfl) ?_
      obtain ⟨gs, hgs⟩ : ∃ gs : List (Value → World → Prop), gs = [IsAnyV, IsV (Value.slice a (N + j) c), IsAnyV, IsV (.pointer (some ⟨w.heap.size, 1, none⟩)), IsV (.int .i64 (B : Int)), IsV (Value.slice a0 N k0), IsV (Value.slice (some { block := qb, off := 0 }) A A), IsV (Value.int IntKind.i64 ↑j), IsV (.pointer (some ⟨qb, j, none⟩)), IsV (.slice av n vc), IsAnyV, IsAnyV, IsAnyV, IsAnyV, IsAnyV] := ⟨_, rfl⟩
      have g0 : Hid (gs[0]? = some (IsAnyV)) := by unfold Hid; rw [hgs]; rfl
      have g1 : Hid (gs[1]? = some (IsV (Value.slice a (N + j) c))) := by unfold Hid; rw [hgs]; rfl
      have g2 : Hid (gs[2]? = some (IsAnyV)) := by unfold Hid; rw [hgs]; rfl
      have g3 : Hid (gs[3]? = some (IsV (.pointer (some ⟨w.heap.size, 1, none⟩)))) := by unfold Hid; rw [hgs]; rfl
      have g4 : Hid (gs[4]? = some (IsV (.int .i64 (B : Int)))) := by unfold Hid; rw [hgs]; rfl
      have g5 : Hid (gs[5]? = some (IsV (Value.slice a0 N k0))) := by unfold Hid; rw [hgs]; rfl
      have g6 : Hid (gs[6]? = some (IsV (Value.slice (some { block := qb, off := 0 }) A A))) := by unfold Hid; rw [hgs]; rfl
      have g7 : Hid (gs[7]? = some (IsV (Value.int IntKind.i64 ↑j))) := by unfold Hid; rw [hgs]; rfl
      have g8 : Hid (gs[8]? = some (IsV (.pointer (some ⟨qb, j, none⟩)))) := by unfold Hid; rw [hgs]; rfl
      have g9 : Hid (gs[9]? = some (IsV (.slice av n vc))) := by unfold Hid; rw [hgs]; rfl
      have g10 : Hid (gs[10]? = some (IsAnyV)) := by unfold Hid; rw [hgs]; rfl
      have g11 : Hid (gs[11]? = some (IsAnyV)) := by unfold Hid; rw [hgs]; rfl
      have g12 : Hid (gs[12]? = some (IsAnyV)) := by unfold Hid; rw [hgs]; rfl
      have g13 : Hid (gs[13]? = some (IsAnyV)) := by unfold Hid; rw [hgs]; rfl
      have g14 : Hid (gs[14]? = some (IsAnyV)) := by unfold Hid; rw [hgs]; rfl
      have gk : Hid (∀ p ∈ gs, ∀ v (U U' : World), p v U → p v U') := by
        unfold Hid
        rw [hgs]
        simp only [List.forall_mem_cons]
        exact ⟨(fun _ _ _ h => h), (fun _ _ _ h => h), (fun _ _ _ h => h), (fun _ _ _ h => h), (fun _ _ _ h => h), (fun _ _ _ h => h), (fun _ _ _ h => h), (fun _ _ _ h => h), (fun _ _ _ h => h), (fun _ _ _ h => h), (fun _ _ _ h => h), (fun _ _ _ h => h), (fun _ _ _ h => h), (fun _ _ _ h => h), (fun _ _ _ h => h), by simp⟩
      clear hgs
      have JS : Hid (∀ W W', Below W.heap.size W W' → (fun W => Below wr.heap.size wr W) W → (fun W => Below wr.heap.size wr W) W') := fun W W' hb h => h.trans (hb.mono h.size)
      have st0 : Hid (Stays (IsE0B wr.heap.size)) := stays_e0b _
      have st2 : Hid (Stays (IsRS wr.heap.size (N + j) vs)) := stays_rs _ _ _
      have st10 : Hid (Stays (IsPk n (pkV vs0 r) (pkD (splitD N B l) r))) := stays_pk _ _ _
      have st11 : Hid (Stays (IsCb wr.heap.size B x)) := stays_cb _ _ _
      have st12 : Hid (Stays (IsS1b wr.heap.size B x)) := stays_s1b _ _ _
      have st13 : Hid (Stays (IsRb wr.heap.size B (N + j) vs x)) := stays_rb _ _ _ _ _
      have st14 : Hid (Stays (IsRb wr.heap.size B (N + j) vs x)) := stays_rb _ _ _ _ _
      refine wpAny_inv4 (fun listed ac W => ∃ xv : Nat → Value, ac = ⟨#[Value.agg #[Value.int IntKind.i64 ↑N, Value.int IntKind.i64 ↑B, Value.int IntKind.i64 ↑Q, Value.int IntKind.i64 E, Value.int IntKind.i64 F], Value.int IntKind.u64 ↑S, Value.slice ao l.length cap, Value.pointer (some { block := w.heap.size, off := 0 }), undef, undef, Value.slice none 0 0, xv 14, Value.slice a0 N k0, Value.slice (some { block := qb, off := 0 }) A A, Value.int IntKind.i64 ↑j, Value.agg #[Value.int IntKind.i64 ↑N, Value.int IntKind.i64 ↑B, Value.int IntKind.i64 ↑Q, Value.int IntKind.i64 E, Value.int IntKind.i64 F], Value.slice ao l.length cap, Value.slice a0 N k0, Value.slice a0 N k0, Value.agg #[Value.int IntKind.i64 ↑N, Value.int IntKind.i64 ↑B, Value.int IntKind.i64 ↑Q, Value.int IntKind.i64 E, Value.int IntKind.i64 F], Value.int IntKind.u64 ↑S, Value.slice (some { block := qb, off := 0 }) A A, Value.int IntKind.i64 ↑j, Value.slice (some { block := qb, off := 0 }) A A, Value.int IntKind.i64 ↑A, Value.bool true, u22, u23, xv 0, xv 1, xv 2, xv 3, xv 4, xv 5, xv 6, xv 7, xv 8, xv 9, xv 10, xv 11, xv 12, xv 13, undef], []⟩ ∧ (fun W => Below wr.heap.size wr W) W ∧ Lst gs listed xv W ∧ Fd listed xv W 0 2 (IsE0B wr.heap.size) ∧ Fd listed xv W 2 13 (IsRS wr.heap.size (N + j) vs) ∧ Fd listed xv W 10 11 (IsPk n (pkV vs0 r) (pkD (splitD N B l) r)) ∧ Fd listed xv W 11 12 (IsCb wr.heap.size B x) ∧ Fd listed xv W 12 13 (IsS1b wr.heap.size B x) ∧ Fe listed xv W 13 (IsRb wr.heap.size B (N + j) vs x) ∧ Fe listed xv W 14 (IsRb wr.heap.size B (N + j) vs x) ∧ Ini4 listed xv 14 (Value.slice a (N + j) c)) (by kernel_rfl) ?_ ?_ _ _ _ _ (by kernel_rfl) (of_decide_eq_true (by kernel_rfl)) (Down.start _) ⟨fun jx => if jx = 0 then u24 else if jx = 1 then u25 else if jx = 2 then u26 else if jx = 3 then u27 else if jx = 4 then u28 else if jx = 5 then u29 else if jx = 6 then u30 else if jx = 7 then u31 else if jx = 8 then u32 else if jx = 9 then u33 else if jx = 10 then u34 else if jx = 11 then u35 else if jx = 12 then u36 else if jx = 13 then u37 else if jx = 14 then Value.slice a (N + j) c else undef, rfl, below0 _, Lst.start _ _ _ _, Fd.start _ _ _ _ _ _, Fd.start _ _ _ _ _ _, Fd.start _ _ _ _ _ _, Fd.start _ _ _ _ _ _, Fd.start _ _ _ _ _ _, Fe.start _ _ _ _ _, Fe.start _ _ _ _ _, (fun _ => rfl)⟩
      · rintro listed ac W ⟨xv, rfl, hb, hG, hF0, hF2, hF10, hF11, hF12, hF13, hF14, hI14⟩ hD i hi hnl hd
        have hin : i < 15 := hi
        clear hi
        have hcase : i = 0 ∨ i = 1 ∨ i = 2 ∨ i = 3 ∨ i = 4 ∨ i = 5 ∨ i = 6 ∨ i = 7 ∨ i = 8 ∨ i = 9 ∨ i = 10 ∨ i = 11 ∨ i = 12 ∨ i = 13 ∨ i = 14 := by omega
        rcases hcase with rfl | rfl | rfl | rfl | rfl | rfl | rfl | rfl | rfl | rfl | rfl | rfl | rfl | rfl | rfl
        · refine wpOp_step rfl (fun K' hK => ?_)
          clear hd hin hD
          go_simp
          exact hK _ _ ⟨updV xv 0 (.slice (some ⟨W.heap.size, 0, none⟩) 0 0), by simp [updV], JS.out _ _ (below_alloc _ _) hb, hG.any gk.out g0.out _ trivial, Fd.new (⟨_, rfl, hb.size, alloc_at _ _⟩), hF2.on st2.out (below_alloc _ _) (by decide) (by decide) _, hF10.on st10.out (below_alloc _ _) (by decide) (by decide) _, hF11.on st11.out (below_alloc _ _) (by decide) (by decide) _, hF12.on st12.out (below_alloc _ _) (by decide) (by decide) _, hF13.on st13.out (below_alloc _ _) (by decide) _, hF14.on st14.out (below_alloc _ _) (by decide) _, hI14.skip (by decide)⟩
        · refine wpOp_step rfl (fun K' hK => ?_)
          have f14 : listed.getD 14 false = false := by
            cases hx : listed.getD 14 false with
            | false => rfl
            | true =>
              have r1 : listed.getD 1 false = true := by have h := hD 14 (by decide) hx; simp [Region.binds] at h; simp [h]
              rw [getD_false hnl] at r1; cases r1
          have ei14 : xv 14 = Value.slice a (N + j) c := hI14 f14
          clear hd hin hD
          go_simp
          exact hK _ _ ⟨updV xv 1 (Value.slice a (N + j) c), by simp [updV, ei14], hb, hG.any gk.out g1.out _ rfl, hF0.step (fun _ h => h) (by decide) (by decide) _, hF2.step (fun _ h => h) (by decide) (by decide) _, hF10.step (fun _ h => h) (by decide) (by decide) _, hF11.step (fun _ h => h) (by decide) (by decide) _, hF12.step (fun _ h => h) (by decide) (by decide) _, hF13.step (fun _ h => h) (by decide) _, hF14.step (fun _ h => h) (by decide) _, hI14.skip (by decide)⟩
        · refine wpOp_step rfl (fun K' hK => ?_)
          simp [Region.binds] at hd
          have l0 : listed.getD 0 false = true := by simp [hd]
          have m0 := hF0.get l0 hnl
          have e1 : xv 1 = Value.slice a (N + j) c := hG.get g1.out (by simp [hd])
          have f13 : listed.getD 13 false = false := by
            cases hx : listed.getD 13 false with
            | false => rfl
            | true =>
              have r2 : listed.getD 2 false = true := by have h := hD 13 (by decide) hx; simp [Region.binds] at h; simp [h]
              rw [getD_false hnl] at r2; cases r2
          have f14 : listed.getD 14 false = false := by
            cases hx : listed.getD 14 false with
            | false => rfl
            | true =>
              have r2 : listed.getD 2 false = true := by have h := hD 14 (by decide) hx; simp [Region.binds] at h; simp [h]
              rw [getD_false hnl] at r2; cases r2
          clear hd hin hD
          obtain ⟨qe, ee, hqe, hhe⟩ := m0
          have he := e0b_own hqe hhe
          refine step_addR W rfl (.tmp 24) (.tmp 25) rfl wr.heap.size (.slice (some ⟨qe, 0, none⟩) 0 0) 0 [] ee he _ (N + j) vs e1 (SLv.out W hb) V1.out (by omega) hb.size ?_
          intro ao cap w' hown hg hat hnc hcm
          simp only [Nat.zero_add, List.nil_append] at hown
          exact hK _ _ ⟨updV xv 2 (.slice ao (N + j) cap), by simp [updV, Act.put], hb.grown hg hb.size (fun k hk => (World.ownsRow.lt he k hk).1), hG.any gk.out g2.out _ trivial, Fd.off hnl, Fd.new (⟨ao, cap, rfl, hown⟩), hF10.step (fun v hv => pk_grown hhe hg hv) (by decide) (by decide) _, hF11.step (fun v hv => cb_grown hhe hg hv) (by decide) (by decide) _, hF12.step (fun v hv => s1b_grown hhe hg hv) (by decide) (by decide) _, Fe.yet f13 (by decide) _, Fe.yet f14 (by decide) _, hI14.skip (by decide)⟩
        · refine wpOp_step rfl (fun K' hK => ?_)
          clear hd hin hD
          go_simp
          exact hK _ _ ⟨updV xv 3 (.pointer (some ⟨w.heap.size, 1, none⟩)), by simp [updV], hb, hG.any gk.out g3.out _ rfl, hF0.step (fun _ h => h) (by decide) (by decide) _, hF2.step (fun _ h => h) (by decide) (by decide) _, hF10.step (fun _ h => h) (by decide) (by decide) _, hF11.step (fun _ h => h) (by decide) (by decide) _, hF12.step (fun _ h => h) (by decide) (by decide) _, hF13.step (fun _ h => h) (by decide) _, hF14.step (fun _ h => h) (by decide) _, hI14.skip (by decide)⟩
        · refine wpOp_step rfl (fun K' hK => ?_)
          simp [Region.binds] at hd
          have e3 : xv 3 = .pointer (some ⟨w.heap.size, 1, none⟩) := hG.get g3.out (by simp [hd])
          obtain ⟨c0, c1, c2, c3, c4⟩ := BX.out W hb
          clear hd hin hD
          go_simp
          exact hK _ _ ⟨updV xv 4 (.int .i64 (B : Int)), by simp [updV, e3], hb, hG.any gk.out g4.out _ rfl, hF0.step (fun _ h => h) (by decide) (by decide) _, hF2.step (fun _ h => h) (by decide) (by decide) _, hF10.step (fun _ h => h) (by decide) (by decide) _, hF11.step (fun _ h => h) (by decide) (by decide) _, hF12.step (fun _ h => h) (by decide) (by decide) _, hF13.step (fun _ h => h) (by decide) _, hF14.step (fun _ h => h) (by decide) _, hI14.skip (by decide)⟩
        · refine wpOp_step rfl (fun K' hK => ?_)
          clear hd hin hD
          go_simp
          exact hK _ _ ⟨updV xv 5 (Value.slice a0 N k0), by simp [updV], hb, hG.any gk.out g5.out _ rfl, hF0.step (fun _ h => h) (by decide) (by decide) _, hF2.step (fun _ h => h) (by decide) (by decide) _, hF10.step (fun _ h => h) (by decide) (by decide) _, hF11.step (fun _ h => h) (by decide) (by decide) _, hF12.step (fun _ h => h) (by decide) (by decide) _, hF13.step (fun _ h => h) (by decide) _, hF14.step (fun _ h => h) (by decide) _, hI14.skip (by decide)⟩
        · refine wpOp_step rfl (fun K' hK => ?_)
          clear hd hin hD
          go_simp
          exact hK _ _ ⟨updV xv 6 (Value.slice (some { block := qb, off := 0 }) A A), by simp [updV], hb, hG.any gk.out g6.out _ rfl, hF0.step (fun _ h => h) (by decide) (by decide) _, hF2.step (fun _ h => h) (by decide) (by decide) _, hF10.step (fun _ h => h) (by decide) (by decide) _, hF11.step (fun _ h => h) (by decide) (by decide) _, hF12.step (fun _ h => h) (by decide) (by decide) _, hF13.step (fun _ h => h) (by decide) _, hF14.step (fun _ h => h) (by decide) _, hI14.skip (by decide)⟩
        · refine wpOp_step rfl (fun K' hK => ?_)
          clear hd hin hD
          go_simp
          exact hK _ _ ⟨updV xv 7 (Value.int IntKind.i64 ↑j), by simp [updV], hb, hG.any gk.out g7.out _ rfl, hF0.step (fun _ h => h) (by decide) (by decide) _, hF2.step (fun _ h => h) (by decide) (by decide) _, hF10.step (fun _ h => h) (by decide) (by decide) _, hF11.step (fun _ h => h) (by decide) (by decide) _, hF12.step (fun _ h => h) (by decide) (by decide) _, hF13.step (fun _ h => h) (by decide) _, hF14.step (fun _ h => h) (by decide) _, hI14.skip (by decide)⟩
        · refine wpOp_step rfl (fun K' hK => ?_)
          simp [Region.binds] at hd
          have e6 : xv 6 = Value.slice (some { block := qb, off := 0 }) A A := hG.get g6.out (by simp [hd])
          have e7 : xv 7 = Value.int IntKind.i64 ↑j := hG.get g7.out (by simp [hd])
          clear hd hin hD
          go_simp
          exact hK _ _ ⟨updV xv 8 (.pointer (some ⟨qb, j, none⟩)), by simp [updV, e6, e7], hb, hG.any gk.out g8.out _ rfl, hF0.step (fun _ h => h) (by decide) (by decide) _, hF2.step (fun _ h => h) (by decide) (by decide) _, hF10.step (fun _ h => h) (by decide) (by decide) _, hF11.step (fun _ h => h) (by decide) (by decide) _, hF12.step (fun _ h => h) (by decide) (by decide) _, hF13.step (fun _ h => h) (by decide) _, hF14.step (fun _ h => h) (by decide) _, hI14.skip (by decide)⟩
        · refine wpOp_step rfl (fun K' hK => ?_)
          simp [Region.binds] at hd
          have e8 : xv 8 = .pointer (some ⟨qb, j, none⟩) := hG.get g8.out (by simp [hd])
          have hc := CRx.out W hb
          clear hd hin hD
          go_simp
          exact hK _ _ ⟨updV xv 9 (.slice av n vc), by simp [updV, e8], hb, hG.any gk.out g9.out _ rfl, hF0.step (fun _ h => h) (by decide) (by decide) _, hF2.step (fun _ h => h) (by decide) (by decide) _, hF10.step (fun _ h => h) (by decide) (by decide) _, hF11.step (fun _ h => h) (by decide) (by decide) _, hF12.step (fun _ h => h) (by decide) (by decide) _, hF13.step (fun _ h => h) (by decide) _, hF14.step (fun _ h => h) (by decide) _, hI14.skip (by decide)⟩
        · refine wpOp_step rfl (fun K' hK => ?_)
          simp [Region.binds] at hd
          have e5 : xv 5 = Value.slice a0 N k0 := hG.get g5.out (by simp [hd])
          have e9 : xv 9 = .slice av n vc := hG.get g9.out (by simp [hd])
          clear hd hin hD
          go_simp
          refine (CP.out W hb).mono ?_
          rintro e w' ⟨v, rfl, hv, hb'⟩
          go_wp2_with fail
          exact ⟨updV xv 10 v, by simp [updV, e5, e9], JS.out _ _ hb' hb, hG.any gk.out g10.out v trivial, hF0.on st0.out hb' (by decide) (by decide) _, hF2.on st2.out hb' (by decide) (by decide) _, Fd.new (hv), hF11.on st11.out hb' (by decide) (by decide) _, hF12.on st12.out hb' (by decide) (by decide) _, hF13.on st13.out hb' (by decide) _, hF14.on st14.out hb' (by decide) _, hI14.skip (by decide)⟩
        · refine wpOp_step rfl (fun K' hK => ?_)
          simp [Region.binds] at hd
          have e4 : xv 4 = .int .i64 (B : Int) := hG.get g4.out (by simp [hd])
          have l10 : listed.getD 10 false = true := by simp [hd]
          have m10 := hF10.get l10 hnl
          clear hd hin hD
          go_simp
          refine (CS.out W _ hb m10).mono ?_
          rintro e w' ⟨v, rfl, hv, hb'⟩
          go_wp2_with fail
          exact ⟨updV xv 11 v, by simp [updV, e4], JS.out _ _ hb' hb, hG.any gk.out g11.out v trivial, hF0.on st0.out hb' (by decide) (by decide) _, hF2.on st2.out hb' (by decide) (by decide) _, Fd.off hnl, Fd.new (hv), hF12.on st12.out hb' (by decide) (by decide) _, hF13.on st13.out hb' (by decide) _, hF14.on st14.out hb' (by decide) _, hI14.skip (by decide)⟩
        · refine wpOp_step rfl (fun K' hK => ?_)
          simp [Region.binds] at hd
          have l11 : listed.getD 11 false = true := by simp [hd]
          have m11 := hF11.get l11 hnl
          clear hd hin hD
          obtain ⟨q1, e11, hq1, hk1⟩ := m11
          go_simp
          exact hK _ _ ⟨updV xv 12 (.slice (some ⟨W.heap.size, 0, none⟩) 1 1), by simp [updV, e11], JS.out _ _ (below_alloc _ _) hb, hG.any gk.out g12.out _ trivial, hF0.on st0.out (below_alloc _ _) (by decide) (by decide) _, hF2.on st2.out (below_alloc _ _) (by decide) (by decide) _, hF10.on st10.out (below_alloc _ _) (by decide) (by decide) _, Fd.off hnl, Fd.new (⟨q1, alloc_one _ _, hq1, hk1.below (below_alloc _ _)⟩), hF13.on st13.out (below_alloc _ _) (by decide) _, hF14.on st14.out (below_alloc _ _) (by decide) _, hI14.skip (by decide)⟩
        · refine wpOp_step rfl (fun K' hK => ?_)
          simp [Region.binds] at hd
          have l2 : listed.getD 2 false = true := by simp [hd]
          have m2 := hF2.get l2 hnl
          have l12 : listed.getD 12 false = true := by simp [hd]
          have m12 := hF12.get l12 hnl
          have q11 : listed.getD 11 false = true := by simp [hd]
          have f14 : listed.getD 14 false = false := by
            cases hx : listed.getD 14 false with
            | false => rfl
            | true =>
              have r13 : listed.getD 13 false = true := by have h := hD 14 (by decide) hx; simp [Region.binds] at h; simp [h]
              rw [getD_false hnl] at r13; cases r13
          clear hd hin hD
          obtain ⟨ae, ce, ee, he⟩ := m2
          obtain ⟨q1, hs1, hq1, hk1⟩ := m12
          refine step_addR W rfl (.tmp 26) (.tmp 36) rfl wr.heap.size (.slice ae (N + j) ce) (N + j) vs ee he _ 1 [.slice (some ⟨q1, 0, none⟩) B B] rfl hs1 (by intro u hu; rw [List.mem_singleton.1 hu]; rfl) (by omega) hb.size ?_
          intro ao cap w' hown hg hat hnc hcm
          exact hK _ _ ⟨updV xv 13 (.slice ao (N + j + 1) cap), by simp [updV, Act.put], hb.grown hg hb.size (fun k hk => (World.ownsRow.lt he k hk).1), hG.any gk.out g13.out _ trivial, Fd.gone l2 (by decide), Fd.off hnl, Fd.gone q11 (by decide), Fd.gone l12 (by decide), Fd.off hnl, Fe.new (⟨ao, cap, q1, rfl, hown, hq1, hk1.kept (kind_stays he hg hk1 (by decide))⟩), Fe.yet f14 (by decide) _, hI14.skip (by decide)⟩
        · refine wpOp_step rfl (fun K' hK => ?_)
          simp [Region.binds] at hd
          have l13 : listed.getD 13 false = true := by simp [hd]
          have m13 := hF13 l13
          clear hd hin hD
          go_simp
          exact hK _ _ ⟨updV xv 14 (xv 13), by simp [updV], hb, hG.any gk.out g14.out _ trivial, hF0.step (fun _ h => h) (by decide) (by decide) _, hF2.step (fun _ h => h) (by decide) (by decide) _, hF10.step (fun _ h => h) (by decide) (by decide) _, hF11.step (fun _ h => h) (by decide) (by decide) _, hF12.step (fun _ h => h) (by decide) (by decide) _, hF13.step (fun _ h => h) (by decide) _, Fe.new (m13), Ini4.done hnl⟩
      · rintro listed ac W ⟨xv, rfl, hb, hG, hF0, hF2, hF10, hF11, hF12, hF13, hF14, hI14⟩ hall
        have m14 : Hid ((IsRb wr.heap.size B (N + j) vs x) (xv 14) W) := hF14 (hall 14 (by decide))
        have XW : Hid ((fun W => Below wr.heap.size wr W) W) := hb
        clear hall hG hb gk JS g0 g1 g2 g3 g4 g5 g6 g7 g8 g9 g10 g11 g12 g13 g14 hF0 st0 hF2 st2 hF10 st10 hF11 st11 hF12 st12 hF13 st13 hF14 st14 hI14
        obtain ⟨a9, c9, q9, e14, ho9, hq9, hk9⟩ := m14.out
        rw [e14]
        clear m14 e14
        have XB := XW.out
        have WS : w.heap.size ≤ wr.heap.size := by have := B2.out.size; have := BB.out.size; omega
        have O3 : Hid (W.ownsRow w.heap.size 25 1 (.slice a9 (N + (j + 1)) c9) (N + (j + 1)) (vs ++ [.slice (some ⟨q9, 0, none⟩) B B])) := owns_mono ho9 WS
        have R3 : Hid (RowsB w.heap.size W (vs ++ [.slice (some ⟨q9, 0, none⟩) B B]) (compTo N B rows l (j + 1))) := by
          unfold Hid
          rw [NX.out]
          exact (R.out.below XB).snoc (by have := hk9.owb (B0 := w.heap.size) LX.out (by omega) (by omega); rw [LX.out]; exact this)
        have B3 : Hid (Below w2.heap.size w2 W) := on_below BB.out XB
        clear ho9 hq9 hk9 XB XW O R BB NX LX CP CS BX CRx SLv V1 HZ Hn WS
        go_wp2
        go_roundw
        case rel => exact ⟨j + 1, c9, a9, _, by omega, rfl, by go_num, O3, R3, B3⟩
        case measure => simp [intOf]; omega
    · obtain rfl : j = A := by omega
      have RR : Hid (wr.ownsRow w.heap.size 25 1 (.slice a (N + j) c) (N + j) vs ∧ RowsB w.heap.size wr vs (compD N B rows l) ∧ Below w.heap.size w wr) := ⟨O.out, by rw [← compTo_all RW.out.1]; exact R.out, on_below B2.out BB.out⟩
      clear O R BB
      go_wp2
      go_ret
      exact ⟨a, c, vs, rfl, RR.out⟩

end Go.Proofs.Ytkcijbejngnalaa
