/-
  outer: the document's Equations.
-/
import Derived.Test.YthlladpappldbaaOutD
import Derived.Test.YthlladpappldbaaOutN
namespace Go.Proofs.Ythlladpappldbaa
open Go.RowKit
set_option linter.unusedVariables false

/-- What lies in a slot until an operation writes it. -/
def Ini4 (listed : Array Bool) (xv : Nat → Value) (c : Nat) (v : Value) : Prop := listed.getD c false = false → xv c = v
theorem Ini4.skip {listed : Array Bool} {xv : Nat → Value} {c i : Nat} {v u : Value} (h : Ini4 listed xv c v) (hc : c ≠ i) : Ini4 (listed.setIfInBounds i true) (updV xv i u) c v := by
  intro a
  rw [getD_set_other hc] at a
  unfold updV
  rw [if_neg hc]
  exact h a
theorem Ini4.done {listed : Array Bool} {xv : Nat → Value} {c : Nat} {v u : Value} (h : listed.getD c true = false) : Ini4 (listed.setIfInBounds c true) (updV xv c u) c v := by
  intro a
  rw [getD_set_self h] at a
  cases a

/-- The equations of the first j rows. -/
def eqTo (rows : List (List Int)) (N j : Nat) : List (List Int) := (List.range j).map fun i => rows.getD i [] ++ [(N : Int) + (i : Int)]
theorem eqTo_length (rows : List (List Int)) (N j : Nat) : (eqTo rows N j).length = j := by simp [eqTo]
theorem eqTo_next {rows : List (List Int)} {N j : Nat} {r : List Int} (h : rows[j]? = some r) : eqTo rows N (j + 1) = eqTo rows N j ++ [r ++ [(N : Int) + (j : Int)]] := by
  unfold eqTo
  rw [List.range_succ, List.map_append, List.map_cons, List.map_nil, List.getD_eq_getElem?_getD, h]
  rfl
theorem eqTo_at {rows : List (List Int)} {N A j : Nat} {r : List Int} (h : rows[j]? = some r) (hj : j < A) : (eqTo rows N A)[j]? = some (r ++ [(N : Int) + (j : Int)]) := by
  unfold eqTo
  rw [List.getElem?_map, List.getElem?_range hj, Option.map_some, List.getD_eq_getElem?_getD, h]
  rfl

/-- What the document's Equations keeps. -/
structure EqI (w W : World) (b0 : Nat) (N B Q E F : Int) (qb A : Nat) (vs : List Value) (rows : List (List Int)) (ov : Value) (on : Nat) (vE : List Value) (eqs : List (List Int)) : Prop where
  f : RfI w.heap.size W qb A vs rows
  p : FiveB W b0 N B Q E F
  b : Below w.heap.size w W
  o : W.ownsRow w.heap.size 28 1 ov on vE
  ne : ov.ownBlock ≠ some qb
  le : eqs.length = on
  rd : ∀ (i : Nat) (v : Value) (l : List Int), vE[i]? = some v → eqs[i]? = some l → OwnZ w.heap.size W v l.length l

section
variable {w W W' : World} {b0 : Nat} {N B Q E F : Int} {qb A : Nat} {vs : List Value} {rows : List (List Int)} {ov : Value} {on : Nat} {vE : List Value} {eqs : List (List Int)}

theorem EqI.below (h : EqI w W b0 N B Q E F qb A vs rows ov on vE eqs) (hb : Below W.heap.size W W') : EqI w W' b0 N B Q E F qb A vs rows ov on vE eqs :=
  ⟨h.f.below hb, h.p.below hb, below_on h.b hb, owns_kept h.o (fun q hq => hb.block q (h.o.lt q hq).2), h.ne, h.le, fun i v l hv hl => (h.rd i v l hv hl).below hb⟩

theorem EqI.len (h : EqI w W b0 N B Q E F qb A vs rows ov on vE eqs) : vE.length = on := by
  have := h.o.1
  omega

theorem EqI.push (h : EqI w W b0 N B Q E F qb A vs rows ov on vE eqs) {v ov' : Value} {r : List Int} (hv : OwnZ w.heap.size W v r.length r) (hg : W.grownBy W' ov.ownBlock) (ho : W'.ownsRow w.heap.size 28 1 ov' (on + 1) (vE ++ [v])) (hat : ov'.ownBlock = ov.ownBlock ∨ ov'.ownBlock = some W.heap.size) :
    EqI w W' b0 N B Q E F qb A vs rows ov' (on + 1) (vE ++ [v]) (eqs ++ [r]) := by
  have hty : ∀ g, ov.ownBlock = some g → ∃ cur, W.heap[g]? = some (.cells cur 28 (0, 0)) := by
    intro g hg'
    rcases h.o.2 with ⟨hv', _⟩ | ⟨g', cap, cur, hv', _, hh, _⟩
    · rw [hv'] at hg'
      cases hg'
    · rw [hv'] at hg'
      obtain rfl := Option.some.inj hg'
      exact ⟨cur, hh⟩
  have keep : ∀ (u : Value) (n : Nat) (l : List Int), OwnZ w.heap.size W u n l → OwnZ w.heap.size W' u n l := by
    intro u n l hO
    refine hO.kept (fun q hq => hg.block q (hO.lt q hq).2 (fun e => ?_))
    obtain ⟨cur, hh⟩ := hty q e.symm
    exact own_ne hO hh (by decide) hq
  refine ⟨⟨?_, h.f.lv, h.f.lr, fun i u l hu hl => keep _ _ _ (h.f.own i u l hu hl), h.f.hq⟩, ?_, ?_, ho, ?_, by rw [List.length_append, h.le]; rfl, ?_⟩
  · rw [hg.block qb h.f.lt (fun e => h.ne e.symm)]
    exact h.f.hc
  · unfold FiveB
    rw [hg.block b0 h.p.lt (fun e => ?_)]
    · exact h.p
    · obtain ⟨cur, hh⟩ := hty b0 e.symm
      have h1 := h.p
      unfold FiveB at h1
      rw [h1] at hh
      injection hh with hh
      injection hh with _ hh _
      exact absurd hh (by decide)
  · exact h.b.grown hg h.b.size (fun k hk => (h.o.lt k hk).1)
  · rcases hat with h1 | h1
    · rw [h1]
      exact h.ne
    · rw [h1]
      intro e
      have := h.f.lt
      injection e with e
      omega
  · intro i u l hu hl
    have hlen := h.len
    have hle := h.le
    by_cases hi : i < on
    · rw [List.getElem?_append_left (by omega)] at hu hl
      exact keep _ _ _ (h.rd i u l hu hl)
    · by_cases e : i = on
      · subst e
        rw [List.getElem?_append_right (by omega)] at hu hl
        rw [hlen, Nat.sub_self] at hu
        rw [hle, Nat.sub_self] at hl
        simp at hu hl
        subst hu
        subst hl
        exact keep _ _ _ hv
      · rw [List.getElem?_eq_none (by simp; omega)] at hu
        cases hu
end

theorem s1_sl {W : World} {p : Nat} {u : Value} (h : W.cell? ⟨p, 0, none⟩ = some u) : Sl 1 W (.slice (some ⟨p, 0, none⟩) 1 1) 1 [u] := by
  refine ⟨rfl, _, _, rfl, Nat.le_refl _, by simp [maxLen], fun h => by simp at h, .inr ⟨p, 0, rfl, ?_⟩⟩
  intro j v hj
  have : j = 0 := by have := (List.getElem?_eq_some_iff.1 hj).1; simp at this; omega
  subst this
  simp at hj
  subst hj
  exact h

def IsS1 (Bs n : Nat) (l : List Int) : Value → World → Prop := fun v W => ∃ p a c, v = .slice (some ⟨p, 0, none⟩) 1 1 ∧ W.cell? ⟨p, 0, none⟩ = some (.slice a n c) ∧ OwnZ Bs W (.slice a n c) n l
theorem stays_s1 (Bs n : Nat) (l : List Int) : Stays (IsS1 Bs n l) := fun _ _ _ hb ⟨p, a, c, h1, h2, h3⟩ => ⟨p, a, c, h1, (hb.cell (cell_block_lt h2)).trans h2, h3.below hb⟩
def IsEq (w : World) (b0 : Nat) (N B Q E F : Int) (qb A : Nat) (vs : List Value) (rows : List (List Int)) (on : Nat) (eqs : List (List Int)) : Value → World → Prop :=
  fun v W => ∃ a c vE, v = .slice a on c ∧ EqI w W b0 N B Q E F qb A vs rows (.slice a on c) on vE eqs
theorem stays_eq (w : World) (b0 : Nat) (N B Q E F : Int) (qb A : Nat) (vs : List Value) (rows : List (List Int)) (on : Nat) (eqs : List (List Int)) : Stays (IsEq w b0 N B Q E F qb A vs rows on eqs) := fun _ _ _ hb ⟨a, c, vE, h1, h2⟩ => ⟨a, c, vE, h1, h2.below hb⟩

set_option maxRecDepth 100000 in
set_option maxHeartbeats 4000000 in
/-- The document's Equations. -/
theorem reqs_any (B E F : Int) (N Q A S : Nat) (w : World) (h : PrOk N B Q E F N Q A) (hS : S < 18446744073709551616) (hA : A ≤ 1000000) :
    Calls Try.prog 30 #[.agg #[.int .i64 N, .int .i64 B, .int .i64 Q, .int .i64 E, .int .i64 F], .int .u64 S] w fun e w' => ∃ oa oc b0 qb vs vE, e = .returned (.slice oa A oc) ∧ EqI w w' b0 N B Q E F qb A vs (hasR S A Q N) (.slice oa A oc) A vE (eqTo (hasR S A Q N) N A) := by
  obtain ⟨i0, hi0, hz0, hz1, hz2⟩ := info_parts Try.infoRow
  have hok := h.ok hS
  have hN := hok.n
  have HRow : Hid (∀ (j : Nat) (r : List Int), (hasR S A Q N)[j]? = some r → r.length ≤ N) := fun j r h => hasR_short N j r h
  have CH : Hid (∀ W, Calls Try.prog 31 #[.agg #[.int .i64 N, .int .i64 B, .int .i64 Q, .int .i64 E, .int .i64 F], .int .u64 S] W fun e w' => ∃ qb vs, e = .returned (.slice (some ⟨qb, 0, none⟩) A A) ∧ RfI W.heap.size w' qb A vs (hasR S A Q N) ∧ Below W.heap.size W w') := fun W => rhas10_any B E F N Q A S W h hS hA
  clear h hok hS
  generalize hasR S A Q N = rows at *
  have P0 : Hid (FiveB (w.alloc (.cells #[.int .i64 N, .int .i64 B, .int .i64 Q, .int .i64 E, .int .i64 F] 43)) w.heap.size N B Q E F) := FiveB.new _ _ _ _ _ _
  go_enter Try.func30, Try.ntmps30
  go_wp2_with fail
  refine (CH.out _).mono ?_
  rintro e w1 ⟨qb, vs, rfl, hf1, hb1⟩
  have B1 : Hid (Below w.heap.size w w1) := below_on (below_alloc _ _) hb1
  have P1 : Hid (FiveB w1 w.heap.size N B Q E F) := P0.out.below hb1
  have F1 : Hid (RfI w.heap.size w1 qb A vs rows) := ⟨hf1.hc, hf1.lv, hf1.lr, fun i v l hv hl => (hf1.own i v l hv hl).mono (by simp), by have := hf1.hq; simp at this; omega⟩
  clear hb1 CH P0 hf1
  have I2 : Hid (EqI w (w1.alloc (.cells #[] 28)) w.heap.size N B Q E F qb A vs rows (.slice (some ⟨w1.heap.size, 0, none⟩) 0 0) 0 [] (eqTo rows N 0)) := by
    refine ⟨F1.out.below (below_alloc _ _), P1.out.below (below_alloc _ _), B1.out.alloc B1.out.size _, World.ownsRow_lit w1 #[] 0 B1.out.size (by simp [maxLen]) rfl, ?_, rfl, ?_⟩
    · intro e
      have := F1.out.lt
      have e2 : w1.heap.size = qb := Option.some.inj e
      omega
    · intro i v l hv
      simp at hv
  clear F1 P1 B1
  go_wp2
  go_loopw [6, 7] (fun ov jv wr => ∃ (j oc : Nat) (oa : Option Addr) (vE : List Value), j ≤ A ∧ jv = .int .i64 j ∧ ov = .slice oa j oc ∧ Hid (EqI w wr w.heap.size N B Q E F qb A vs rows (.slice oa j oc) j vE (eqTo rows N j))) (fun _ jv _ => A - (intOf jv).toNat)
  case atStart => exact ⟨0, 0, _, [], by omega, rfl, rfl, I2⟩
  case round =>
    obtain ⟨j, oc, oa, vE, hjA, rfl, rfl, I⟩ := hrel
    clear I2
    by_cases hlt : j < A
    · obtain ⟨rv, r, hrv, hr⟩ := I.out.f.row hlt
      have HN2 : Hid (eqTo rows N (j + 1) = eqTo rows N j ++ [r ++ [(N : Int) + (j : Int)]]) := eqTo_next hr
      have hrl := HRow.out j r hr
      have HO := I.out.f.own j rv r hrv hr
      obtain ⟨rn, hrn⟩ : ∃ rn, r.length = rn := ⟨_, rfl⟩
      have HRN : Hid (r.length = rn) := hrn
      rw [hrn] at HO hrl
      obtain ⟨av, vc, ev, -⟩ := owned_slice HO
      subst ev
      have HZr : Hid (∀ W, Below wr.heap.size wr W → Sl 1 W (.slice av rn vc) rn (r.map (Value.int .i64))) := by
        intro W hW
        have := (HO.below hW).zs
        unfold Zs at this
        rw [HRN.out] at this
        exact this
      have CRx : Hid (∀ W, Below wr.heap.size wr W → W.cell? ⟨qb, j, none⟩ = some (.slice av rn vc)) := fun W hW => (I.out.f.below hW).cell hrv
      have CNx : Hid (∀ W, Below wr.heap.size wr W → W.cell? ⟨w.heap.size, 0, none⟩ = some (.int .i64 (N : Int))) := fun W hW => (I.out.p.below hW).five.1
      have HIB : Hid (∀ W, Below wr.heap.size wr W → EqI w W w.heap.size N B Q E F qb A vs rows (.slice oa j oc) j vE (eqTo rows N j)) := fun W hW => I.out.below hW
      have HBS : Hid (w.heap.size ≤ wr.heap.size) := I.out.b.size
      clear hr hrv hrn HO I
      have hrn2 : rn + 1 ≤ 1000000000 := by omega
      have hw10 : IntKind.i64.wrap ((N : Int) + (j : Int)) = (N : Int) + (j : Int) := by rw [IntKind.wrap_i64]; omega
      go_upto_region 6 with fail
      refine wp_region_any (by kernel_rfl) ?_
      obtain ⟨gs, hgs⟩ : ∃ gs : List (Value → World → Prop), gs = [IsV (Value.slice oa j oc), IsAnyV, IsV (Value.slice (some { block := qb, off := 0 }) A A), IsV (Value.int IntKind.i64 ↑j), IsV (.pointer (some ⟨qb, j, none⟩)), IsV (.slice av rn vc), IsAnyV, IsV (.pointer (some ⟨w.heap.size, 0, none⟩)), IsV (.int .i64 (N : Int)), IsV (Value.int IntKind.i64 ↑j), IsV (.int .i64 ((N : Int) + (j : Int))), IsAnyV, IsAnyV, IsAnyV, IsAnyV, IsAnyV] := ⟨_, rfl⟩
      have g0 : Hid (gs[0]? = some (IsV (Value.slice oa j oc))) := by unfold Hid; rw [hgs]; rfl
      have g1 : Hid (gs[1]? = some (IsAnyV)) := by unfold Hid; rw [hgs]; rfl
      have g2 : Hid (gs[2]? = some (IsV (Value.slice (some { block := qb, off := 0 }) A A))) := by unfold Hid; rw [hgs]; rfl
      have g3 : Hid (gs[3]? = some (IsV (Value.int IntKind.i64 ↑j))) := by unfold Hid; rw [hgs]; rfl
      have g4 : Hid (gs[4]? = some (IsV (.pointer (some ⟨qb, j, none⟩)))) := by unfold Hid; rw [hgs]; rfl
      have g5 : Hid (gs[5]? = some (IsV (.slice av rn vc))) := by unfold Hid; rw [hgs]; rfl
      have g6 : Hid (gs[6]? = some (IsAnyV)) := by unfold Hid; rw [hgs]; rfl
      have g7 : Hid (gs[7]? = some (IsV (.pointer (some ⟨w.heap.size, 0, none⟩)))) := by unfold Hid; rw [hgs]; rfl
      have g8 : Hid (gs[8]? = some (IsV (.int .i64 (N : Int)))) := by unfold Hid; rw [hgs]; rfl
      have g9 : Hid (gs[9]? = some (IsV (Value.int IntKind.i64 ↑j))) := by unfold Hid; rw [hgs]; rfl
      have g10 : Hid (gs[10]? = some (IsV (.int .i64 ((N : Int) + (j : Int))))) := by unfold Hid; rw [hgs]; rfl
      have g11 : Hid (gs[11]? = some (IsAnyV)) := by unfold Hid; rw [hgs]; rfl
      have g12 : Hid (gs[12]? = some (IsAnyV)) := by unfold Hid; rw [hgs]; rfl
      have g13 : Hid (gs[13]? = some (IsAnyV)) := by unfold Hid; rw [hgs]; rfl
      have g14 : Hid (gs[14]? = some (IsAnyV)) := by unfold Hid; rw [hgs]; rfl
      have g15 : Hid (gs[15]? = some (IsAnyV)) := by unfold Hid; rw [hgs]; rfl
      have gk : Hid (∀ p ∈ gs, ∀ v (U U' : World), p v U → p v U') := by
        unfold Hid
        rw [hgs]
        simp only [List.forall_mem_cons]
        exact ⟨(fun _ _ _ h => h), (fun _ _ _ h => h), (fun _ _ _ h => h), (fun _ _ _ h => h), (fun _ _ _ h => h), (fun _ _ _ h => h), (fun _ _ _ h => h), (fun _ _ _ h => h), (fun _ _ _ h => h), (fun _ _ _ h => h), (fun _ _ _ h => h), (fun _ _ _ h => h), (fun _ _ _ h => h), (fun _ _ _ h => h), (fun _ _ _ h => h), (fun _ _ _ h => h), by simp⟩
      clear hgs
      have JS : Hid (∀ W W', Below W.heap.size W W' → (fun _ => True) W → (fun _ => True) W') := fun _ _ _ _ => trivial
      have st1 : Hid (Stays (IsE0 wr.heap.size)) := stays_e0 _
      have st6 : Hid (Stays (IsOz wr.heap.size rn r)) := stays_oz _ _ _
      have st11 : Hid (Stays (IsZ1 ((N : Int) + (j : Int)))) := stays_z1 _
      have st12 : Hid (Stays (IsOz wr.heap.size (rn + 1) (r ++ [(N : Int) + (j : Int)]))) := stays_oz _ _ _
      have st13 : Hid (Stays (IsS1 wr.heap.size (rn + 1) (r ++ [(N : Int) + (j : Int)]))) := stays_s1 _ _ _
      have st14 : Hid (Stays (IsEq w w.heap.size N B Q E F qb A vs rows (j + 1) (eqTo rows N (j + 1)))) := stays_eq _ _ _ _ _ _ _ _ _ _ _ _ _
      have st15 : Hid (Stays (IsEq w w.heap.size N B Q E F qb A vs rows (j + 1) (eqTo rows N (j + 1)))) := stays_eq _ _ _ _ _ _ _ _ _ _ _ _ _
      have su14 : Hid (∀ W W', Below W.heap.size W W' → (fun W => Below wr.heap.size wr W) W → (fun W => Below wr.heap.size wr W) W') := fun W W' hb h => h.trans (hb.mono h.size)
      refine wpAny_inv4 (fun listed ac W => ∃ xv : Nat → Value, ac = ⟨#[Value.agg #[Value.int IntKind.i64 ↑N, Value.int IntKind.i64 B, Value.int IntKind.i64 ↑Q, Value.int IntKind.i64 E, Value.int IntKind.i64 F], Value.int IntKind.u64 ↑S, Value.pointer (some { block := w.heap.size, off := 0 }), undef, Value.slice none 0 0, Value.slice (some { block := qb, off := 0 }) A A, xv 15, Value.int IntKind.i64 ↑j, Value.agg #[Value.int IntKind.i64 ↑N, Value.int IntKind.i64 B, Value.int IntKind.i64 ↑Q, Value.int IntKind.i64 E, Value.int IntKind.i64 F], Value.int IntKind.u64 ↑S, Value.slice (some { block := qb, off := 0 }) A A, Value.slice (some { block := w1.heap.size, off := 0 }) 0 0, Value.int IntKind.i64 ↑j, Value.slice (some { block := qb, off := 0 }) A A, Value.int IntKind.i64 ↑A, Value.bool true, u16, u17, xv 0, xv 1, xv 2, xv 3, xv 4, xv 5, xv 6, xv 7, xv 8, xv 9, xv 10, xv 11, xv 12, xv 13, xv 14, undef], []⟩ ∧ (fun _ => True) W ∧ Lst gs listed xv W ∧ Fd listed xv W 1 6 (IsE0 wr.heap.size) ∧ Fd listed xv W 6 12 (IsOz wr.heap.size rn r) ∧ Fd listed xv W 11 12 (IsZ1 ((N : Int) + (j : Int))) ∧ Fd listed xv W 12 13 (IsOz wr.heap.size (rn + 1) (r ++ [(N : Int) + (j : Int)])) ∧ Fd listed xv W 13 14 (IsS1 wr.heap.size (rn + 1) (r ++ [(N : Int) + (j : Int)])) ∧ Fe listed xv W 14 (IsEq w w.heap.size N B Q E F qb A vs rows (j + 1) (eqTo rows N (j + 1))) ∧ Fe listed xv W 15 (IsEq w w.heap.size N B Q E F qb A vs rows (j + 1) (eqTo rows N (j + 1))) ∧ Fz listed W 14 (fun W => Below wr.heap.size wr W) ∧ Ini4 listed xv 15 (Value.slice oa j oc)) (by kernel_rfl) ?_ ?_ _ _ _ _ (by kernel_rfl) (of_decide_eq_true (by kernel_rfl)) (Down.start _) ⟨fun jx => if jx = 0 then u18 else if jx = 1 then u19 else if jx = 2 then u20 else if jx = 3 then u21 else if jx = 4 then u22 else if jx = 5 then u23 else if jx = 6 then u24 else if jx = 7 then u25 else if jx = 8 then u26 else if jx = 9 then u27 else if jx = 10 then u28 else if jx = 11 then u29 else if jx = 12 then u30 else if jx = 13 then u31 else if jx = 14 then u32 else if jx = 15 then Value.slice oa j oc else undef, rfl, trivial, Lst.start _ _ _ _, Fd.start _ _ _ _ _ _, Fd.start _ _ _ _ _ _, Fd.start _ _ _ _ _ _, Fd.start _ _ _ _ _ _, Fd.start _ _ _ _ _ _, Fe.start _ _ _ _ _, Fe.start _ _ _ _ _, Fz.start (below0 _), (fun _ => rfl)⟩
      · rintro listed ac W ⟨xv, rfl, hb, hG, hF1, hF6, hF11, hF12, hF13, hF14, hF15, hU14, hI15⟩ hD i hi hnl hd
        have hin : i < 16 := hi
        clear hi
        have hcase : i = 0 ∨ i = 1 ∨ i = 2 ∨ i = 3 ∨ i = 4 ∨ i = 5 ∨ i = 6 ∨ i = 7 ∨ i = 8 ∨ i = 9 ∨ i = 10 ∨ i = 11 ∨ i = 12 ∨ i = 13 ∨ i = 14 ∨ i = 15 := by omega
        rcases hcase with rfl | rfl | rfl | rfl | rfl | rfl | rfl | rfl | rfl | rfl | rfl | rfl | rfl | rfl | rfl | rfl
        · refine wpOp_step rfl (fun K' hK => ?_)
          have f15 : listed.getD 15 false = false := by
            cases hx : listed.getD 15 false with
            | false => rfl
            | true =>
              have r0 : listed.getD 0 false = true := by have h := hD 15 (by decide) hx; simp [Region.binds] at h; simp [h]
              rw [getD_false hnl] at r0; cases r0
          have ei15 : xv 15 = Value.slice oa j oc := hI15 f15
          clear hd hin hD
          go_simp
          exact hK _ _ ⟨updV xv 0 (Value.slice oa j oc), by simp [updV, ei15], hb, hG.any gk.out g0.out _ rfl, hF1.step (fun _ h => h) (by decide) (by decide) _, hF6.step (fun _ h => h) (by decide) (by decide) _, hF11.step (fun _ h => h) (by decide) (by decide) _, hF12.step (fun _ h => h) (by decide) (by decide) _, hF13.step (fun _ h => h) (by decide) (by decide) _, hF14.step (fun _ h => h) (by decide) _, hF15.step (fun _ h => h) (by decide) _, hU14.step (fun h => h) (by decide), hI15.skip (by decide)⟩
        · refine wpOp_step rfl (fun K' hK => ?_)
          have f14 : listed.getD 14 false = false := by
            cases hx : listed.getD 14 false with
            | false => rfl
            | true =>
              have r12 : listed.getD 12 false = true := by have h := hD 14 (by decide) hx; simp [Region.binds] at h; simp [h]
              have r6 : listed.getD 6 false = true := by have h := hD 12 (by decide) r12; simp [Region.binds] at h; simp [h]
              have r1 : listed.getD 1 false = true := by have h := hD 6 (by decide) r6; simp [Region.binds] at h; simp [h]
              rw [getD_false hnl] at r1; cases r1
          have u14 := hU14 f14
          clear hd hin hD
          go_simp
          exact hK _ _ ⟨updV xv 1 (.slice (some ⟨W.heap.size, 0, none⟩) 0 0), by simp [updV], trivial, hG.any gk.out g1.out _ trivial, Fd.new (⟨_, rfl, u14.size, alloc_at _ _⟩), hF6.on st6.out (below_alloc _ _) (by decide) (by decide) _, hF11.on st11.out (below_alloc _ _) (by decide) (by decide) _, hF12.on st12.out (below_alloc _ _) (by decide) (by decide) _, hF13.on st13.out (below_alloc _ _) (by decide) (by decide) _, hF14.on st14.out (below_alloc _ _) (by decide) _, hF15.on st15.out (below_alloc _ _) (by decide) _, hU14.step (su14.out _ _ (below_alloc _ _)) (by decide), hI15.skip (by decide)⟩
        · refine wpOp_step rfl (fun K' hK => ?_)
          clear hd hin hD
          go_simp
          exact hK _ _ ⟨updV xv 2 (Value.slice (some { block := qb, off := 0 }) A A), by simp [updV], hb, hG.any gk.out g2.out _ rfl, hF1.step (fun _ h => h) (by decide) (by decide) _, hF6.step (fun _ h => h) (by decide) (by decide) _, hF11.step (fun _ h => h) (by decide) (by decide) _, hF12.step (fun _ h => h) (by decide) (by decide) _, hF13.step (fun _ h => h) (by decide) (by decide) _, hF14.step (fun _ h => h) (by decide) _, hF15.step (fun _ h => h) (by decide) _, hU14.step (fun h => h) (by decide), hI15.skip (by decide)⟩
        · refine wpOp_step rfl (fun K' hK => ?_)
          clear hd hin hD
          go_simp
          exact hK _ _ ⟨updV xv 3 (Value.int IntKind.i64 ↑j), by simp [updV], hb, hG.any gk.out g3.out _ rfl, hF1.step (fun _ h => h) (by decide) (by decide) _, hF6.step (fun _ h => h) (by decide) (by decide) _, hF11.step (fun _ h => h) (by decide) (by decide) _, hF12.step (fun _ h => h) (by decide) (by decide) _, hF13.step (fun _ h => h) (by decide) (by decide) _, hF14.step (fun _ h => h) (by decide) _, hF15.step (fun _ h => h) (by decide) _, hU14.step (fun h => h) (by decide), hI15.skip (by decide)⟩
        · refine wpOp_step rfl (fun K' hK => ?_)
          simp [Region.binds] at hd
          have e2 : xv 2 = Value.slice (some { block := qb, off := 0 }) A A := hG.get g2.out (by simp [hd])
          have e3 : xv 3 = Value.int IntKind.i64 ↑j := hG.get g3.out (by simp [hd])
          clear hd hin hD
          go_simp
          exact hK _ _ ⟨updV xv 4 (.pointer (some ⟨qb, j, none⟩)), by simp [updV, e2, e3], hb, hG.any gk.out g4.out _ rfl, hF1.step (fun _ h => h) (by decide) (by decide) _, hF6.step (fun _ h => h) (by decide) (by decide) _, hF11.step (fun _ h => h) (by decide) (by decide) _, hF12.step (fun _ h => h) (by decide) (by decide) _, hF13.step (fun _ h => h) (by decide) (by decide) _, hF14.step (fun _ h => h) (by decide) _, hF15.step (fun _ h => h) (by decide) _, hU14.step (fun h => h) (by decide), hI15.skip (by decide)⟩
        · refine wpOp_step rfl (fun K' hK => ?_)
          simp [Region.binds] at hd
          have e4 : xv 4 = .pointer (some ⟨qb, j, none⟩) := hG.get g4.out (by simp [hd])
          have f14 : listed.getD 14 false = false := by
            cases hx : listed.getD 14 false with
            | false => rfl
            | true =>
              have r12 : listed.getD 12 false = true := by have h := hD 14 (by decide) hx; simp [Region.binds] at h; simp [h]
              have r6 : listed.getD 6 false = true := by have h := hD 12 (by decide) r12; simp [Region.binds] at h; simp [h]
              have r5 : listed.getD 5 false = true := by have h := hD 6 (by decide) r6; simp [Region.binds] at h; simp [h]
              rw [getD_false hnl] at r5; cases r5
          have u14 := hU14 f14
          have hc := CRx.out W u14
          clear hd hin hD
          go_simp
          exact hK _ _ ⟨updV xv 5 (.slice av rn vc), by simp [updV, e4], hb, hG.any gk.out g5.out _ rfl, hF1.step (fun _ h => h) (by decide) (by decide) _, hF6.step (fun _ h => h) (by decide) (by decide) _, hF11.step (fun _ h => h) (by decide) (by decide) _, hF12.step (fun _ h => h) (by decide) (by decide) _, hF13.step (fun _ h => h) (by decide) (by decide) _, hF14.step (fun _ h => h) (by decide) _, hF15.step (fun _ h => h) (by decide) _, hU14.step (fun h => h) (by decide), hI15.skip (by decide)⟩
        · refine wpOp_step rfl (fun K' hK => ?_)
          simp [Region.binds] at hd
          have l1 : listed.getD 1 false = true := by simp [hd]
          have m1 := hF1.get l1 hnl
          have e5 : xv 5 = .slice av rn vc := hG.get g5.out (by simp [hd])
          have f12 : listed.getD 12 false = false := by
            cases hx : listed.getD 12 false with
            | false => rfl
            | true =>
              have r6 : listed.getD 6 false = true := by have h := hD 12 (by decide) hx; simp [Region.binds] at h; simp [h]
              rw [getD_false hnl] at r6; cases r6
          have f13 : listed.getD 13 false = false := by
            cases hx : listed.getD 13 false with
            | false => rfl
            | true =>
              have r12 : listed.getD 12 false = true := by have h := hD 13 (by decide) hx; simp [Region.binds] at h; simp [h]
              have r6 : listed.getD 6 false = true := by have h := hD 12 (by decide) r12; simp [Region.binds] at h; simp [h]
              rw [getD_false hnl] at r6; cases r6
          have f15 : listed.getD 15 false = false := by
            cases hx : listed.getD 15 false with
            | false => rfl
            | true =>
              have r6 : listed.getD 6 false = true := by have h := hD 15 (by decide) hx; simp [Region.binds] at h; simp [h]
              rw [getD_false hnl] at r6; cases r6
          have f14 : listed.getD 14 false = false := by
            cases hx : listed.getD 14 false with
            | false => rfl
            | true =>
              have r12 : listed.getD 12 false = true := by have h := hD 14 (by decide) hx; simp [Region.binds] at h; simp [h]
              have r6 : listed.getD 6 false = true := by have h := hD 12 (by decide) r12; simp [Region.binds] at h; simp [h]
              rw [getD_false hnl] at r6; cases r6
          have u14 := hU14 f14
          clear hd hin hD
          obtain ⟨qe, ee, hqe, hhe⟩ := m1
          have he := e0_own hqe hhe
          refine step_addZ W rfl (.tmp 19) (.tmp 23) rfl wr.heap.size (.slice (some ⟨qe, 0, none⟩) 0 0) 0 [] ee he _ rn r e5 (HZr.out W u14) (by omega) u14.size ?_
          intro ao cap w' hown hg hat hnc hcm
          simp only [Nat.zero_add, List.nil_append] at hown
          exact hK _ _ ⟨updV xv 6 (.slice ao rn cap), by simp [updV, Act.put], trivial, hG.any gk.out g6.out _ trivial, Fd.off hnl, Fd.new (⟨ao, cap, rfl, hown⟩), hF11.step (fun v hv => z1_grown hv hhe hg) (by decide) (by decide) _, Fd.yet f12 (by decide) _, Fd.yet f13 (by decide) _, Fe.yet f14 (by decide) _, Fe.yet f15 (by decide) _, hU14.step (fun _ => u14.grown hg u14.size (fun k hk => (he.lt k hk).1)) (by decide), hI15.skip (by decide)⟩
        · refine wpOp_step rfl (fun K' hK => ?_)
          clear hd hin hD
          go_simp
          exact hK _ _ ⟨updV xv 7 (.pointer (some ⟨w.heap.size, 0, none⟩)), by simp [updV], hb, hG.any gk.out g7.out _ rfl, hF1.step (fun _ h => h) (by decide) (by decide) _, hF6.step (fun _ h => h) (by decide) (by decide) _, hF11.step (fun _ h => h) (by decide) (by decide) _, hF12.step (fun _ h => h) (by decide) (by decide) _, hF13.step (fun _ h => h) (by decide) (by decide) _, hF14.step (fun _ h => h) (by decide) _, hF15.step (fun _ h => h) (by decide) _, hU14.step (fun h => h) (by decide), hI15.skip (by decide)⟩
        · refine wpOp_step rfl (fun K' hK => ?_)
          simp [Region.binds] at hd
          have e7 : xv 7 = .pointer (some ⟨w.heap.size, 0, none⟩) := hG.get g7.out (by simp [hd])
          have f14 : listed.getD 14 false = false := by
            cases hx : listed.getD 14 false with
            | false => rfl
            | true =>
              have r12 : listed.getD 12 false = true := by have h := hD 14 (by decide) hx; simp [Region.binds] at h; simp [h]
              have r11 : listed.getD 11 false = true := by have h := hD 12 (by decide) r12; simp [Region.binds] at h; simp [h]
              have r10 : listed.getD 10 false = true := by have h := hD 11 (by decide) r11; simp [Region.binds] at h; simp [h]
              have r8 : listed.getD 8 false = true := by have h := hD 10 (by decide) r10; simp [Region.binds] at h; simp [h]
              rw [getD_false hnl] at r8; cases r8
          have u14 := hU14 f14
          have hc := CNx.out W u14
          clear hd hin hD
          go_simp
          exact hK _ _ ⟨updV xv 8 (.int .i64 (N : Int)), by simp [updV, e7], hb, hG.any gk.out g8.out _ rfl, hF1.step (fun _ h => h) (by decide) (by decide) _, hF6.step (fun _ h => h) (by decide) (by decide) _, hF11.step (fun _ h => h) (by decide) (by decide) _, hF12.step (fun _ h => h) (by decide) (by decide) _, hF13.step (fun _ h => h) (by decide) (by decide) _, hF14.step (fun _ h => h) (by decide) _, hF15.step (fun _ h => h) (by decide) _, hU14.step (fun h => h) (by decide), hI15.skip (by decide)⟩
        · refine wpOp_step rfl (fun K' hK => ?_)
          clear hd hin hD
          go_simp
          exact hK _ _ ⟨updV xv 9 (Value.int IntKind.i64 ↑j), by simp [updV], hb, hG.any gk.out g9.out _ rfl, hF1.step (fun _ h => h) (by decide) (by decide) _, hF6.step (fun _ h => h) (by decide) (by decide) _, hF11.step (fun _ h => h) (by decide) (by decide) _, hF12.step (fun _ h => h) (by decide) (by decide) _, hF13.step (fun _ h => h) (by decide) (by decide) _, hF14.step (fun _ h => h) (by decide) _, hF15.step (fun _ h => h) (by decide) _, hU14.step (fun h => h) (by decide), hI15.skip (by decide)⟩
        · refine wpOp_step rfl (fun K' hK => ?_)
          simp [Region.binds] at hd
          have e8 : xv 8 = .int .i64 (N : Int) := hG.get g8.out (by simp [hd])
          have e9 : xv 9 = Value.int IntKind.i64 ↑j := hG.get g9.out (by simp [hd])
          clear hd hin hD
          go_simp
          exact hK _ _ ⟨updV xv 10 (.int .i64 ((N : Int) + (j : Int))), by simp [updV, e8, e9], hb, hG.any gk.out g10.out _ rfl, hF1.step (fun _ h => h) (by decide) (by decide) _, hF6.step (fun _ h => h) (by decide) (by decide) _, hF11.step (fun _ h => h) (by decide) (by decide) _, hF12.step (fun _ h => h) (by decide) (by decide) _, hF13.step (fun _ h => h) (by decide) (by decide) _, hF14.step (fun _ h => h) (by decide) _, hF15.step (fun _ h => h) (by decide) _, hU14.step (fun h => h) (by decide), hI15.skip (by decide)⟩
        · refine wpOp_step rfl (fun K' hK => ?_)
          simp [Region.binds] at hd
          have e10 : xv 10 = .int .i64 ((N : Int) + (j : Int)) := hG.get g10.out (by simp [hd])
          clear hd hin hD
          go_simp
          exact hK _ _ ⟨updV xv 11 (.slice (some ⟨W.heap.size, 0, none⟩) 1 1), by simp [updV, e10], trivial, hG.any gk.out g11.out _ trivial, hF1.on st1.out (below_alloc _ _) (by decide) (by decide) _, hF6.on st6.out (below_alloc _ _) (by decide) (by decide) _, Fd.new (zs_one _ _ _), hF12.on st12.out (below_alloc _ _) (by decide) (by decide) _, hF13.on st13.out (below_alloc _ _) (by decide) (by decide) _, hF14.on st14.out (below_alloc _ _) (by decide) _, hF15.on st15.out (below_alloc _ _) (by decide) _, hU14.step (su14.out _ _ (below_alloc _ _)) (by decide), hI15.skip (by decide)⟩
        · refine wpOp_step rfl (fun K' hK => ?_)
          simp [Region.binds] at hd
          have l6 : listed.getD 6 false = true := by simp [hd]
          have m6 := hF6.get l6 hnl
          have l11 : listed.getD 11 false = true := by simp [hd]
          have m11 := hF11.get l11 hnl
          have f13 : listed.getD 13 false = false := by
            cases hx : listed.getD 13 false with
            | false => rfl
            | true =>
              have r12 : listed.getD 12 false = true := by have h := hD 13 (by decide) hx; simp [Region.binds] at h; simp [h]
              rw [getD_false hnl] at r12; cases r12
          have f15 : listed.getD 15 false = false := by
            cases hx : listed.getD 15 false with
            | false => rfl
            | true =>
              have r12 : listed.getD 12 false = true := by have h := hD 15 (by decide) hx; simp [Region.binds] at h; simp [h]
              rw [getD_false hnl] at r12; cases r12
          have f14 : listed.getD 14 false = false := by
            cases hx : listed.getD 14 false with
            | false => rfl
            | true =>
              have r12 : listed.getD 12 false = true := by have h := hD 14 (by decide) hx; simp [Region.binds] at h; simp [h]
              rw [getD_false hnl] at r12; cases r12
          have u14 := hU14 f14
          clear hd hin hD
          obtain ⟨ae, ce, ee, he⟩ := m6
          refine step_addZ W rfl (.tmp 24) (.tmp 29) rfl wr.heap.size (.slice ae rn ce) rn r ee he _ 1 [(N : Int) + (j : Int)] rfl m11 (by omega) u14.size ?_
          intro ao cap w' hown hg hat hnc hcm
          exact hK _ _ ⟨updV xv 12 (.slice ao (rn + 1) cap), by simp [updV, Act.put], trivial, hG.any gk.out g12.out _ trivial, Fd.gone l6 (by decide), Fd.off hnl, Fd.off hnl, Fd.new (⟨ao, cap, rfl, hown⟩), Fd.yet f13 (by decide) _, Fe.yet f14 (by decide) _, Fe.yet f15 (by decide) _, hU14.step (fun _ => u14.grown hg u14.size (fun k hk => (he.lt k hk).1)) (by decide), hI15.skip (by decide)⟩
        · refine wpOp_step rfl (fun K' hK => ?_)
          simp [Region.binds] at hd
          have l12 : listed.getD 12 false = true := by simp [hd]
          have m12 := hF12.get l12 hnl
          clear hd hin hD
          obtain ⟨ae, ce, ee, he⟩ := m12
          go_simp
          exact hK _ _ ⟨updV xv 13 (.slice (some ⟨W.heap.size, 0, none⟩) 1 1), by simp [updV, ee], trivial, hG.any gk.out g13.out _ trivial, hF1.on st1.out (below_alloc _ _) (by decide) (by decide) _, hF6.on st6.out (below_alloc _ _) (by decide) (by decide) _, hF11.on st11.out (below_alloc _ _) (by decide) (by decide) _, Fd.off hnl, Fd.new (⟨_, ae, ce, rfl, by simp, he.alloc _⟩), hF14.on st14.out (below_alloc _ _) (by decide) _, hF15.on st15.out (below_alloc _ _) (by decide) _, hU14.step (su14.out _ _ (below_alloc _ _)) (by decide), hI15.skip (by decide)⟩
        · refine wpOp_step rfl (fun K' hK => ?_)
          simp [Region.binds] at hd
          have e0 : xv 0 = Value.slice oa j oc := hG.get g0.out (by simp [hd])
          have l13 : listed.getD 13 false = true := by simp [hd]
          have m13 := hF13.get l13 hnl
          have q12 : listed.getD 12 false = true := by simp [hd]
          have q12 : listed.getD 12 false = true := by simp [hd]
          have q6 : listed.getD 6 false = true := by have h := hD 12 (by decide) q12; simp [Region.binds] at h; simp [h]
          have q12 : listed.getD 12 false = true := by simp [hd]
          have q11 : listed.getD 11 false = true := by have h := hD 12 (by decide) q12; simp [Region.binds] at h; simp [h]
          have f15 : listed.getD 15 false = false := by
            cases hx : listed.getD 15 false with
            | false => rfl
            | true =>
              have r14 : listed.getD 14 false = true := by have h := hD 15 (by decide) hx; simp [Region.binds] at h; simp [h]
              rw [getD_false hnl] at r14; cases r14
          have u14 := hU14.get hnl
          clear hd hin hD
          obtain ⟨pe, ae, ce, ee, hcell, he⟩ := m13
          have hI := HIB.out W u14
          refine step_app W rfl (.tmp 18) (.tmp 31) 54 rfl w.heap.size 28 i0 (.slice none 0 0) 1 24 Try.underlying54 hi0 hz0 hz1 hz2 rfl (by decide) (.slice oa j oc) j vE e0 hI.o _ 1 [.slice ae (rn + 1) ce] ee (s1_sl hcell) (by simp [Value.oneCell']) (by unfold maxLen; omega) (by omega) hI.b.size ?_
          intro a7 c7 w7 hO7 hg7 hat7 hne7 hnc7 hcm7
          have hE := hI.push (r := r ++ [(N : Int) + (j : Int)]) (by rw [List.length_append, HRN.out]; exact he.mono HBS.out) hg7 hO7 hat7
          rw [← HN2.out] at hE
          exact hK _ _ ⟨updV xv 14 (.slice a7 (j + 1) c7), by simp [updV, Act.put], trivial, hG.any gk.out g14.out _ trivial, Fd.gone q6 (by decide), Fd.gone q12 (by decide), Fd.gone q12 (by decide), Fd.gone l13 (by decide), Fd.off hnl, Fe.new (⟨a7, c7, _, rfl, hE⟩), Fe.yet f15 (by decide) _, Fz.off hnl, hI15.skip (by decide)⟩
        · refine wpOp_step rfl (fun K' hK => ?_)
          simp [Region.binds] at hd
          have l14 : listed.getD 14 false = true := by simp [hd]
          have m14 := hF14 l14
          clear hd hin hD
          go_simp
          exact hK _ _ ⟨updV xv 15 (xv 14), by simp [updV], hb, hG.any gk.out g15.out _ trivial, hF1.step (fun _ h => h) (by decide) (by decide) _, hF6.step (fun _ h => h) (by decide) (by decide) _, hF11.step (fun _ h => h) (by decide) (by decide) _, hF12.step (fun _ h => h) (by decide) (by decide) _, hF13.step (fun _ h => h) (by decide) (by decide) _, hF14.step (fun _ h => h) (by decide) _, Fe.new (m14), hU14.step (fun h => h) (by decide), Ini4.done hnl⟩
      · rintro listed ac W ⟨xv, rfl, hb, hG, hF1, hF6, hF11, hF12, hF13, hF14, hF15, hU14, hI15⟩ hall
        have m15 : Hid ((IsEq w w.heap.size N B Q E F qb A vs rows (j + 1) (eqTo rows N (j + 1))) (xv 15) W) := hF15 (hall 15 (by decide))
        have XW : Hid ((fun _ => True) W) := hb
        clear hall hG hb gk JS g0 g1 g2 g3 g4 g5 g6 g7 g8 g9 g10 g11 g12 g13 g14 g15 hF1 st1 hF6 st6 hF11 st11 hF12 st12 hF13 st13 hF14 st14 hF15 st15 hU14 su14 hI15
        obtain ⟨a9, k9, vE9, e15, hI9⟩ := m15.out
        rw [e15]
        have I9 : Hid (EqI w W w.heap.size N B Q E F qb A vs rows (.slice a9 (j + 1) k9) (j + 1) vE9 (eqTo rows N (j + 1))) := hI9
        clear hI9 m15 XW e15
        go_wp2
        go_roundw
        case rel => exact ⟨j + 1, k9, a9, vE9, by omega, by go_num, rfl, I9⟩
        case measure => simp [intOf]; omega
    · obtain rfl : j = A := by omega
      go_wp2
      go_ret
      exact ⟨oa, oc, _, qb, vs, vE, rfl, I.out⟩

end Go.Proofs.Ythlladpappldbaa
