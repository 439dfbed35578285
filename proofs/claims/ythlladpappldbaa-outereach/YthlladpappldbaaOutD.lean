/-
  outer: the document's Has.
-/
import Derived.Test.YthlladpappldbaaOutS
namespace Go.Proofs.Ythlladpappldbaa
open Go.RowKit
set_option linter.unusedVariables false

/-- Rows of numbers behind a block of slices. -/
structure RfI (Bs : Nat) (W : World) (qb A : Nat) (vs : List Value) (rows : List (List Int)) : Prop where
  hc : W.heap[qb]? = some (.cells vs.toArray 28 (0, 0))
  lv : vs.length = A
  lr : rows.length = A
  own : ∀ (i : Nat) (v : Value) (l : List Int), vs[i]? = some v → rows[i]? = some l → OwnZ Bs W v l.length l
  hq : Bs ≤ qb

theorem own_ne {B : Nat} {w : World} {v : Value} {n : Nat} {l : List Int} (h : OwnZ B w v n l) {g : Nat} {cs : Array Value} {t : TypeId} {fr : Nat × Nat} (hg : w.heap[g]? = some (.cells cs t fr)) (ht : t ≠ 3) : v.ownBlock ≠ some g := by
  intro e
  obtain ⟨cur, hh⟩ := own_cells h e
  rw [hg] at hh
  injection hh with hh
  injection hh with _ hh _
  exact ht hh

section
variable {Bs : Nat} {W W' : World} {qb A : Nat} {vs : List Value} {rows : List (List Int)}

theorem RfI.lt (h : RfI Bs W qb A vs rows) : qb < W.heap.size := (Array.getElem?_eq_some_iff.1 h.hc).1
theorem RfI.below (h : RfI Bs W qb A vs rows) (b : Below W.heap.size W W') : RfI Bs W' qb A vs rows :=
  ⟨heap_stays b h.hc, h.lv, h.lr, fun i v l hv hl => (h.own i v l hv hl).below b, h.hq⟩
theorem RfI.cell (h : RfI Bs W qb A vs rows) {i : Nat} {v : Value} (hv : vs[i]? = some v) : W.cell? ⟨qb, i, none⟩ = some v := by
  simp [World.cell?, h.hc, hv]
theorem RfI.free (h : RfI Bs W qb A vs rows) (i : Nat) : W.frozen? ⟨qb, i, none⟩ = false := by
  simp [World.frozen?, h.hc]
theorem RfI.row (h : RfI Bs W qb A vs rows) {i : Nat} (hi : i < A) : ∃ v l, vs[i]? = some v ∧ rows[i]? = some l :=
  ⟨_, _, List.getElem?_eq_getElem (by rw [h.lv]; exact hi), List.getElem?_eq_getElem (by rw [h.lr]; exact hi)⟩

theorem RfI.store (h : RfI Bs W qb A vs rows) (x : Nat) {v' : Value} {r' : List Int} (ho : OwnZ Bs W v' r'.length r') : RfI Bs (W.setCell ⟨qb, x, none⟩ v') qb A (vs.set x v') (rows.set x r') := by
  have key : ∀ k, k ≠ qb → (W.setCell ⟨qb, x, none⟩ v').heap[k]? = W.heap[k]? := fun k hk => Below.heap_setCell _ _ _ _ hk
  refine ⟨heap_setCell_at h.hc v', by rw [List.length_set]; exact h.lv, by rw [List.length_set]; exact h.lr, ?_, h.hq⟩
  have keep : ∀ (v : Value) (n : Nat) (l : List Int), OwnZ Bs W v n l → OwnZ Bs (W.setCell ⟨qb, x, none⟩ v') v n l := fun v n l hO => hO.kept (fun q hq => key q (fun e => own_ne hO h.hc (by decide) (by rw [hq, e])))
  intro i v l hv hl
  by_cases e : x = i
  · subst e
    have hx : x < vs.length := by
      rcases Nat.lt_or_ge x vs.length with h1 | h1
      · exact h1
      · rw [List.getElem?_eq_none (by rw [List.length_set]; exact h1)] at hv
        cases hv
    rw [List.getElem?_set_self hx] at hv
    rw [List.getElem?_set_self (by rw [h.lr, ← h.lv]; exact hx)] at hl
    obtain rfl := Option.some.inj hv
    obtain rfl := Option.some.inj hl
    exact keep _ _ _ ho
  · rw [List.getElem?_set_ne e] at hv hl
    exact keep _ _ _ (h.own i v l hv hl)
end

theorem rfi_start {Bs : Nat} {W : World} {qb : Nat} (S A Q : Nat) (h : W.heap[qb]? = some (.cells (nils A).toArray 28 (0, 0))) (hq : Bs ≤ qb) : RfI Bs W qb A (nils A) (hasR S A Q 0) := by
  refine ⟨h, by simp [nils], by simp [hasR], ?_, hq⟩
  intro i v l hv hl
  unfold nils at hv
  rw [List.getElem?_replicate] at hv
  unfold hasR at hl
  rw [List.getElem?_replicate] at hl
  by_cases hi : i < A
  · rw [if_pos hi] at hv hl
    obtain rfl := Option.some.inj hv
    obtain rfl := Option.some.inj hl
    exact OwnZ.nil _ _
  · rw [if_neg hi] at hv
    cases hv

theorem Fd.yet {listed : Array Bool} {xv : Nat → Value} {W : World} {i j : Nat} {p : Value → World → Prop} {o : Nat} (h : listed.getD i false = false) (hi : i ≠ o) (v : Value) : Fd (listed.setIfInBounds o true) (updV xv o v) W i j p := by
  intro a
  rw [getD_set_other hi, h] at a
  cases a

/-- No numbers yet. -/
def IsE0 (B : Nat) : Value → World → Prop := fun v W => ∃ q, v = .slice (some ⟨q, 0, none⟩) 0 0 ∧ B ≤ q ∧ W.heap[q]? = some (.cells #[] 3 (0, 0))
theorem stays_e0 (B : Nat) : Stays (IsE0 B) := fun _ _ _ hb ⟨q, h1, h2, h3⟩ => ⟨q, h1, h2, heap_stays hb h3⟩
theorem e0_own {B q : Nat} {W : World} (h2 : B ≤ q) (h3 : W.heap[q]? = some (.cells #[] 3 (0, 0))) : OwnZ B W (.slice (some ⟨q, 0, none⟩) 0 0) 0 [] :=
  ⟨rfl, .inr ⟨q, 0, #[], rfl, h2, h3, Nat.le_refl _, by simp [maxLen], rfl, rfl⟩⟩
theorem z1_grown {x : Int} {v : Value} {W W' : World} {q : Nat} {t : TypeId} (h : IsZ1 x v W) (hq : W.heap[q]? = some (.cells #[] t (0, 0))) (hg : W.grownBy W' (some q)) : IsZ1 x v W' := by
  obtain ⟨h1, ao, cap, hv, h2, h3, h4, h5⟩ := h
  refine ⟨h1, ao, cap, hv, h2, h3, h4, ?_⟩
  rcases h5 with h5 | ⟨b, off, hao, h5⟩
  · cases h5
  · refine .inr ⟨b, off, hao, fun j u hj => ?_⟩
    have hc := h5 j u hj
    have hne : b ≠ q := by
      rintro rfl
      simp [World.cell?, hq] at hc
    rw [← hc]
    exact World.cell?_of_block (a := ⟨b, off + j, none⟩) (hg.block b (cell_block_lt hc) (fun e => hne (Option.some.inj e)))

/-- What the document's Has keeps. -/
structure RhI (w W : World) (b0 : Nat) (N B Q E F : Int) (qb A : Nat) (vs : List Value) (rows : List (List Int)) (lv : Value) (ln : Nat) (l : List Int) : Prop where
  f : RfI w.heap.size W qb A vs rows
  z : OwnZ w.heap.size W lv ln l
  p : FiveB W b0 N B Q E F
  b : Below w.heap.size w W

section
variable {w W W' : World} {b0 : Nat} {N B Q E F : Int} {qb A : Nat} {vs : List Value} {rows : List (List Int)} {lv : Value} {ln : Nat} {l : List Int}
theorem RhI.below (h : RhI w W b0 N B Q E F qb A vs rows lv ln l) (hb : Below W.heap.size W W') : RhI w W' b0 N B Q E F qb A vs rows lv ln l := ⟨h.f.below hb, h.z.below hb, h.p.below hb, below_on h.b hb⟩
theorem RhI.store (h : RhI w W b0 N B Q E F qb A vs rows lv ln l) (x : Nat) {v' : Value} {r' : List Int} (ho : OwnZ w.heap.size W v' r'.length r') : RhI w (W.setCell ⟨qb, x, none⟩ v') b0 N B Q E F qb A (vs.set x v') (rows.set x r') lv ln l := by
  have key : ∀ k, k ≠ qb → (W.setCell ⟨qb, x, none⟩ v').heap[k]? = W.heap[k]? := fun k hk => Below.heap_setCell _ _ _ _ hk
  refine ⟨h.f.store x ho, h.z.kept (fun q hq => key q (fun e => own_ne h.z h.f.hc (by decide) (by rw [hq, e]))), ?_, h.b.setCell h.f.hq _⟩
  unfold FiveB
  rw [key b0 (fun e => ?_)]
  · exact h.p
  · have h1 := h.p
    unfold FiveB at h1
    rw [e, h.f.hc] at h1
    injection h1 with h1
    injection h1 with _ h1 _
    exact absurd h1 (by decide)
end

def IsRh (w : World) (b0 : Nat) (N B Q E F : Int) (qb A : Nat) (rows : List (List Int)) (lv : Value) (ln : Nat) (l : List Int) : Value → World → Prop := fun _ W => ∃ vs, RhI w W b0 N B Q E F qb A vs rows lv ln l
theorem stays_rh (w : World) (b0 : Nat) (N B Q E F : Int) (qb A : Nat) (rows : List (List Int)) (lv : Value) (ln : Nat) (l : List Int) : Stays (IsRh w b0 N B Q E F qb A rows lv ln l) := fun _ _ _ hb ⟨vs, h⟩ => ⟨vs, h.below hb⟩

set_option maxRecDepth 100000 in
set_option maxHeartbeats 4000000 in
/-- The document's Has. -/
theorem rhas10_any (B E F : Int) (N Q A S : Nat) (w : World) (h : PrOk N B Q E F N Q A) (hS : S < 18446744073709551616) (hA : A ≤ 1000000) :
    Calls Try.prog 31 #[.agg #[.int .i64 N, .int .i64 B, .int .i64 Q, .int .i64 E, .int .i64 F], .int .u64 S] w fun e w' => ∃ qb vs, e = .returned (.slice (some ⟨qb, 0, none⟩) A A) ∧ RfI w.heap.size w' qb A vs (hasR S A Q N) ∧ Below w.heap.size w w' := by
  obtain ⟨i0, hi0, hz0, hz1, hz2⟩ := info_parts Try.infoRow
  have OK : Hid (GrOk S N Q A) := h.ok hS
  have hN := OK.out.n
  have hQ := OK.out.q
  have hQ1 := OK.out.q1
  have CA : Hid (∀ W, Calls Try.prog 27 #[.agg #[.int .i64 N, .int .i64 B, .int .i64 Q, .int .i64 E, .int .i64 F]] W fun e w' => e = .returned (.int .i64 (A : Int)) ∧ Below W.heap.size W w') := by
    intro W
    have := raux_any N B Q E F W h.may.1 h.may.2.2.1 h.may.2.2.2.1
    rw [h.ea] at this
    exact this
  have CO : Hid (∀ W (i : Nat), i ≤ 1048576 → Calls Try.prog 29 #[.agg #[.int .i64 N, .int .i64 B, .int .i64 Q, .int .i64 E, .int .i64 F], .int .u64 S, .int .i64 i] W fun e w' => ∃ a c, e = .returned (.slice a Q c) ∧ OwnZ W.heap.size w' (.slice a Q c) Q (ofD S A Q i) ∧ Below W.heap.size W w') := fun W i hi => rof_any N B Q E F N Q A S i W h hS hi hA
  clear h hS
  have P0 : Hid (FiveB (w.alloc (.cells #[.int .i64 N, .int .i64 B, .int .i64 Q, .int .i64 E, .int .i64 F] 43)) w.heap.size N B Q E F) := FiveB.new _ _ _ _ _ _
  go_enter Try.func31, Try.ntmps31
  go_wp2_with fail
  refine (CA.out _).mono ?_
  rintro e w1 ⟨rfl, hb1⟩
  have B1 : Hid (Below w.heap.size w w1) := below_on (below_alloc _ _) hb1
  have P1 : Hid (FiveB w1 w.heap.size N B Q E F) := P0.out.below hb1
  clear hb1 CA P0
  go_wp2_with (at_make; refine wpList_make_full _ rfl _ _ 54 rfl w.heap.size 28 i0 (.slice none 0 0) 1 Try.underlying54 hi0 hz0 hz1 _ _ _ _ A rfl rfl rfl rfl (by rw [hz2]; omega) (by unfold maxLen; omega) B1.out.size ?_; intro w2 ho2 hgrow2)
  have F2 : Hid (RfI w.heap.size w2 w1.heap.size A (nils A) (hasR S A Q 0)) := rfi_start S A Q (made_nils ho2) B1.out.size
  have B2 : Hid (Below w.heap.size w w2) := below_on B1.out (below_fresh hgrow2)
  have P2 : Hid (FiveB w2 w.heap.size N B Q E F) := P1.out.below (below_fresh hgrow2)
  generalize w1.heap.size = qb at *
  clear ho2 hgrow2 B1 P1
  go_loopw [6] (fun iv wr => ∃ (m : Nat) (vs : List Value), m ≤ N ∧ iv = .int .i64 m ∧ Hid (RfI w.heap.size wr qb A vs (hasR S A Q m)) ∧ Hid (Short (8 * m) (hasR S A Q m)) ∧ Hid (Below w.heap.size w wr) ∧ Hid (FiveB wr w.heap.size N B Q E F)) (fun iv _ => N - (intOf iv).toNat)
  case atStart => exact ⟨0, nils A, by omega, rfl, F2, short_start A, B2, P2⟩
  case round =>
    obtain ⟨m, vs, hm, rfl, HF, HSh, HB, HP⟩ := hrel
    clear F2 B2 P2
    obtain ⟨c0, c1, c2, c3, c4⟩ := HP.out.five
    by_cases hlt : m < N
    · have HLm : Hid (∀ x ∈ ofD S A Q m, 0 ≤ x ∧ x < (A : Int)) := fun x hx => ofD_mem hx
      have HLl : Hid ((ofD S A Q m).length = Q) := ofD_length OK.out.q1 OK.out.qa
      have HNx : Hid (hasR S A Q (m + 1) = addAll (hasR S A Q m) (ofD S A Q m) m) := rfl
      have CM := CO.out wr m (by omega)
      have HM : Hid (Calls Try.prog 29 #[.agg #[.int .i64 N, .int .i64 B, .int .i64 Q, .int .i64 E, .int .i64 F], .int .u64 S, .int .i64 m] wr fun e w' => ∃ a c, e = .returned (.slice a Q c) ∧ OwnZ wr.heap.size w' (.slice a Q c) Q (ofD S A Q m) ∧ Below wr.heap.size wr w') := CM
      clear CM
      generalize ofD S A Q m = l at *
      go_wp2_with fail
      refine HM.out.mono ?_
      rintro e w3 ⟨a3, k3, rfl, ho3, hb3⟩
      have I3 : Hid (RhI w w3 w.heap.size N B Q E F qb A vs (hasR S A Q m) (.slice a3 Q k3) Q l) := ⟨HF.out.below hb3, ho3.mono HB.out.size, HP.out.below hb3, below_on HB.out hb3⟩
      obtain ⟨lb, lc, el, -, hlc, hlm⟩ := owned_shape ho3 hQ1
      injection el with e1 _ e3
      subst e1; subst e3
      unfold maxLen at hlm
      clear ho3 hb3 HF HB HP HM c0 c1 c2 c3 c4
      go_wp2
      go_loopw [8] (fun kv wr => ∃ (k : Nat) (vs : List Value), k ≤ Q ∧ kv = .int .i64 k ∧ Hid (RhI w wr w.heap.size N B Q E F qb A vs (addAll (hasR S A Q m) (l.take k) m) (.slice (some ⟨lb, 0, none⟩) Q k3) Q l) ∧ Hid (Short (8 * m + k) (addAll (hasR S A Q m) (l.take k) m))) (fun kv _ => Q - (intOf kv).toNat)
      case atStart => exact ⟨0, vs, by omega, rfl, I3, HSh⟩
      case round =>
        clear I3 HSh
        clear vs
        obtain ⟨k, vs, hk, rfl, I, HSh⟩ := hrel
        by_cases hkQ : k < Q
        · have hkl : k < l.length := by rw [HLl.out]; exact hkQ
          have hmem := HLm.out l[k] (List.getElem_mem hkl)
          obtain ⟨x, hx⟩ : ∃ x : Nat, l[k] = (x : Int) := ⟨l[k].toNat, by omega⟩
          have hxA : x < A := by omega
          have hck : wr.cell? ⟨lb, k, none⟩ = some (.int .i64 (x : Int)) := by
            have := World.ownsRow.cellAt I.out.z k (by omega)
            rw [map_z_at l k hkl, hx] at this
            exact this
          have hxv : x < vs.length := by rw [I.out.f.lv]; exact hxA
          have hxr : x < (addAll (hasR S A Q m) (l.take k) m).length := by rw [I.out.f.lr]; exact hxA
          have Hv : Hid (vs[x]? = some vs[x]) := List.getElem?_eq_getElem hxv
          have Hr0 : Hid ((addAll (hasR S A Q m) (l.take k) m)[x]? = some (addAll (hasR S A Q m) (l.take k) m)[x]) := List.getElem?_eq_getElem hxr
          have HN2 : Hid (addAll (hasR S A Q m) (l.take (k + 1)) m = (addAll (hasR S A Q m) (l.take k) m).set x ((addAll (hasR S A Q m) (l.take k) m)[x] ++ [(m : Int)])) := by
            unfold Hid
            rw [addAll_take m hkl hx, addTo_at Hr0.out]
          have HSh2 : Hid (Short (8 * m + (k + 1)) (addAll (hasR S A Q m) (l.take (k + 1)) m)) := by
            unfold Hid
            rw [addAll_take m hkl hx]
            exact HSh.out.add Hr0.out m
          have hrl : (addAll (hasR S A Q m) (l.take k) m)[x].length ≤ 8 * m + k := HSh.out x _ Hr0.out
          obtain ⟨rows2, hR2⟩ : ∃ rs, addAll (hasR S A Q m) (l.take (k + 1)) m = rs := ⟨_, rfl⟩
          have HR2 : Hid (addAll (hasR S A Q m) (l.take (k + 1)) m = rows2) := hR2
          rw [hR2] at HN2
          clear hR2
          have HO := I.out.f.own x _ _ Hv.out Hr0.out
          generalize (addAll (hasR S A Q m) (l.take k) m)[x] = r at *
          generalize addAll (hasR S A Q m) (l.take k) m = rows at *
          obtain ⟨rn, hrn⟩ : ∃ rn, r.length = rn := ⟨_, rfl⟩
          have HRN : Hid (r.length = rn) := hrn
          rw [hrn] at HO hrl
          obtain ⟨av, vc, ev, -⟩ := owned_slice HO
          rw [ev] at Hv HO
          have HZr : Hid (∀ W, Below wr.heap.size wr W → Sl 1 W (.slice av rn vc) rn (r.map (Value.int .i64))) := by
            intro W hW
            have := (HO.below hW).zs
            unfold Zs at this
            rw [HRN.out] at this
            exact this
          have CLk : Hid (∀ W, Below wr.heap.size wr W → W.cell? ⟨lb, k, none⟩ = some (.int .i64 (x : Int))) := fun W hW => (hW.cell (cell_block_lt hck)).trans hck
          have CRx : Hid (∀ W, Below wr.heap.size wr W → W.cell? ⟨qb, x, none⟩ = some (.slice av rn vc)) := fun W hW => (I.out.f.below hW).cell Hv.out
          have HIB : Hid (∀ W, Below wr.heap.size wr W → RhI w W w.heap.size N B Q E F qb A vs rows (.slice (some ⟨lb, 0, none⟩) Q k3) Q l) := fun W hW => I.out.below hW
          have HBS : Hid (w.heap.size ≤ wr.heap.size) := I.out.b.size
          clear hmem hx hkl hxv hxr hrn HO ev HSh hck I
          have hrn2 : rn + 1 ≤ 1000000000 := by omega
          go_upto_region 9 with fail
          refine wp_region_any (by kernel_rfl) ?_
          obtain ⟨gs, hgs⟩ : ∃ gs : List (Value → World → Prop), gs = [IsV (Value.slice (some { block := qb, off := 0 }) A A), IsV (Value.slice (some { block := lb, off := 0 }) Q k3), IsV (Value.int IntKind.i64 ↑k), IsV (.pointer (some ⟨lb, k, none⟩)), IsV (.int .i64 (x : Int)), IsAnyV, IsV (Value.slice (some { block := qb, off := 0 }) A A), IsV (Value.slice (some { block := lb, off := 0 }) Q k3), IsV (Value.int IntKind.i64 ↑k), IsV (.pointer (some ⟨lb, k, none⟩)), IsV (.int .i64 (x : Int)), IsV (.pointer (some ⟨qb, x, none⟩)), IsV (.slice av rn vc), IsAnyV, IsV (Value.int IntKind.i64 ↑m), IsAnyV, IsAnyV, IsV (.pointer (some ⟨qb, x, none⟩)), IsAnyV] := ⟨_, rfl⟩
          have g0 : Hid (gs[0]? = some (IsV (Value.slice (some { block := qb, off := 0 }) A A))) := by unfold Hid; rw [hgs]; rfl
          have g1 : Hid (gs[1]? = some (IsV (Value.slice (some { block := lb, off := 0 }) Q k3))) := by unfold Hid; rw [hgs]; rfl
          have g2 : Hid (gs[2]? = some (IsV (Value.int IntKind.i64 ↑k))) := by unfold Hid; rw [hgs]; rfl
          have g3 : Hid (gs[3]? = some (IsV (.pointer (some ⟨lb, k, none⟩)))) := by unfold Hid; rw [hgs]; rfl
          have g4 : Hid (gs[4]? = some (IsV (.int .i64 (x : Int)))) := by unfold Hid; rw [hgs]; rfl
          have g5 : Hid (gs[5]? = some (IsAnyV)) := by unfold Hid; rw [hgs]; rfl
          have g6 : Hid (gs[6]? = some (IsV (Value.slice (some { block := qb, off := 0 }) A A))) := by unfold Hid; rw [hgs]; rfl
          have g7 : Hid (gs[7]? = some (IsV (Value.slice (some { block := lb, off := 0 }) Q k3))) := by unfold Hid; rw [hgs]; rfl
          have g8 : Hid (gs[8]? = some (IsV (Value.int IntKind.i64 ↑k))) := by unfold Hid; rw [hgs]; rfl
          have g9 : Hid (gs[9]? = some (IsV (.pointer (some ⟨lb, k, none⟩)))) := by unfold Hid; rw [hgs]; rfl
          have g10 : Hid (gs[10]? = some (IsV (.int .i64 (x : Int)))) := by unfold Hid; rw [hgs]; rfl
          have g11 : Hid (gs[11]? = some (IsV (.pointer (some ⟨qb, x, none⟩)))) := by unfold Hid; rw [hgs]; rfl
          have g12 : Hid (gs[12]? = some (IsV (.slice av rn vc))) := by unfold Hid; rw [hgs]; rfl
          have g13 : Hid (gs[13]? = some (IsAnyV)) := by unfold Hid; rw [hgs]; rfl
          have g14 : Hid (gs[14]? = some (IsV (Value.int IntKind.i64 ↑m))) := by unfold Hid; rw [hgs]; rfl
          have g15 : Hid (gs[15]? = some (IsAnyV)) := by unfold Hid; rw [hgs]; rfl
          have g16 : Hid (gs[16]? = some (IsAnyV)) := by unfold Hid; rw [hgs]; rfl
          have g17 : Hid (gs[17]? = some (IsV (.pointer (some ⟨qb, x, none⟩)))) := by unfold Hid; rw [hgs]; rfl
          have g18 : Hid (gs[18]? = some (IsAnyV)) := by unfold Hid; rw [hgs]; rfl
          have gk : Hid (∀ p ∈ gs, ∀ v (U U' : World), p v U → p v U') := by
            unfold Hid
            rw [hgs]
            simp only [List.forall_mem_cons]
            exact ⟨(fun _ _ _ h => h), (fun _ _ _ h => h), (fun _ _ _ h => h), (fun _ _ _ h => h), (fun _ _ _ h => h), (fun _ _ _ h => h), (fun _ _ _ h => h), (fun _ _ _ h => h), (fun _ _ _ h => h), (fun _ _ _ h => h), (fun _ _ _ h => h), (fun _ _ _ h => h), (fun _ _ _ h => h), (fun _ _ _ h => h), (fun _ _ _ h => h), (fun _ _ _ h => h), (fun _ _ _ h => h), (fun _ _ _ h => h), (fun _ _ _ h => h), by simp⟩
          clear hgs
          have JS : Hid (∀ W W', Below W.heap.size W W' → (fun _ => True) W → (fun _ => True) W') := fun _ _ _ _ => trivial
          have st5 : Hid (Stays (IsE0 wr.heap.size)) := stays_e0 _
          have st13 : Hid (Stays (IsOz wr.heap.size rn r)) := stays_oz _ _ _
          have st15 : Hid (Stays (IsZ1 (m : Int))) := stays_z1 _
          have st16 : Hid (Stays (IsOz wr.heap.size (rn + 1) (r ++ [(m : Int)]))) := stays_oz _ _ _
          have st18 : Hid (Stays (IsRh w w.heap.size N B Q E F qb A rows2 (.slice (some ⟨lb, 0, none⟩) Q k3) Q l)) := stays_rh _ _ _ _ _ _ _ _ _ _ _ _ _
          have su18 : Hid (∀ W W', Below W.heap.size W W' → (fun W => Below wr.heap.size wr W) W → (fun W => Below wr.heap.size wr W) W') := fun W W' hb h => h.trans (hb.mono h.size)
          refine wpAny_inv4 (fun listed ac W => ∃ xv : Nat → Value, ac = ⟨#[Value.agg #[Value.int IntKind.i64 ↑N, Value.int IntKind.i64 B, Value.int IntKind.i64 ↑Q, Value.int IntKind.i64 E, Value.int IntKind.i64 F], Value.int IntKind.u64 ↑S, Value.pointer (some { block := w.heap.size, off := 0 }), undef, Value.slice none 0 0, Value.slice (some { block := qb, off := 0 }) A A, Value.int IntKind.i64 ↑m, Value.slice (some { block := lb, off := 0 }) Q k3, Value.int IntKind.i64 ↑k, Value.agg #[Value.int IntKind.i64 ↑N, Value.int IntKind.i64 B, Value.int IntKind.i64 ↑Q, Value.int IntKind.i64 E, Value.int IntKind.i64 F], Value.int IntKind.i64 ↑A, Value.slice (some { block := qb, off := 0 }) A A, Value.int IntKind.i64 ↑m, Value.pointer (some { block := w.heap.size, off := 0 }), Value.int IntKind.i64 ↑N, Value.bool true, u16, u17, Value.agg #[Value.int IntKind.i64 ↑N, Value.int IntKind.i64 B, Value.int IntKind.i64 ↑Q, Value.int IntKind.i64 E, Value.int IntKind.i64 F], Value.int IntKind.u64 ↑S, Value.int IntKind.i64 ↑m, Value.slice (some { block := lb, off := 0 }) Q k3, Value.int IntKind.i64 ↑k, Value.slice (some { block := lb, off := 0 }) Q k3, Value.int IntKind.i64 ↑Q, Value.bool true, u26, u27, xv 0, xv 1, xv 2, xv 3, xv 4, xv 5, xv 6, xv 7, xv 8, xv 9, xv 10, xv 11, xv 12, xv 13, xv 14, xv 15, xv 16, xv 17, undef], []⟩ ∧ (fun _ => True) W ∧ Lst gs listed xv W ∧ Fd listed xv W 5 13 (IsE0 wr.heap.size) ∧ Fd listed xv W 13 16 (IsOz wr.heap.size rn r) ∧ Fd listed xv W 15 16 (IsZ1 (m : Int)) ∧ Fd listed xv W 16 18 (IsOz wr.heap.size (rn + 1) (r ++ [(m : Int)])) ∧ Fe listed xv W 18 (IsRh w w.heap.size N B Q E F qb A rows2 (.slice (some ⟨lb, 0, none⟩) Q k3) Q l) ∧ Fz listed W 18 (fun W => Below wr.heap.size wr W)) (by kernel_rfl) ?_ ?_ _ _ _ _ (by kernel_rfl) (of_decide_eq_true (by kernel_rfl)) (Down.start _) ⟨fun j => if j = 0 then u28 else if j = 1 then u29 else if j = 2 then u30 else if j = 3 then u31 else if j = 4 then u32 else if j = 5 then u33 else if j = 6 then u34 else if j = 7 then u35 else if j = 8 then u36 else if j = 9 then u37 else if j = 10 then u38 else if j = 11 then u39 else if j = 12 then u40 else if j = 13 then u41 else if j = 14 then u42 else if j = 15 then u43 else if j = 16 then u44 else if j = 17 then u45 else undef, rfl, trivial, Lst.start _ _ _ _, Fd.start _ _ _ _ _ _, Fd.start _ _ _ _ _ _, Fd.start _ _ _ _ _ _, Fd.start _ _ _ _ _ _, Fe.start _ _ _ _ _, Fz.start (below0 _)⟩
          · rintro listed ac W ⟨xv, rfl, hb, hG, hF5, hF13, hF15, hF16, hF18, hU18⟩ hD i hi hnl hd
            have hin : i < 19 := hi
            clear hi
            have hcase : i = 0 ∨ i = 1 ∨ i = 2 ∨ i = 3 ∨ i = 4 ∨ i = 5 ∨ i = 6 ∨ i = 7 ∨ i = 8 ∨ i = 9 ∨ i = 10 ∨ i = 11 ∨ i = 12 ∨ i = 13 ∨ i = 14 ∨ i = 15 ∨ i = 16 ∨ i = 17 ∨ i = 18 := by omega
            rcases hcase with rfl | rfl | rfl | rfl | rfl | rfl | rfl | rfl | rfl | rfl | rfl | rfl | rfl | rfl | rfl | rfl | rfl | rfl | rfl
            · refine wpOp_step rfl (fun K' hK => ?_)
              clear hd hin hD
              go_simp
              exact hK _ _ ⟨updV xv 0 (Value.slice (some { block := qb, off := 0 }) A A), by simp [updV], hb, hG.any gk.out g0.out _ rfl, hF5.step (fun _ h => h) (by decide) (by decide) _, hF13.step (fun _ h => h) (by decide) (by decide) _, hF15.step (fun _ h => h) (by decide) (by decide) _, hF16.step (fun _ h => h) (by decide) (by decide) _, hF18.step (fun _ h => h) (by decide) _, hU18.step (fun h => h) (by decide)⟩
            · refine wpOp_step rfl (fun K' hK => ?_)
              clear hd hin hD
              go_simp
              exact hK _ _ ⟨updV xv 1 (Value.slice (some { block := lb, off := 0 }) Q k3), by simp [updV], hb, hG.any gk.out g1.out _ rfl, hF5.step (fun _ h => h) (by decide) (by decide) _, hF13.step (fun _ h => h) (by decide) (by decide) _, hF15.step (fun _ h => h) (by decide) (by decide) _, hF16.step (fun _ h => h) (by decide) (by decide) _, hF18.step (fun _ h => h) (by decide) _, hU18.step (fun h => h) (by decide)⟩
            · refine wpOp_step rfl (fun K' hK => ?_)
              clear hd hin hD
              go_simp
              exact hK _ _ ⟨updV xv 2 (Value.int IntKind.i64 ↑k), by simp [updV], hb, hG.any gk.out g2.out _ rfl, hF5.step (fun _ h => h) (by decide) (by decide) _, hF13.step (fun _ h => h) (by decide) (by decide) _, hF15.step (fun _ h => h) (by decide) (by decide) _, hF16.step (fun _ h => h) (by decide) (by decide) _, hF18.step (fun _ h => h) (by decide) _, hU18.step (fun h => h) (by decide)⟩
            · refine wpOp_step rfl (fun K' hK => ?_)
              simp [Region.binds] at hd
              have e1 : xv 1 = Value.slice (some { block := lb, off := 0 }) Q k3 := hG.get g1.out (by simp [hd])
              have e2 : xv 2 = Value.int IntKind.i64 ↑k := hG.get g2.out (by simp [hd])
              clear hd hin hD
              go_simp
              exact hK _ _ ⟨updV xv 3 (.pointer (some ⟨lb, k, none⟩)), by simp [updV, e1, e2], hb, hG.any gk.out g3.out _ rfl, hF5.step (fun _ h => h) (by decide) (by decide) _, hF13.step (fun _ h => h) (by decide) (by decide) _, hF15.step (fun _ h => h) (by decide) (by decide) _, hF16.step (fun _ h => h) (by decide) (by decide) _, hF18.step (fun _ h => h) (by decide) _, hU18.step (fun h => h) (by decide)⟩
            · refine wpOp_step rfl (fun K' hK => ?_)
              simp [Region.binds] at hd
              have e3 : xv 3 = .pointer (some ⟨lb, k, none⟩) := hG.get g3.out (by simp [hd])
              have f18 : listed.getD 18 false = false := by
                cases hx : listed.getD 18 false with
                | false => rfl
                | true =>
                  have r4 : listed.getD 4 false = true := by have h := hD 18 (by decide) hx; simp [Region.binds] at h; simp [h]
                  rw [getD_false hnl] at r4; cases r4
              have u18 := hU18 f18
              have hc := CLk.out W u18
              clear hd hin hD
              go_simp
              exact hK _ _ ⟨updV xv 4 (.int .i64 (x : Int)), by simp [updV, e3], hb, hG.any gk.out g4.out _ rfl, hF5.step (fun _ h => h) (by decide) (by decide) _, hF13.step (fun _ h => h) (by decide) (by decide) _, hF15.step (fun _ h => h) (by decide) (by decide) _, hF16.step (fun _ h => h) (by decide) (by decide) _, hF18.step (fun _ h => h) (by decide) _, hU18.step (fun h => h) (by decide)⟩
            · refine wpOp_step rfl (fun K' hK => ?_)
              have f18 : listed.getD 18 false = false := by
                cases hx : listed.getD 18 false with
                | false => rfl
                | true =>
                  have r5 : listed.getD 5 false = true := by have h := hD 18 (by decide) hx; simp [Region.binds] at h; simp [h]
                  rw [getD_false hnl] at r5; cases r5
              have u18 := hU18 f18
              clear hd hin hD
              go_simp
              exact hK _ _ ⟨updV xv 5 (.slice (some ⟨W.heap.size, 0, none⟩) 0 0), by simp [updV], trivial, hG.any gk.out g5.out _ trivial, Fd.new (⟨_, rfl, u18.size, alloc_at _ _⟩), hF13.on st13.out (below_alloc _ _) (by decide) (by decide) _, hF15.on st15.out (below_alloc _ _) (by decide) (by decide) _, hF16.on st16.out (below_alloc _ _) (by decide) (by decide) _, hF18.on st18.out (below_alloc _ _) (by decide) _, hU18.step (su18.out _ _ (below_alloc _ _)) (by decide)⟩
            · refine wpOp_step rfl (fun K' hK => ?_)
              clear hd hin hD
              go_simp
              exact hK _ _ ⟨updV xv 6 (Value.slice (some { block := qb, off := 0 }) A A), by simp [updV], hb, hG.any gk.out g6.out _ rfl, hF5.step (fun _ h => h) (by decide) (by decide) _, hF13.step (fun _ h => h) (by decide) (by decide) _, hF15.step (fun _ h => h) (by decide) (by decide) _, hF16.step (fun _ h => h) (by decide) (by decide) _, hF18.step (fun _ h => h) (by decide) _, hU18.step (fun h => h) (by decide)⟩
            · refine wpOp_step rfl (fun K' hK => ?_)
              clear hd hin hD
              go_simp
              exact hK _ _ ⟨updV xv 7 (Value.slice (some { block := lb, off := 0 }) Q k3), by simp [updV], hb, hG.any gk.out g7.out _ rfl, hF5.step (fun _ h => h) (by decide) (by decide) _, hF13.step (fun _ h => h) (by decide) (by decide) _, hF15.step (fun _ h => h) (by decide) (by decide) _, hF16.step (fun _ h => h) (by decide) (by decide) _, hF18.step (fun _ h => h) (by decide) _, hU18.step (fun h => h) (by decide)⟩
            · refine wpOp_step rfl (fun K' hK => ?_)
              clear hd hin hD
              go_simp
              exact hK _ _ ⟨updV xv 8 (Value.int IntKind.i64 ↑k), by simp [updV], hb, hG.any gk.out g8.out _ rfl, hF5.step (fun _ h => h) (by decide) (by decide) _, hF13.step (fun _ h => h) (by decide) (by decide) _, hF15.step (fun _ h => h) (by decide) (by decide) _, hF16.step (fun _ h => h) (by decide) (by decide) _, hF18.step (fun _ h => h) (by decide) _, hU18.step (fun h => h) (by decide)⟩
            · refine wpOp_step rfl (fun K' hK => ?_)
              simp [Region.binds] at hd
              have e7 : xv 7 = Value.slice (some { block := lb, off := 0 }) Q k3 := hG.get g7.out (by simp [hd])
              have e8 : xv 8 = Value.int IntKind.i64 ↑k := hG.get g8.out (by simp [hd])
              clear hd hin hD
              go_simp
              exact hK _ _ ⟨updV xv 9 (.pointer (some ⟨lb, k, none⟩)), by simp [updV, e7, e8], hb, hG.any gk.out g9.out _ rfl, hF5.step (fun _ h => h) (by decide) (by decide) _, hF13.step (fun _ h => h) (by decide) (by decide) _, hF15.step (fun _ h => h) (by decide) (by decide) _, hF16.step (fun _ h => h) (by decide) (by decide) _, hF18.step (fun _ h => h) (by decide) _, hU18.step (fun h => h) (by decide)⟩
            · refine wpOp_step rfl (fun K' hK => ?_)
              simp [Region.binds] at hd
              have e9 : xv 9 = .pointer (some ⟨lb, k, none⟩) := hG.get g9.out (by simp [hd])
              have f18 : listed.getD 18 false = false := by
                cases hx : listed.getD 18 false with
                | false => rfl
                | true =>
                  have r10 : listed.getD 10 false = true := by have h := hD 18 (by decide) hx; simp [Region.binds] at h; simp [h]
                  rw [getD_false hnl] at r10; cases r10
              have u18 := hU18 f18
              have hc := CLk.out W u18
              clear hd hin hD
              go_simp
              exact hK _ _ ⟨updV xv 10 (.int .i64 (x : Int)), by simp [updV, e9], hb, hG.any gk.out g10.out _ rfl, hF5.step (fun _ h => h) (by decide) (by decide) _, hF13.step (fun _ h => h) (by decide) (by decide) _, hF15.step (fun _ h => h) (by decide) (by decide) _, hF16.step (fun _ h => h) (by decide) (by decide) _, hF18.step (fun _ h => h) (by decide) _, hU18.step (fun h => h) (by decide)⟩
            · refine wpOp_step rfl (fun K' hK => ?_)
              simp [Region.binds] at hd
              have e6 : xv 6 = Value.slice (some { block := qb, off := 0 }) A A := hG.get g6.out (by simp [hd])
              have e10 : xv 10 = .int .i64 (x : Int) := hG.get g10.out (by simp [hd])
              clear hd hin hD
              go_simp
              exact hK _ _ ⟨updV xv 11 (.pointer (some ⟨qb, x, none⟩)), by simp [updV, e6, e10], hb, hG.any gk.out g11.out _ rfl, hF5.step (fun _ h => h) (by decide) (by decide) _, hF13.step (fun _ h => h) (by decide) (by decide) _, hF15.step (fun _ h => h) (by decide) (by decide) _, hF16.step (fun _ h => h) (by decide) (by decide) _, hF18.step (fun _ h => h) (by decide) _, hU18.step (fun h => h) (by decide)⟩
            · refine wpOp_step rfl (fun K' hK => ?_)
              simp [Region.binds] at hd
              have e11 : xv 11 = .pointer (some ⟨qb, x, none⟩) := hG.get g11.out (by simp [hd])
              have f18 : listed.getD 18 false = false := by
                cases hx : listed.getD 18 false with
                | false => rfl
                | true =>
                  have r12 : listed.getD 12 false = true := by have h := hD 18 (by decide) hx; simp [Region.binds] at h; simp [h]
                  rw [getD_false hnl] at r12; cases r12
              have u18 := hU18 f18
              have hc := CRx.out W u18
              clear hd hin hD
              go_simp
              exact hK _ _ ⟨updV xv 12 (.slice av rn vc), by simp [updV, e11], hb, hG.any gk.out g12.out _ rfl, hF5.step (fun _ h => h) (by decide) (by decide) _, hF13.step (fun _ h => h) (by decide) (by decide) _, hF15.step (fun _ h => h) (by decide) (by decide) _, hF16.step (fun _ h => h) (by decide) (by decide) _, hF18.step (fun _ h => h) (by decide) _, hU18.step (fun h => h) (by decide)⟩
            · refine wpOp_step rfl (fun K' hK => ?_)
              simp [Region.binds] at hd
              have l5 : listed.getD 5 false = true := by simp [hd]
              have m5 := hF5.get l5 hnl
              have e12 : xv 12 = .slice av rn vc := hG.get g12.out (by simp [hd])
              have f16 : listed.getD 16 false = false := by
                cases hx : listed.getD 16 false with
                | false => rfl
                | true =>
                  have r13 : listed.getD 13 false = true := by have h := hD 16 (by decide) hx; simp [Region.binds] at h; simp [h]
                  rw [getD_false hnl] at r13; cases r13
              have f18 : listed.getD 18 false = false := by
                cases hx : listed.getD 18 false with
                | false => rfl
                | true =>
                  have r13 : listed.getD 13 false = true := by have h := hD 18 (by decide) hx; simp [Region.binds] at h; simp [h]
                  rw [getD_false hnl] at r13; cases r13
              have f18 : listed.getD 18 false = false := by
                cases hx : listed.getD 18 false with
                | false => rfl
                | true =>
                  have r13 : listed.getD 13 false = true := by have h := hD 18 (by decide) hx; simp [Region.binds] at h; simp [h]
                  rw [getD_false hnl] at r13; cases r13
              have u18 := hU18 f18
              clear hd hin hD
              obtain ⟨qe, ee, hqe, hhe⟩ := m5
              have he := e0_own hqe hhe
              refine step_addZ W rfl (.tmp 33) (.tmp 40) rfl wr.heap.size (.slice (some ⟨qe, 0, none⟩) 0 0) 0 [] ee he _ rn r e12 (HZr.out W u18) (by omega) u18.size ?_
              intro ao cap w' hown hg hat hnc hcm
              simp only [Nat.zero_add, List.nil_append] at hown
              exact hK _ _ ⟨updV xv 13 (.slice ao rn cap), by simp [updV, Act.put], trivial, hG.any gk.out g13.out _ trivial, Fd.off hnl, Fd.new (⟨ao, cap, rfl, hown⟩), hF15.step (fun v hv => z1_grown hv hhe hg) (by decide) (by decide) _, Fd.yet f16 (by decide) _, Fe.yet f18 (by decide) _, hU18.step (fun _ => u18.grown hg u18.size (fun k hk => (he.lt k hk).1)) (by decide)⟩
            · refine wpOp_step rfl (fun K' hK => ?_)
              clear hd hin hD
              go_simp
              exact hK _ _ ⟨updV xv 14 (Value.int IntKind.i64 ↑m), by simp [updV], hb, hG.any gk.out g14.out _ rfl, hF5.step (fun _ h => h) (by decide) (by decide) _, hF13.step (fun _ h => h) (by decide) (by decide) _, hF15.step (fun _ h => h) (by decide) (by decide) _, hF16.step (fun _ h => h) (by decide) (by decide) _, hF18.step (fun _ h => h) (by decide) _, hU18.step (fun h => h) (by decide)⟩
            · refine wpOp_step rfl (fun K' hK => ?_)
              simp [Region.binds] at hd
              have e14 : xv 14 = Value.int IntKind.i64 ↑m := hG.get g14.out (by simp [hd])
              clear hd hin hD
              go_simp
              exact hK _ _ ⟨updV xv 15 (.slice (some ⟨W.heap.size, 0, none⟩) 1 1), by simp [updV, e14], trivial, hG.any gk.out g15.out _ trivial, hF5.on st5.out (below_alloc _ _) (by decide) (by decide) _, hF13.on st13.out (below_alloc _ _) (by decide) (by decide) _, Fd.new (zs_one _ _ _), hF16.on st16.out (below_alloc _ _) (by decide) (by decide) _, hF18.on st18.out (below_alloc _ _) (by decide) _, hU18.step (su18.out _ _ (below_alloc _ _)) (by decide)⟩
            · refine wpOp_step rfl (fun K' hK => ?_)
              simp [Region.binds] at hd
              have l13 : listed.getD 13 false = true := by simp [hd]
              have m13 := hF13.get l13 hnl
              have l15 : listed.getD 15 false = true := by simp [hd]
              have m15 := hF15.get l15 hnl
              have q13 : listed.getD 13 false = true := by simp [hd]
              have q5 : listed.getD 5 false = true := by have h := hD 13 (by decide) q13; simp [Region.binds] at h; simp [h]
              have f18 : listed.getD 18 false = false := by
                cases hx : listed.getD 18 false with
                | false => rfl
                | true =>
                  have r16 : listed.getD 16 false = true := by have h := hD 18 (by decide) hx; simp [Region.binds] at h; simp [h]
                  rw [getD_false hnl] at r16; cases r16
              have f18 : listed.getD 18 false = false := by
                cases hx : listed.getD 18 false with
                | false => rfl
                | true =>
                  have r16 : listed.getD 16 false = true := by have h := hD 18 (by decide) hx; simp [Region.binds] at h; simp [h]
                  rw [getD_false hnl] at r16; cases r16
              have u18 := hU18 f18
              clear hd hin hD
              obtain ⟨ae, ce, ee, he⟩ := m13
              refine step_addZ W rfl (.tmp 41) (.tmp 43) rfl wr.heap.size (.slice ae rn ce) rn r ee he _ 1 [(m : Int)] rfl m15 (by omega) u18.size ?_
              intro ao cap w' hown hg hat hnc hcm
              exact hK _ _ ⟨updV xv 16 (.slice ao (rn + 1) cap), by simp [updV, Act.put], trivial, hG.any gk.out g16.out _ trivial, Fd.gone l13 (by decide), Fd.off hnl, Fd.off hnl, Fd.new (⟨ao, cap, rfl, hown⟩), Fe.yet f18 (by decide) _, hU18.step (fun _ => u18.grown hg u18.size (fun k hk => (he.lt k hk).1)) (by decide)⟩
            · refine wpOp_step rfl (fun K' hK => ?_)
              simp [Region.binds] at hd
              have e0 : xv 0 = Value.slice (some { block := qb, off := 0 }) A A := hG.get g0.out (by simp [hd])
              have e4 : xv 4 = .int .i64 (x : Int) := hG.get g4.out (by simp [hd])
              clear hd hin hD
              go_simp
              exact hK _ _ ⟨updV xv 17 (.pointer (some ⟨qb, x, none⟩)), by simp [updV, e0, e4], hb, hG.any gk.out g17.out _ rfl, hF5.step (fun _ h => h) (by decide) (by decide) _, hF13.step (fun _ h => h) (by decide) (by decide) _, hF15.step (fun _ h => h) (by decide) (by decide) _, hF16.step (fun _ h => h) (by decide) (by decide) _, hF18.step (fun _ h => h) (by decide) _, hU18.step (fun h => h) (by decide)⟩
            · refine wpOp_step rfl (fun K' hK => ?_)
              simp [Region.binds] at hd
              have e17 : xv 17 = .pointer (some ⟨qb, x, none⟩) := hG.get g17.out (by simp [hd])
              have l16 : listed.getD 16 false = true := by simp [hd]
              have m16 := hF16.get l16 hnl
              have q13 : listed.getD 13 false = true := by simp [hd]
              have q15 : listed.getD 15 false = true := by simp [hd]
              have u18 := hU18.get hnl
              clear hd hin hD
              obtain ⟨ae, ce, ee, he⟩ := m16
              have hc := CRx.out W u18
              have hI := HIB.out W u18
              have hf := hI.f.free x
              have hst := hI.store x (v' := .slice ae (rn + 1) ce) (r' := r ++ [(m : Int)]) (by rw [List.length_append, HRN.out]; exact he.mono HBS.out)
              rw [← HN2.out] at hst
              go_simp
              exact hK _ _ ⟨updV xv 18 undef, by simp [updV, ee, e17], trivial, hG.any gk.out g18.out _ trivial, Fd.gone q13 (by decide), Fd.gone l16 (by decide), Fd.gone l16 (by decide), Fd.off hnl, Fe.new (⟨_, hst⟩), Fz.off hnl⟩
          · rintro listed ac W ⟨xv, rfl, hb, hG, hF5, hF13, hF15, hF16, hF18, hU18⟩ hall
            have m18 : Hid ((IsRh w w.heap.size N B Q E F qb A rows2 (.slice (some ⟨lb, 0, none⟩) Q k3) Q l) (xv 18) W) := hF18 (hall 18 (by decide))
            have XW : Hid ((fun _ => True) W) := hb
            clear hall hG hb gk JS g0 g1 g2 g3 g4 g5 g6 g7 g8 g9 g10 g11 g12 g13 g14 g15 g16 g17 g18 hF5 st5 hF13 st13 hF15 st15 hF16 st16 hF18 st18 hU18 su18
            obtain ⟨vs2, hI2⟩ := m18.out
            have I4 : Hid (RhI w W w.heap.size N B Q E F qb A vs2 rows2 (.slice (some ⟨lb, 0, none⟩) Q k3) Q l) := hI2
            clear hI2 m18 XW
            go_wp2
            go_roundw
            case rel => exact ⟨k + 1, vs2, by omega, by go_num, by unfold Hid; rw [HR2.out]; exact I4.out, HSh2⟩
            case measure => simp [intOf]; omega
        · obtain rfl : k = Q := by omega
          have I4 : Hid (RfI w.heap.size wr qb A vs (hasR S A k (m + 1))) := by
            have := I.out.f
            rw [List.take_of_length_le (by rw [HLl.out]; omega), ← HNx.out] at this
            exact this
          have S4 : Hid (Short (8 * (m + 1)) (hasR S A k (m + 1))) := by
            have := HSh.out
            rw [List.take_of_length_le (by rw [HLl.out]; omega), ← HNx.out] at this
            exact this.mono (by omega)
          have B4 : Hid (Below w.heap.size w wr) := I.out.b
          have P4 : Hid (FiveB wr w.heap.size N B k E F) := I.out.p
          clear I HSh HNx
          go_wp2
          go_roundw
          case rel => exact ⟨m + 1, vs, by omega, by go_num, I4, S4, B4, P4⟩
          case measure => simp [intOf]; omega
    · obtain rfl : m = N := by omega
      go_wp2
      go_ret
      exact ⟨qb, vs, rfl, HF.out, HB.out⟩

end Go.Proofs.Ythlladpappldbaa
