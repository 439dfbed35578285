/-
  OuterOwn.
-/
import Derived.Test.YthlladpappldbaaODraws
import Derived.Test.YthlladpappldbaaSAll
namespace Go.Proofs.Ythlladpappldbaa
open Go.RowKit
set_option linter.unusedVariables false

/-- Lists of one's own, those from x on as they were told; what is older stays. -/
structure OwI (w0 W : World) (t : Nat) (vs : List Value) (ns : List Nat) (x : Nat) : Prop where
  cell : ∀ (y : Nat) (v : Value), vs[y]? = some v → W.cell? ⟨t, y, none⟩ = some v
  own : ∀ (y : Nat) (v : Value) (n : Nat), x ≤ y → vs[y]? = some v → ns[y]? = some n → ∃ l, OwnZ w0.heap.size W v n l
  ap : ∀ (y z : Nat) (v u : Value) (q : Nat), y ≠ z → vs[y]? = some v → vs[z]? = some u → v.ownBlock = some q → u.ownBlock ≠ some q
  tn : ∀ (y : Nat) (v : Value), vs[y]? = some v → v.ownBlock ≠ some t
  b : Below w0.heap.size w0 W

theorem OwI.grow {w0 W W' : World} {t : Nat} {vs : List Value} {ns : List Nat} {x : Nat} (h : OwI w0 W t vs ns x) {v : Value} {n : Nat} (hv : vs[x]? = some v) (hn : ns[x]? = some n) {W1 : World} (h1 : Below W.heap.size W W1) (hg : W1.grownBy W' v.ownBlock) : OwI w0 W' t vs ns (x + 1) := by
  obtain ⟨l, hl⟩ := h.own x v n (Nat.le_refl _) hv hn
  refine ⟨fun y u hu => ?_, fun y u m hy hu hm => ?_, h.ap, h.tn, ?_⟩
  · have hc := h.cell y u hu
    have hlt := cell_block_lt hc
    have e1 := (h1.cell hlt).trans hc
    rw [← e1]
    exact World.cell?_of_block (a := ⟨t, y, none⟩) (hg.block t (cell_block_lt e1) (fun e => h.tn x v hv e.symm))
  · obtain ⟨l2, hl2⟩ := h.own y u m (by omega) hu hm
    have hl3 := hl2.below h1
    exact ⟨l2, hl3.kept (fun q hq => hg.block q (hl3.lt q hq).2 (fun e => h.ap x y v u q (by omega) hv hu e.symm hq))⟩
  · exact (below_on h.b h1).grown hg (below_on h.b h1).size (fun k hk => (hl.lt k hk).1)

theorem OwI.set {w0 W : World} {t : Nat} {vs : List Value} {ns : List Nat} {x : Nat} (h : OwI w0 W t vs ns x) {q n c : Nat} {l : List Int} (hv : vs[x]? = some (.slice (some ⟨q, 0, none⟩) n c)) (hn : ns[x]? = some n) (hl : OwnZ w0.heap.size W (.slice (some ⟨q, 0, none⟩) n c) n l) (d : Nat) (z : Int) : OwI w0 (W.setCell ⟨q, d, none⟩ (.int .i64 z)) t vs ns x := by
  have key : ∀ k, k ≠ q → (W.setCell ⟨q, d, none⟩ (.int .i64 z)).heap[k]? = W.heap[k]? := fun k hk => Below.heap_setCell _ _ _ _ hk
  refine ⟨fun y u hu => ?_, fun y u m hy hu hm => ?_, h.ap, h.tn, h.b.setCell (hl.lt q rfl).1 _⟩
  · rw [← h.cell y u hu]
    exact World.cell?_of_block (a := ⟨t, y, none⟩) (key t (fun e => h.tn x _ hv (by rw [e]; rfl)))
  · by_cases e : x = y
    · subst e
      rw [hv] at hu
      rw [hn] at hm
      obtain rfl := Option.some.inj hu
      obtain rfl := Option.some.inj hm
      exact ⟨_, hl.stored d z⟩
    · obtain ⟨l2, hl2⟩ := h.own y u m hy hu hm
      exact ⟨l2, hl2.kept (fun p hp => key p (fun e2 => h.ap x y _ u q e hv hu rfl (by rw [hp, e2])))⟩

def IsEx (j M A : Nat) (l : List Int) : Value → World → Prop := fun v W => ∃ eb c aE cE, v = .slice (some ⟨eb, 0, none⟩) A c ∧ W.cell? ⟨eb, j, none⟩ = some (.slice aE M cE) ∧ Zs W (.slice aE M cE) l
theorem stays_ex (j M A : Nat) (l : List Int) : Stays (IsEx j M A l) := fun _ _ _ hb ⟨eb, c, aE, cE, h1, h2, h3⟩ => ⟨eb, c, aE, cE, h1, (hb.cell (cell_block_lt h2)).trans h2, h3.below hb⟩
def IsPx (j M : Nat) (l : List Int) : Value → World → Prop := fun v W => ∃ eb aE cE, v = .pointer (some ⟨eb, j, none⟩) ∧ W.cell? ⟨eb, j, none⟩ = some (.slice aE M cE) ∧ Zs W (.slice aE M cE) l
theorem stays_px (j M : Nat) (l : List Int) : Stays (IsPx j M l) := fun _ _ _ hb ⟨eb, aE, cE, h1, h2, h3⟩ => ⟨eb, aE, cE, h1, (hb.cell (cell_block_lt h2)).trans h2, h3.below hb⟩
def IsZq (M : Nat) (l : List Int) : Value → World → Prop := fun v W => ∃ a c, v = .slice a M c ∧ Zs W (.slice a M c) l
theorem stays_zq (M : Nat) (l : List Int) : Stays (IsZq M l) := fun _ _ _ hb ⟨a, c, h1, h2⟩ => ⟨a, c, h1, h2.below hb⟩
theorem IsZq.zs {M : Nat} {l : List Int} {v : Value} {W : World} (h : IsZq M l v W) : Zs W v l := by
  obtain ⟨a, c, rfl, h⟩ := h
  exact h

theorem owi_start {w0 w1 w2 w3 : World} {v1 v2 v3 : Value} {n1 n2 n3 : Nat} {l1 l2 l3 : List Int} (h1 : OwnZ w0.heap.size w1 v1 n1 l1) (b1 : Below w0.heap.size w0 w1) (h2 : OwnZ w1.heap.size w2 v2 n2 l2) (b2 : Below w1.heap.size w1 w2) (h3 : OwnZ w2.heap.size w3 v3 n3 l3) (b3 : Below w2.heap.size w2 w3) :
    OwI w0 (w3.alloc (.cells #[v1, v2, v3] 28)) w3.heap.size [v1, v2, v3] [n1, n2, n3] 0 := by
  have s1 := b1.size
  have s2 := b2.size
  have s3 := b3.size
  have ba := below_alloc w3 (.cells #[v1, v2, v3] 28)
  have k1 : ∀ q, v1.ownBlock = some q → w0.heap.size ≤ q ∧ q < w1.heap.size := fun q hq => h1.lt q hq
  have k2 : ∀ q, v2.ownBlock = some q → w1.heap.size ≤ q ∧ q < w2.heap.size := fun q hq => h2.lt q hq
  have k3 : ∀ q, v3.ownBlock = some q → w2.heap.size ≤ q ∧ q < w3.heap.size := fun q hq => h3.lt q hq
  refine ⟨?_, ?_, ?_, ?_, below_on (below_on (below_on b1 b2) b3) ba⟩
  · intro y v hv
    match y, hv with
    | 0, hv => simp at hv; subst hv; simp
    | 1, hv => simp at hv; subst hv; simp
    | 2, hv => simp at hv; subst hv; simp
    | y + 3, hv => simp at hv
  · intro y v n _ hv hn
    match y, hv, hn with
    | 0, hv, hn => simp at hv hn; subst hv; subst hn; exact ⟨l1, ((h1.below b2).below b3).below ba⟩
    | 1, hv, hn => simp at hv hn; subst hv; subst hn; exact ⟨l2, ((h2.mono s1).below b3).below ba⟩
    | 2, hv, hn => simp at hv hn; subst hv; subst hn; exact ⟨l3, (h3.mono (by omega)).below ba⟩
    | y + 3, hv, _ => simp at hv
  · intro y z v u q hne hv hu hq e
    match y, z, hv, hu with
    | 0, 0, _, _ => exact hne rfl
    | 0, 1, hv, hu => simp at hv hu; subst hv; subst hu; have := k1 q hq; have := k2 q e; omega
    | 0, 2, hv, hu => simp at hv hu; subst hv; subst hu; have := k1 q hq; have := k3 q e; omega
    | 1, 0, hv, hu => simp at hv hu; subst hv; subst hu; have := k2 q hq; have := k1 q e; omega
    | 1, 1, _, _ => exact hne rfl
    | 1, 2, hv, hu => simp at hv hu; subst hv; subst hu; have := k2 q hq; have := k3 q e; omega
    | 2, 0, hv, hu => simp at hv hu; subst hv; subst hu; have := k3 q hq; have := k1 q e; omega
    | 2, 1, hv, hu => simp at hv hu; subst hv; subst hu; have := k3 q hq; have := k2 q e; omega
    | 2, 2, _, _ => exact hne rfl
    | y + 3, _, hv, _ => simp at hv
    | 0, z + 3, _, hu => simp at hu
    | 1, z + 3, _, hu => simp at hu
    | 2, z + 3, _, hu => simp at hu
  · intro y v hv e
    match y, hv with
    | 0, hv => simp at hv; subst hv; have := k1 _ e; omega
    | 1, hv => simp at hv; subst hv; have := k2 _ e; omega
    | 2, hv => simp at hv; subst hv; have := k3 _ e; omega
    | y + 3, hv => simp at hv

set_option maxRecDepth 100000 in
set_option maxHeartbeats 4000000 in
theorem outerOwn_walk (N0 B Q E F : Int) (S iv : Nat) (w : World) (hS : S < 18446744073709551616) (hiv : iv < 256) :
    Calls Try.prog 8 #[.agg #[.int .i64 N0, .int .i64 B, .int .i64 Q, .int .i64 E, .int .i64 F], .int .u64 S, .int .u8 iv] w fun e w' => e = .returned (.bool true) ∧ Below w.heap.size w w' := by
  obtain ⟨N, hN⟩ : ∃ N, smallN N0 = N := ⟨_, rfl⟩
  have hN60 : N ≤ 60 := by rw [← hN]; exact smallN_le _
  have CS : Hid (∀ W, Calls Try.prog 23 #[.agg #[.int .i64 N0, .int .i64 B, .int .i64 Q, .int .i64 E, .int .i64 F]] W fun e w' => e = .returned (.agg #[.int .i64 N, .int .i64 B, .int .i64 Q, .int .i64 E, .int .i64 F]) ∧ Below W.heap.size W w') := by
    intro W
    rw [← hN]
    exact smaller_any N0 B Q E F W
  clear hN
  go_enter Try.func8, Try.ntmps8
  go_wp2_with fail
  refine (speaks10_any _).mono ?_
  rintro e w1 ⟨rfl, hb1⟩
  have B1 : Hid (Below w.heap.size w w1) := below_on (below_alloc _ _) hb1
  have P1 : Hid (FiveB w1 w.heap.size N0 B Q E F) := (FiveB.new w _ _ _ _ _).below hb1
  obtain ⟨c0, c1, c2, c3, c4⟩ := P1.out.five
  clear hb1
  go_wp2_with fail
  refine (CS.out _).mono ?_
  rintro e w2 ⟨rfl, hb2⟩
  have B2 : Hid (Below w.heap.size w w2) := below_on B1.out hb2
  have P2 : Hid (FiveB w2 w.heap.size N0 B Q E F) := P1.out.below hb2
  clear hb2 B1 P1 CS c0 c1 c2 c3 c4
  obtain ⟨c0, c1, c2, c3, c4⟩ := P2.out.five
  have f0 := P2.out.fr 0
  have f1 := P2.out.fr 1
  have f2 := P2.out.fr 2
  have f3 := P2.out.fr 3
  have f4 := P2.out.fr 4
  have B3 : Hid (Below w.heap.size w (((((w2.setCell ⟨w.heap.size, 0, none⟩ (.int .i64 N)).setCell ⟨w.heap.size, 1, none⟩ (.int .i64 B)).setCell ⟨w.heap.size, 2, none⟩ (.int .i64 Q)).setCell ⟨w.heap.size, 3, none⟩ (.int .i64 E)).setCell ⟨w.heap.size, 4, none⟩ (.int .i64 F))) := below5 B2.out (Nat.le_refl _) _ _ _ _ _
  have P3 : Hid (FiveB (((((w2.setCell ⟨w.heap.size, 0, none⟩ (.int .i64 N)).setCell ⟨w.heap.size, 1, none⟩ (.int .i64 B)).setCell ⟨w.heap.size, 2, none⟩ (.int .i64 Q)).setCell ⟨w.heap.size, 3, none⟩ (.int .i64 E)).setCell ⟨w.heap.size, 4, none⟩ (.int .i64 F)) w.heap.size N B Q E F) := fiveB_store P2.out _ _ _ _ _
  go_upto_region 4 with fail
  generalize ((((w2.setCell ⟨w.heap.size, 0, none⟩ (.int .i64 N)).setCell ⟨w.heap.size, 1, none⟩ (.int .i64 B)).setCell ⟨w.heap.size, 2, none⟩ (.int .i64 Q)).setCell ⟨w.heap.size, 3, none⟩ (.int .i64 E)).setCell ⟨w.heap.size, 4, none⟩ (.int .i64 F) = w3 at *
  clear c0 c1 c2 c3 c4 f0 f1 f2 f3 f4 B2 P2
  obtain ⟨c0, c1, c2, c3, c4⟩ := P3.out.five
  by_cases hp : May N B Q E F
  · have MP : Hid (∀ W, Calls Try.prog 24 #[.agg #[.int .i64 N, .int .i64 B, .int .i64 Q, .int .i64 E, .int .i64 F]] W fun e w' => e = .returned (.bool true) ∧ Below W.heap.size W w') := fun W => rmay_yes N B Q E F W hp
    obtain ⟨n, q, A, hpr⟩ := PrOk.of hp
    have hok := hpr.ok hS
    have hA6 : A ≤ 1000000 := may_small hpr (by omega)
    obtain rfl := hpr.en
    obtain rfl := hpr.eq
    have OK : Hid (GrOk S n q A) := hok
    have hA1 := hok.a1
    have hq8 := hok.q
    have hq1 := hok.q1
    have hn1 : 1 ≤ n := by have := hp.1.1; omega
    have CM : Hid (∀ W, Calls Try.prog 22 #[.agg #[.int .i64 n, .int .i64 B, .int .i64 q, .int .i64 E, .int .i64 F], .int .u64 S] W fun e w' => ∃ g ro vs, e = .returned (.tuple #[.pointer (some ⟨g, 0, none⟩), .int .i64 0]) ∧ IsGr w' g ro S n q A vs (hasR S A q n) ∧ Below W.heap.size W w') := fun W => onew_yes B E F n q A S W hpr hS
    have CEq0 : Hid (∀ W, Calls Try.prog 30 #[.agg #[.int .i64 n, .int .i64 B, .int .i64 q, .int .i64 E, .int .i64 F], .int .u64 S] W fun e w' => ∃ oa oc b0 qb vs vE, e = .returned (.slice oa A oc) ∧ EqI W w' b0 n B q E F qb A vs (hasR S A q n) (.slice oa A oc) A vE (eqTo (hasR S A q n) n A)) := fun W => reqs_any B E F n q A S W hpr hS hA6
    have CH0 : Hid (∀ W, Calls Try.prog 31 #[.agg #[.int .i64 n, .int .i64 B, .int .i64 q, .int .i64 E, .int .i64 F], .int .u64 S] W fun e w' => ∃ qb vs, e = .returned (.slice (some ⟨qb, 0, none⟩) A A) ∧ RfI W.heap.size w' qb A vs (hasR S A q n) ∧ Below W.heap.size W w') := fun W => rhas10_any B E F n q A S W hpr hS hA6
    have CRO : Hid (∀ W (k : Nat), k ≤ 1048576 → Calls Try.prog 29 #[.agg #[.int .i64 n, .int .i64 B, .int .i64 q, .int .i64 E, .int .i64 F], .int .u64 S, .int .i64 k] W fun e w' => ∃ a c, e = .returned (.slice a q c) ∧ OwnZ W.heap.size w' (.slice a q c) q (ofD S A q k) ∧ Below W.heap.size W w') := fun W k hk => rof_any n B q E F n q A S k W hpr hS hk hA6
    have HRS : Hid (∀ (j : Nat) (r : List Int), (hasR S A q n)[j]? = some r → r.length ≤ n) := fun j r h => hasR_short n j r h
    have HRL : Hid ((hasR S A q n).length = A) := hasR_length S A q n
    clear hp hpr hok hS
    generalize hasR S A q n = rows at *
    obtain ⟨kk, hkk⟩ : ∃ kk, iv % n = kk := ⟨_, rfl⟩
    obtain ⟨jj, hjj⟩ : ∃ jj, iv % A = jj := ⟨_, rfl⟩
    have hkn : kk < n := by rw [← hkk]; exact Nat.mod_lt _ hn1
    have hjA : jj < A := by rw [← hjj]; exact Nat.mod_lt _ hA1
    have rk : (iv : Int).tmod (n : Int) = (kk : Int) := by rw [← hkk]; exact Int.ofNat_tmod iv n ▸ rfl
    have rj : (iv : Int).tmod (A : Int) = (jj : Int) := by rw [← hjj]; exact Int.ofNat_tmod iv A ▸ rfl
    clear hkk hjj
    go_wp2_with fail
    refine (MP.out _).mono ?_
    rintro e w4 ⟨rfl, hb4⟩
    have B4 : Hid (Below w.heap.size w w4) := below_on B3.out hb4
    have P4 : Hid (FiveB w4 w.heap.size n B q E F) := P3.out.below hb4
    clear hb4 B3 P3 MP c0 c1 c2 c3 c4
    obtain ⟨c0, c1, c2, c3, c4⟩ := P4.out.five
    go_upto_region 9 with fail
    refine (CM.out _).mono ?_
    rintro e w5 ⟨gp, rp, vp, rfl, hg5, hb5⟩
    have G5 : Hid (IsGr w5 gp rp S n q A vp rows) := hg5
    have B5 : Hid (Below w.heap.size w w5) := below_on B4.out hb5
    have P5 : Hid (FiveB w5 w.heap.size n B q E F) := P4.out.below hb5
    clear hg5 hb5 B4 P4 CM c0 c1 c2 c3 c4
    have BX : Hid (∀ W, Below w5.heap.size w5 W → Five W w.heap.size n B q E F) := fun W hW => (P5.out.below hW).five
    have CA : Hid (∀ W, Below w5.heap.size w5 W → Calls Try.prog 26 #[.pointer (some ⟨gp, 0, none⟩)] W fun e w' => ∃ v, e = .returned v ∧ IsV (.int .i64 (A : Int)) v w' ∧ Below W.heap.size W w') := by
      intro W hW
      refine (oaux_any gp rp S n q A vp rows W (G5.out.below hW)).mono ?_
      rintro e w' ⟨rfl, rfl⟩
      exact ⟨_, rfl, rfl, Below.refl _ _⟩
    have hwi : IntKind.i64.wrap (iv : Int) = (iv : Int) := by rw [IntKind.wrap_i64]; omega
    have hnz : ¬ n = 0 := by omega
    have hAz : ¬ A = 0 := by omega
    have hnz2 : ((n : Int) == 0) = false := by simp; omega
    have hAz2 : ((A : Int) == 0) = false := by simp; omega
    go_upto_region 9 with fail
    refine wp_region_any (by kernel_rfl) ?_
    obtain ⟨gs, hgs⟩ : ∃ gs : List (Value → World → Prop), gs = [IsV (Value.int IntKind.u8 ↑iv), IsV (.int .i64 (iv : Int)), IsV (.pointer (some ⟨w.heap.size, 0, none⟩)), IsV (.int .i64 (n : Int)), IsV (.int .i64 (kk : Int)), IsV (Value.int IntKind.u8 ↑iv), IsV (.int .i64 (iv : Int)), IsV (Value.pointer (some { block := gp, off := 0 })), IsV (.int .i64 (A : Int)), IsV (.int .i64 (jj : Int)), IsV (.int .i64 (kk : Int)), IsV (.int .i64 (jj : Int))] := ⟨_, rfl⟩
    have g0 : Hid (gs[0]? = some (IsV (Value.int IntKind.u8 ↑iv))) := by unfold Hid; rw [hgs]; rfl
    have g1 : Hid (gs[1]? = some (IsV (.int .i64 (iv : Int)))) := by unfold Hid; rw [hgs]; rfl
    have g2 : Hid (gs[2]? = some (IsV (.pointer (some ⟨w.heap.size, 0, none⟩)))) := by unfold Hid; rw [hgs]; rfl
    have g3 : Hid (gs[3]? = some (IsV (.int .i64 (n : Int)))) := by unfold Hid; rw [hgs]; rfl
    have g4 : Hid (gs[4]? = some (IsV (.int .i64 (kk : Int)))) := by unfold Hid; rw [hgs]; rfl
    have g5 : Hid (gs[5]? = some (IsV (Value.int IntKind.u8 ↑iv))) := by unfold Hid; rw [hgs]; rfl
    have g6 : Hid (gs[6]? = some (IsV (.int .i64 (iv : Int)))) := by unfold Hid; rw [hgs]; rfl
    have g7 : Hid (gs[7]? = some (IsV (Value.pointer (some { block := gp, off := 0 })))) := by unfold Hid; rw [hgs]; rfl
    have g8 : Hid (gs[8]? = some (IsV (.int .i64 (A : Int)))) := by unfold Hid; rw [hgs]; rfl
    have g9 : Hid (gs[9]? = some (IsV (.int .i64 (jj : Int)))) := by unfold Hid; rw [hgs]; rfl
    have g10 : Hid (gs[10]? = some (IsV (.int .i64 (kk : Int)))) := by unfold Hid; rw [hgs]; rfl
    have g11 : Hid (gs[11]? = some (IsV (.int .i64 (jj : Int)))) := by unfold Hid; rw [hgs]; rfl
    have gk : Hid (∀ p ∈ gs, ∀ v (U U' : World), p v U → p v U') := by
      unfold Hid
      rw [hgs]
      simp only [List.forall_mem_cons]
      exact ⟨(fun _ _ _ h => h), (fun _ _ _ h => h), (fun _ _ _ h => h), (fun _ _ _ h => h), (fun _ _ _ h => h), (fun _ _ _ h => h), (fun _ _ _ h => h), (fun _ _ _ h => h), (fun _ _ _ h => h), (fun _ _ _ h => h), (fun _ _ _ h => h), (fun _ _ _ h => h), by simp⟩
    clear hgs
    have JS : Hid (∀ W W', Below W.heap.size W W' → (fun W => Below w5.heap.size w5 W) W → (fun W => Below w5.heap.size w5 W) W') := fun W W' hb h => h.trans (hb.mono h.size)
    refine wpAny_inv4 (fun listed ac W => ∃ xv : Nat → Value, ac = ⟨#[Value.agg #[Value.int IntKind.i64 N0, Value.int IntKind.i64 B, Value.int IntKind.i64 ↑q, Value.int IntKind.i64 E, Value.int IntKind.i64 F], Value.int IntKind.u64 ↑S, Value.int IntKind.u8 ↑iv, Value.pointer (some { block := w.heap.size, off := 0 }), undef, undef, Value.bool false, Value.pointer (some { block := gp, off := 0 }), Value.int IntKind.i64 (0 : Int), xv 10, xv 11, undef, undef, undef, Value.bool true, Value.bool false, Value.agg #[Value.int IntKind.i64 N0, Value.int IntKind.i64 B, Value.int IntKind.i64 ↑q, Value.int IntKind.i64 E, Value.int IntKind.i64 F], Value.agg #[Value.int IntKind.i64 ↑n, Value.int IntKind.i64 B, Value.int IntKind.i64 ↑q, Value.int IntKind.i64 E, Value.int IntKind.i64 F], Value.agg #[Value.int IntKind.i64 ↑n, Value.int IntKind.i64 B, Value.int IntKind.i64 ↑q, Value.int IntKind.i64 E, Value.int IntKind.i64 F], Value.bool true, Value.bool false, Value.tuple #[Value.pointer (some { block := gp, off := 0 }), Value.int IntKind.i64 (0 : Int)], Value.agg #[Value.int IntKind.i64 ↑n, Value.int IntKind.i64 B, Value.int IntKind.i64 ↑q, Value.int IntKind.i64 E, Value.int IntKind.i64 F], Value.int IntKind.u64 ↑S, Value.tuple #[Value.pointer (some { block := gp, off := 0 }), Value.int IntKind.i64 (0 : Int)], Value.pointer (some { block := gp, off := 0 }), Value.int IntKind.i64 (0 : Int), Value.int IntKind.i64 (0 : Int), Value.bool false, Value.bool false, Value.pointer (some { block := gp, off := 0 }), Value.bool false, Value.bool false, xv 0, xv 1, xv 2, xv 3, xv 4, xv 5, xv 6, xv 7, xv 8, xv 9, undef, undef, undef, undef, undef, undef, undef, undef, undef, undef, undef, undef, undef, undef, undef, undef, undef, undef, undef, undef, undef, undef, undef, undef, undef, undef, undef, undef, undef, undef, undef, undef, undef, undef, undef, undef, undef, undef, undef, undef, undef, undef, undef, undef, undef, undef, undef, undef, undef, undef, undef, undef, undef, undef, undef, undef, undef, undef, undef, undef, undef, undef, undef, undef, undef, undef], []⟩ ∧ (fun W => Below w5.heap.size w5 W) W ∧ Lst gs listed xv W) (by kernel_rfl) ?_ ?_ _ _ _ _ (by kernel_rfl) (of_decide_eq_true (by kernel_rfl)) (Down.start _) ⟨fun jx => undef, rfl, below0 _, Lst.start _ _ _ _⟩
    · rintro listed ac W ⟨xv, rfl, hb, hG⟩ hD i hi hnl hd
      have hin : i < 12 := hi
      clear hi
      have hcase : i = 0 ∨ i = 1 ∨ i = 2 ∨ i = 3 ∨ i = 4 ∨ i = 5 ∨ i = 6 ∨ i = 7 ∨ i = 8 ∨ i = 9 ∨ i = 10 ∨ i = 11 := by omega
      rcases hcase with rfl | rfl | rfl | rfl | rfl | rfl | rfl | rfl | rfl | rfl | rfl | rfl
      · refine wpOp_step rfl (fun K' hK => ?_)
        clear hd hin hD
        go_simp
        exact hK _ _ ⟨updV xv 0 (Value.int IntKind.u8 ↑iv), by simp [updV], hb, hG.any gk.out g0.out _ rfl⟩
      · refine wpOp_step rfl (fun K' hK => ?_)
        simp [Region.binds] at hd
        have e0 : xv 0 = Value.int IntKind.u8 ↑iv := hG.get g0.out (by simp [hd])
        clear hd hin hD
        go_simp
        exact hK _ _ ⟨updV xv 1 (.int .i64 (iv : Int)), by simp [updV, e0], hb, hG.any gk.out g1.out _ rfl⟩
      · refine wpOp_step rfl (fun K' hK => ?_)
        clear hd hin hD
        go_simp
        exact hK _ _ ⟨updV xv 2 (.pointer (some ⟨w.heap.size, 0, none⟩)), by simp [updV], hb, hG.any gk.out g2.out _ rfl⟩
      · refine wpOp_step rfl (fun K' hK => ?_)
        simp [Region.binds] at hd
        have e2 : xv 2 = .pointer (some ⟨w.heap.size, 0, none⟩) := hG.get g2.out (by simp [hd])
        obtain ⟨c0, c1, c2, c3, c4⟩ := BX.out W hb
        clear hd hin hD
        go_simp
        exact hK _ _ ⟨updV xv 3 (.int .i64 (n : Int)), by simp [updV, e2], hb, hG.any gk.out g3.out _ rfl⟩
      · refine wpOp_step rfl (fun K' hK => ?_)
        simp [Region.binds] at hd
        have e1 : xv 1 = .int .i64 (iv : Int) := hG.get g1.out (by simp [hd])
        have e3 : xv 3 = .int .i64 (n : Int) := hG.get g3.out (by simp [hd])
        clear hd hin hD
        go_simp
        exact hK _ _ ⟨updV xv 4 (.int .i64 (kk : Int)), by simp [updV, e1, e3], hb, hG.any gk.out g4.out _ rfl⟩
      · refine wpOp_step rfl (fun K' hK => ?_)
        simp [Region.binds] at hd
        clear hd hin hD
        go_simp
        exact hK _ _ ⟨updV xv 5 (Value.int IntKind.u8 ↑iv), by simp [updV], hb, hG.any gk.out g5.out _ rfl⟩
      · refine wpOp_step rfl (fun K' hK => ?_)
        simp [Region.binds] at hd
        have e5 : xv 5 = Value.int IntKind.u8 ↑iv := hG.get g5.out (by simp [hd])
        clear hd hin hD
        go_simp
        exact hK _ _ ⟨updV xv 6 (.int .i64 (iv : Int)), by simp [updV, e5], hb, hG.any gk.out g6.out _ rfl⟩
      · refine wpOp_step rfl (fun K' hK => ?_)
        clear hd hin hD
        go_simp
        exact hK _ _ ⟨updV xv 7 (Value.pointer (some { block := gp, off := 0 })), by simp [updV], hb, hG.any gk.out g7.out _ rfl⟩
      · refine wpOp_step rfl (fun K' hK => ?_)
        simp [Region.binds] at hd
        have e7 : xv 7 = Value.pointer (some { block := gp, off := 0 }) := hG.get g7.out (by simp [hd])
        clear hd hin hD
        go_simp
        refine (CA.out W hb).mono ?_
        rintro e w' ⟨v, rfl, hv, hb'⟩
        go_wp2_with fail
        exact ⟨updV xv 8 v, by simp [updV, e7], JS.out _ _ hb' hb, hG.any gk.out g8.out v hv⟩
      · refine wpOp_step rfl (fun K' hK => ?_)
        simp [Region.binds] at hd
        have e6 : xv 6 = .int .i64 (iv : Int) := hG.get g6.out (by simp [hd])
        have e8 : xv 8 = .int .i64 (A : Int) := hG.get g8.out (by simp [hd])
        clear hd hin hD
        go_simp
        exact hK _ _ ⟨updV xv 9 (.int .i64 (jj : Int)), by simp [updV, e6, e8], hb, hG.any gk.out g9.out _ rfl⟩
      · refine wpOp_step rfl (fun K' hK => ?_)
        simp [Region.binds] at hd
        have e4 : xv 4 = .int .i64 (kk : Int) := hG.get g4.out (by simp [hd])
        clear hd hin hD
        go_simp
        exact hK _ _ ⟨updV xv 10 (.int .i64 (kk : Int)), by simp [updV, e4], hb, hG.any gk.out g10.out _ rfl⟩
      · refine wpOp_step rfl (fun K' hK => ?_)
        simp [Region.binds] at hd
        have e9 : xv 9 = .int .i64 (jj : Int) := hG.get g9.out (by simp [hd])
        clear hd hin hD
        go_simp
        exact hK _ _ ⟨updV xv 11 (.int .i64 (jj : Int)), by simp [updV, e9], hb, hG.any gk.out g11.out _ rfl⟩
    · rintro listed ac W ⟨xv, rfl, hb, hG⟩ hall
      have e10 : xv 10 = .int .i64 (kk : Int) := hG.get g10.out (hall 10 (by decide))
      have e11 : xv 11 = .int .i64 (jj : Int) := hG.get g11.out (hall 11 (by decide))
      have XW : Hid ((fun W => Below w5.heap.size w5 W) W) := hb
      clear hall hG hb gk JS g0 g1 g2 g3 g4 g5 g6 g7 g8 g9 g10 g11
      rw [e10, e11]
      clear e10 e11
      have G6 : Hid (IsGr W gp rp S n q A vp rows) := G5.out.below XW.out
      have B6 : Hid (Below w.heap.size w W) := below_on B5.out XW.out
      have P6 : Hid (FiveB W w.heap.size n B q E F) := P5.out.below XW.out
      clear XW BX CA G5 B5 P5 rk rj hwi hnz hAz hnz2 hAz2
      have hjr : jj < rows.length := by rw [HRL.out]; exact hjA
      obtain ⟨r, hr⟩ : ∃ r, rows[jj]? = some r := ⟨_, List.getElem?_eq_getElem hjr⟩
      have hrl := HRS.out jj r hr
      obtain ⟨rn, hrn⟩ : ∃ rn, r.length = rn := ⟨_, rfl⟩
      have HRN : Hid (r.length = rn) := hrn
      have HR : Hid (rows[jj]? = some r) := hr
      rw [hrn] at hrl
      clear hr hrn hjr
      go_wp2_with fail
      refine (oof_yes gp rp S n q A kk vp rows _ G6.out OK.out hkn).mono ?_
      rintro e w7 ⟨a7, k7, rfl, ho7, hb7⟩
      have O7 : Hid (OwnZ W.heap.size w7 (.slice a7 q k7) q (ofD S A q kk)) := ho7
      have X7 : Hid (Below W.heap.size W w7) := hb7
      have G7 : Hid (IsGr w7 gp rp S n q A vp rows) := G6.out.below hb7
      clear ho7 hb7
      go_wp2_with fail
      refine (ohas_yes gp rp S n q A jj rn vp rows r _ G7.out (by omega) HR.out HRN.out (by omega)).mono ?_
      rintro e w8 ⟨a8, k8, rfl, ho8, hb8⟩
      have O8 : Hid (OwnZ w7.heap.size w8 (.slice a8 rn k8) rn r) := ho8
      have X8 : Hid (Below w7.heap.size w7 w8) := hb8
      have G8 : Hid (IsGr w8 gp rp S n q A vp rows) := G7.out.below hb8
      clear ho8 hb8 G7
      go_wp2_with fail
      refine (oeq_yes gp rp S n q A jj rn vp rows r _ G8.out (by omega) (by omega) HR.out HRN.out (by omega)).mono ?_
      rintro e w9 ⟨a9, k9, rfl, ho9, hb9⟩
      have I9 : Hid (OwI W (w9.alloc (.cells #[.slice a7 q k7, .slice a8 rn k8, .slice a9 (rn + 1) k9] 28)) w9.heap.size [.slice a7 q k7, .slice a8 rn k8, .slice a9 (rn + 1) k9] [q, rn, rn + 1] 0) := owi_start O7.out X7.out O8.out X8.out ho9 hb9
      clear ho9 hb9 O7 X7 O8 X8 G8
      go_wp2
      generalize w9.heap.size = tb at *
      have HV : Hid (∀ y, y < 3 → ∃ v m, ([.slice a7 q k7, .slice a8 rn k8, .slice a9 (rn + 1) k9] : List Value)[y]? = some v ∧ ([q, rn, rn + 1] : List Nat)[y]? = some m ∧ m ≤ 61) := by
        intro y hy
        match y, hy with
        | 0, _ => exact ⟨_, _, rfl, rfl, by omega⟩
        | 1, _ => exact ⟨_, _, rfl, rfl, by omega⟩
        | 2, _ => exact ⟨_, _, rfl, rfl, by omega⟩
      generalize ([.slice a7 q k7, .slice a8 rn k8, .slice a9 (rn + 1) k9] : List Value) = vs at *
      generalize ([q, rn, rn + 1] : List Nat) = ns at *
      go_loopw [54] (fun xv wr => ∃ x : Nat, x ≤ 3 ∧ xv = .int .i64 x ∧ Hid (OwI W wr tb vs ns x)) (fun xv _ => 3 - (intOf xv).toNat)
      case atStart => exact ⟨0, by omega, rfl, I9⟩
      case round =>
        clear I9
        obtain ⟨x, hx, rfl, I⟩ := hrel
        by_cases hlt : x < 3
        · obtain ⟨v, m, hv, hm, hm61⟩ := HV.out x hlt
          obtain ⟨l0, hl0⟩ := I.out.own x v m (Nat.le_refl _) hv hm
          obtain ⟨a, c, ev, hmc, hcm, -⟩ := owned_slice hl0
          subst ev
          unfold maxLen at hcm
          have Hv : Hid (vs[x]? = some (.slice a m c)) := hv
          have Hm : Hid (ns[x]? = some m) := hm
          have hcx := I.out.cell x _ hv
          clear hv hm hl0
          go_wp2
          clear hcx
          go_loopw [60] (fun yv wr => ∃ y : Nat, y ≤ m ∧ yv = .int .i64 y ∧ Hid (OwI W wr tb vs ns x)) (fun yv _ => m - (intOf yv).toNat)
          case atStart => exact ⟨0, by omega, rfl, I⟩
          case round =>
            clear I
            obtain ⟨y, hy, rfl, I⟩ := hrel
            obtain ⟨l, hl⟩ := I.out.own x _ m (Nat.le_refl _) Hv.out Hm.out
            by_cases hym : y < m
            · obtain ⟨qo, co, eo, -, -, -⟩ := owned_shape hl (by omega)
              injection eo with e1 _ e3
              subst e1; subst e3
              have hyl : y < l.length := by rw [hl.len]; exact hym
              have hcy := hl.at (List.getElem?_eq_getElem hyl)
              have hfy := hl.fr y
              generalize l[y] = z at hcy
              obtain ⟨z2, hz2⟩ : ∃ z2, IntKind.i64.wrap (z + 5) = z2 := ⟨_, rfl⟩
              have I2 : Hid (OwI W (wr.setCell ⟨qo, y, none⟩ (.int .i64 z2)) tb vs ns x) := I.out.set Hv.out Hm.out hl y z2
              clear hl hyl I
              go_wp2
              go_roundw
              case rel => exact ⟨y + 1, by omega, by go_num, I2⟩
              case measure => simp [intOf]; omega
            · have HO : Hid (OwnZ W.heap.size wr (.slice a m c) m l) := hl
              clear hl
              go_wp2_with (at_builtin; refine wpList_addZ _ rfl (.tmp 70) (.tmp 71) rfl W.heap.size (.slice a m c) m l rfl (HO.out.alloc _) _ 1 [9] rfl (zs_one _ _ _) (by omega) (by have := I.out.b.size; simp; omega) ?_; intro ao cap w11 ho11 hg11 hat11 hnc11 hcm11)
              have I2 : Hid (OwI W w11 tb vs ns (x + 1)) := I.out.grow Hv.out Hm.out (below_alloc _ _) hg11
              clear ho11 hg11 hat11 I HO
              go_roundw
              case rel => exact ⟨x + 1, by omega, by go_num, I2⟩
              case measure => simp [intOf]; omega
        · have GF : Hid (IsGr wr gp rp S n q A vp rows) := G6.out.below I.out.b
          have BF : Hid (Below w.heap.size w wr) := below_on B6.out I.out.b
          have PF : Hid (FiveB wr w.heap.size n B q E F) := P6.out.below I.out.b
          clear I G6 B6 P6 HV
          have BX : Hid (∀ W, Below wr.heap.size wr W → Five W w.heap.size n B q E F) := fun W hW => (PF.out.below hW).five
          have CO : Hid (∀ W, Below wr.heap.size wr W → Calls Try.prog 28 #[.pointer (some ⟨gp, 0, none⟩), .int .i64 kk] W fun e w' => ∃ v, e = .returned v ∧ IsOz wr.heap.size q (ofD S A q kk) v w' ∧ Below W.heap.size W w') := by
            intro W hW
            refine (oof_yes gp rp S n q A kk vp rows W (GF.out.below hW) OK.out hkn).mono ?_
            rintro e w' ⟨a, c, rfl, ho, hb⟩
            exact ⟨_, rfl, ⟨a, c, rfl, ho.mono hW.size⟩, hb⟩
          have CR : Hid (∀ W, Below wr.heap.size wr W → Calls Try.prog 29 #[.agg #[.int .i64 n, .int .i64 B, .int .i64 q, .int .i64 E, .int .i64 F], .int .u64 S, .int .i64 kk] W fun e w' => ∃ v, e = .returned v ∧ IsOz wr.heap.size q (ofD S A q kk) v w' ∧ Below W.heap.size W w') := by
            intro W hW
            refine (CRO.out W kk (by omega)).mono ?_
            rintro e w' ⟨a, c, rfl, ho, hb⟩
            exact ⟨_, rfl, ⟨a, c, rfl, ho.mono hW.size⟩, hb⟩
          have CE : Hid (∀ W, Below wr.heap.size wr W → Calls Try.prog 33 #[.pointer (some ⟨gp, 0, none⟩), .int .i64 jj] W fun e w' => ∃ v, e = .returned v ∧ IsOz wr.heap.size (rn + 1) (r ++ [(n : Int) + (jj : Int)]) v w' ∧ Below W.heap.size W w') := by
            intro W hW
            refine (oeq_yes gp rp S n q A jj rn vp rows r W (GF.out.below hW) (by omega) (by omega) HR.out HRN.out (by omega)).mono ?_
            rintro e w' ⟨a, c, rfl, ho, hb⟩
            exact ⟨_, rfl, ⟨a, c, rfl, ho.mono hW.size⟩, hb⟩
          have CQ : Hid (∀ W, Below wr.heap.size wr W → Calls Try.prog 30 #[.agg #[.int .i64 n, .int .i64 B, .int .i64 q, .int .i64 E, .int .i64 F], .int .u64 S] W fun e w' => ∃ v, e = .returned v ∧ IsEx jj (rn + 1) A (r ++ [(n : Int) + (jj : Int)]) v w' ∧ Below W.heap.size W w') := by
            intro W hW
            refine (CEq0.out W).mono ?_
            rintro e w' ⟨oa, oc, b9, qb9, vs9, vE, rfl, hE⟩
            obtain ⟨eb, ec, ee, -, hec, hem⟩ := owned_shape hE.o (by omega)
            injection ee with e1 _ e3
            subst e1; subst e3
            have hjE : jj < vE.length := by rw [hE.len]; exact hjA
            have hvE : vE[jj]? = some vE[jj] := List.getElem?_eq_getElem hjE
            have hOE := hE.rd jj _ _ hvE (eqTo_at HR.out hjA)
            have hcE : w'.cell? ⟨eb, jj, none⟩ = some vE[jj] := by
              have := World.ownsRow.cellAt hE.o jj (by omega)
              rw [hvE] at this
              exact this
            rw [List.length_append, HRN.out] at hOE
            obtain ⟨aE, cE, eE, -⟩ := owned_slice hOE
            rw [eE] at hcE hOE
            exact ⟨_, rfl, ⟨eb, _, aE, cE, rfl, hcE, hOE.zs⟩, hE.b⟩
          have CHs : Hid (∀ W, Below wr.heap.size wr W → Calls Try.prog 32 #[.pointer (some ⟨gp, 0, none⟩), .int .i64 jj] W fun e w' => ∃ v, e = .returned v ∧ IsOz wr.heap.size rn r v w' ∧ Below W.heap.size W w') := by
            intro W hW
            refine (ohas_yes gp rp S n q A jj rn vp rows r W (GF.out.below hW) (by omega) HR.out HRN.out (by omega)).mono ?_
            rintro e w' ⟨a, c, rfl, ho, hb⟩
            exact ⟨_, rfl, ⟨a, c, rfl, ho.mono hW.size⟩, hb⟩
          have CHr : Hid (∀ W, Below wr.heap.size wr W → Calls Try.prog 31 #[.agg #[.int .i64 n, .int .i64 B, .int .i64 q, .int .i64 E, .int .i64 F], .int .u64 S] W fun e w' => ∃ v, e = .returned v ∧ IsEx jj rn A r v w' ∧ Below W.heap.size W w') := by
            intro W hW
            refine (CH0.out W).mono ?_
            rintro e w' ⟨qb, vs2, rfl, hf, hb⟩
            have hjE : jj < vs2.length := by rw [hf.lv]; exact hjA
            have hvE : vs2[jj]? = some vs2[jj] := List.getElem?_eq_getElem hjE
            have hOE := hf.own jj _ _ hvE HR.out
            have hcE := hf.cell hvE
            rw [HRN.out] at hOE
            obtain ⟨aE, cE, eE, -⟩ := owned_slice hOE
            rw [eE] at hcE hOE
            exact ⟨_, rfl, ⟨qb, _, aE, cE, rfl, hcE, hOE.zs⟩, hb⟩
          have CY1 : Hid (∀ W v u, Below wr.heap.size wr W → IsOz wr.heap.size q (ofD S A q kk) v W → IsOz wr.heap.size q (ofD S A q kk) u W → Calls Try.prog 17 #[v, u] W fun e w' => ∃ x, e = .returned x ∧ IsV (.int .i64 1) x w' ∧ Below W.heap.size W w') := fun W v u _ h1 h2 => Same.of h1.zs h2.zs
          have CY2 : Hid (∀ W v u, Below wr.heap.size wr W → IsOz wr.heap.size (rn + 1) (r ++ [(n : Int) + (jj : Int)]) v W → IsZq (rn + 1) (r ++ [(n : Int) + (jj : Int)]) u W → Calls Try.prog 17 #[v, u] W fun e w' => ∃ x, e = .returned x ∧ IsV (.int .i64 1) x w' ∧ Below W.heap.size W w') := fun W v u _ h1 h2 => Same.of h1.zs h2.zs
          have CY3 : Hid (∀ W v u, Below wr.heap.size wr W → IsOz wr.heap.size rn r v W → IsZq rn r u W → Calls Try.prog 17 #[v, u] W fun e w' => ∃ x, e = .returned x ∧ IsV (.int .i64 1) x w' ∧ Below W.heap.size W w') := fun W v u _ h1 h2 => Same.of h1.zs h2.zs
          generalize ofD S A q kk = lk at *
          generalize r ++ [(n : Int) + (jj : Int)] = le at *
          clear HR HRN GF PF OK CEq0 CH0 CRO
          go_upto_region 20 with fail
          refine wp_region_any (by kernel_rfl) ?_
          obtain ⟨gs, hgs⟩ : ∃ gs : List (Value → World → Prop), gs = [IsV (Value.pointer (some { block := gp, off := 0 })), IsV (Value.int IntKind.i64 ↑kk), IsOz wr.heap.size q lk, IsV (.agg #[.int .i64 (n : Int), .int .i64 B, .int .i64 (q : Int), .int .i64 E, .int .i64 F]), IsV (Value.int IntKind.u64 ↑S), IsV (Value.int IntKind.i64 ↑kk), IsOz wr.heap.size q lk, IsV (.int .i64 1), IsV (.bool true), IsV (.bool true), IsV (Value.pointer (some { block := gp, off := 0 })), IsV (Value.int IntKind.i64 ↑jj), IsOz wr.heap.size (rn + 1) le, IsV (.agg #[.int .i64 (n : Int), .int .i64 B, .int .i64 (q : Int), .int .i64 E, .int .i64 F]), IsV (Value.int IntKind.u64 ↑S), IsEx jj (rn + 1) A le, IsV (Value.int IntKind.i64 ↑jj), IsPx jj (rn + 1) le, IsZq (rn + 1) le, IsV (.int .i64 1), IsV (.bool true), IsV (.bool true), IsV (.bool true), IsV (Value.pointer (some { block := gp, off := 0 })), IsV (Value.int IntKind.i64 ↑jj), IsOz wr.heap.size rn r, IsV (.agg #[.int .i64 (n : Int), .int .i64 B, .int .i64 (q : Int), .int .i64 E, .int .i64 F]), IsV (Value.int IntKind.u64 ↑S), IsEx jj rn A r, IsV (Value.int IntKind.i64 ↑jj), IsPx jj rn r, IsZq rn r, IsV (.int .i64 1), IsV (.bool true), IsV (.bool true), IsV (.bool true)] := ⟨_, rfl⟩
          have g0 : Hid (gs[0]? = some (IsV (Value.pointer (some { block := gp, off := 0 })))) := by unfold Hid; rw [hgs]; rfl
          have g1 : Hid (gs[1]? = some (IsV (Value.int IntKind.i64 ↑kk))) := by unfold Hid; rw [hgs]; rfl
          have g2 : Hid (gs[2]? = some (IsOz wr.heap.size q lk)) := by unfold Hid; rw [hgs]; rfl
          have g3 : Hid (gs[3]? = some (IsV (.agg #[.int .i64 (n : Int), .int .i64 B, .int .i64 (q : Int), .int .i64 E, .int .i64 F]))) := by unfold Hid; rw [hgs]; rfl
          have g4 : Hid (gs[4]? = some (IsV (Value.int IntKind.u64 ↑S))) := by unfold Hid; rw [hgs]; rfl
          have g5 : Hid (gs[5]? = some (IsV (Value.int IntKind.i64 ↑kk))) := by unfold Hid; rw [hgs]; rfl
          have g6 : Hid (gs[6]? = some (IsOz wr.heap.size q lk)) := by unfold Hid; rw [hgs]; rfl
          have g7 : Hid (gs[7]? = some (IsV (.int .i64 1))) := by unfold Hid; rw [hgs]; rfl
          have g8 : Hid (gs[8]? = some (IsV (.bool true))) := by unfold Hid; rw [hgs]; rfl
          have g9 : Hid (gs[9]? = some (IsV (.bool true))) := by unfold Hid; rw [hgs]; rfl
          have g10 : Hid (gs[10]? = some (IsV (Value.pointer (some { block := gp, off := 0 })))) := by unfold Hid; rw [hgs]; rfl
          have g11 : Hid (gs[11]? = some (IsV (Value.int IntKind.i64 ↑jj))) := by unfold Hid; rw [hgs]; rfl
          have g12 : Hid (gs[12]? = some (IsOz wr.heap.size (rn + 1) le)) := by unfold Hid; rw [hgs]; rfl
          have g13 : Hid (gs[13]? = some (IsV (.agg #[.int .i64 (n : Int), .int .i64 B, .int .i64 (q : Int), .int .i64 E, .int .i64 F]))) := by unfold Hid; rw [hgs]; rfl
          have g14 : Hid (gs[14]? = some (IsV (Value.int IntKind.u64 ↑S))) := by unfold Hid; rw [hgs]; rfl
          have g15 : Hid (gs[15]? = some (IsEx jj (rn + 1) A le)) := by unfold Hid; rw [hgs]; rfl
          have g16 : Hid (gs[16]? = some (IsV (Value.int IntKind.i64 ↑jj))) := by unfold Hid; rw [hgs]; rfl
          have g17 : Hid (gs[17]? = some (IsPx jj (rn + 1) le)) := by unfold Hid; rw [hgs]; rfl
          have g18 : Hid (gs[18]? = some (IsZq (rn + 1) le)) := by unfold Hid; rw [hgs]; rfl
          have g19 : Hid (gs[19]? = some (IsV (.int .i64 1))) := by unfold Hid; rw [hgs]; rfl
          have g20 : Hid (gs[20]? = some (IsV (.bool true))) := by unfold Hid; rw [hgs]; rfl
          have g21 : Hid (gs[21]? = some (IsV (.bool true))) := by unfold Hid; rw [hgs]; rfl
          have g22 : Hid (gs[22]? = some (IsV (.bool true))) := by unfold Hid; rw [hgs]; rfl
          have g23 : Hid (gs[23]? = some (IsV (Value.pointer (some { block := gp, off := 0 })))) := by unfold Hid; rw [hgs]; rfl
          have g24 : Hid (gs[24]? = some (IsV (Value.int IntKind.i64 ↑jj))) := by unfold Hid; rw [hgs]; rfl
          have g25 : Hid (gs[25]? = some (IsOz wr.heap.size rn r)) := by unfold Hid; rw [hgs]; rfl
          have g26 : Hid (gs[26]? = some (IsV (.agg #[.int .i64 (n : Int), .int .i64 B, .int .i64 (q : Int), .int .i64 E, .int .i64 F]))) := by unfold Hid; rw [hgs]; rfl
          have g27 : Hid (gs[27]? = some (IsV (Value.int IntKind.u64 ↑S))) := by unfold Hid; rw [hgs]; rfl
          have g28 : Hid (gs[28]? = some (IsEx jj rn A r)) := by unfold Hid; rw [hgs]; rfl
          have g29 : Hid (gs[29]? = some (IsV (Value.int IntKind.i64 ↑jj))) := by unfold Hid; rw [hgs]; rfl
          have g30 : Hid (gs[30]? = some (IsPx jj rn r)) := by unfold Hid; rw [hgs]; rfl
          have g31 : Hid (gs[31]? = some (IsZq rn r)) := by unfold Hid; rw [hgs]; rfl
          have g32 : Hid (gs[32]? = some (IsV (.int .i64 1))) := by unfold Hid; rw [hgs]; rfl
          have g33 : Hid (gs[33]? = some (IsV (.bool true))) := by unfold Hid; rw [hgs]; rfl
          have g34 : Hid (gs[34]? = some (IsV (.bool true))) := by unfold Hid; rw [hgs]; rfl
          have g35 : Hid (gs[35]? = some (IsV (.bool true))) := by unfold Hid; rw [hgs]; rfl
          have gk : Hid (∀ p ∈ gs, Stays p) := by
            unfold Hid
            rw [hgs]
            simp only [List.forall_mem_cons]
            exact ⟨stays_v _, stays_v _, stays_oz _ _ _, stays_v _, stays_v _, stays_v _, stays_oz _ _ _, stays_v _, stays_v _, stays_v _, stays_v _, stays_v _, stays_oz _ _ _, stays_v _, stays_v _, stays_ex _ _ _ _, stays_v _, stays_px _ _ _, stays_zq _ _, stays_v _, stays_v _, stays_v _, stays_v _, stays_v _, stays_v _, stays_oz _ _ _, stays_v _, stays_v _, stays_ex _ _ _ _, stays_v _, stays_px _ _ _, stays_zq _ _, stays_v _, stays_v _, stays_v _, stays_v _, by simp⟩
          clear hgs
          refine wpAny_inv (fun listed ac Wb => ∃ xvb : Nat → Value, ac = ⟨#[Value.agg #[Value.int IntKind.i64 N0, Value.int IntKind.i64 B, Value.int IntKind.i64 ↑q, Value.int IntKind.i64 E, Value.int IntKind.i64 F], Value.int IntKind.u64 ↑S, Value.int IntKind.u8 ↑iv, Value.pointer (some { block := w.heap.size, off := 0 }), undef, undef, xvb 35, Value.pointer (some { block := gp, off := 0 }), Value.int IntKind.i64 (0 : Int), Value.int IntKind.i64 ↑kk, Value.int IntKind.i64 ↑jj, undef, u12, u13, Value.bool true, Value.bool false, Value.agg #[Value.int IntKind.i64 N0, Value.int IntKind.i64 B, Value.int IntKind.i64 ↑q, Value.int IntKind.i64 E, Value.int IntKind.i64 F], Value.agg #[Value.int IntKind.i64 ↑n, Value.int IntKind.i64 B, Value.int IntKind.i64 ↑q, Value.int IntKind.i64 E, Value.int IntKind.i64 F], Value.agg #[Value.int IntKind.i64 ↑n, Value.int IntKind.i64 B, Value.int IntKind.i64 ↑q, Value.int IntKind.i64 E, Value.int IntKind.i64 F], Value.bool true, Value.bool false, Value.tuple #[Value.pointer (some { block := gp, off := 0 }), Value.int IntKind.i64 (0 : Int)], Value.agg #[Value.int IntKind.i64 ↑n, Value.int IntKind.i64 B, Value.int IntKind.i64 ↑q, Value.int IntKind.i64 E, Value.int IntKind.i64 F], Value.int IntKind.u64 ↑S, Value.tuple #[Value.pointer (some { block := gp, off := 0 }), Value.int IntKind.i64 (0 : Int)], Value.pointer (some { block := gp, off := 0 }), Value.int IntKind.i64 (0 : Int), Value.int IntKind.i64 (0 : Int), Value.bool false, Value.bool false, Value.pointer (some { block := gp, off := 0 }), Value.bool false, Value.bool false, xv 0, xv 1, xv 2, xv 3, xv 4, xv 5, xv 6, xv 7, xv 8, xv 9, Value.pointer (some { block := gp, off := 0 }), Value.int IntKind.i64 ↑kk, Value.slice a7 q k7, Value.pointer (some { block := gp, off := 0 }), Value.int IntKind.i64 ↑jj, Value.slice a8 rn k8, Value.pointer (some { block := gp, off := 0 }), Value.int IntKind.i64 ↑jj, Value.slice a9 (rn + 1) k9, Value.slice (some { block := tb, off := 0 }) 3 3, Value.int IntKind.i64 (3 : Int), Value.int IntKind.i64 ↑x, Value.bool (decide (↑x < (3 : Int))), u56, u57, u58, u59, u60, u61, u62, u63, u64, u65, u66, u67, u68, u69, u70, u71, u72, u73, xvb 0, xvb 1, xvb 2, xvb 3, xvb 4, xvb 5, xvb 6, xvb 7, xvb 8, xvb 9, xvb 10, xvb 11, xvb 12, xvb 13, xvb 14, xvb 15, xvb 16, xvb 17, xvb 18, xvb 19, xvb 20, xvb 21, xvb 22, xvb 23, xvb 24, xvb 25, xvb 26, xvb 27, xvb 28, xvb 29, xvb 30, xvb 31, xvb 32, xvb 33, xvb 34], []⟩ ∧ Below wr.heap.size wr Wb ∧ Lst gs listed xvb Wb) (by kernel_rfl) ?_ ?_ _ _ _ _ (by kernel_rfl) (of_decide_eq_true (by kernel_rfl)) ⟨fun j => if j = 35 then Value.bool false else undef, rfl, below0 _, Lst.start _ _ _ _⟩
          · rintro listed ac Wb ⟨xvb, rfl, hb, hG⟩ i hi hd
            have hin : i < 36 := hi
            clear hi
            have hcase : i = 0 ∨ i = 1 ∨ i = 2 ∨ i = 3 ∨ i = 4 ∨ i = 5 ∨ i = 6 ∨ i = 7 ∨ i = 8 ∨ i = 9 ∨ i = 10 ∨ i = 11 ∨ i = 12 ∨ i = 13 ∨ i = 14 ∨ i = 15 ∨ i = 16 ∨ i = 17 ∨ i = 18 ∨ i = 19 ∨ i = 20 ∨ i = 21 ∨ i = 22 ∨ i = 23 ∨ i = 24 ∨ i = 25 ∨ i = 26 ∨ i = 27 ∨ i = 28 ∨ i = 29 ∨ i = 30 ∨ i = 31 ∨ i = 32 ∨ i = 33 ∨ i = 34 ∨ i = 35 := by omega
            rcases hcase with rfl | rfl | rfl | rfl | rfl | rfl | rfl | rfl | rfl | rfl | rfl | rfl | rfl | rfl | rfl | rfl | rfl | rfl | rfl | rfl | rfl | rfl | rfl | rfl | rfl | rfl | rfl | rfl | rfl | rfl | rfl | rfl | rfl | rfl | rfl | rfl
            · refine wpOp_step rfl (fun K' hK => ?_)
              clear hd hin
              go_simp
              exact hK _ _ ⟨updV xvb 0 (Value.pointer (some { block := gp, off := 0 })), by simp [updV], hb, hG.same gk.out g0.out _ rfl⟩
            · refine wpOp_step rfl (fun K' hK => ?_)
              clear hd hin
              go_simp
              exact hK _ _ ⟨updV xvb 1 (Value.int IntKind.i64 ↑kk), by simp [updV], hb, hG.same gk.out g1.out _ rfl⟩
            · refine wpOp_step rfl (fun K' hK => ?_)
              simp [Region.binds] at hd
              have e0 : xvb 0 = Value.pointer (some { block := gp, off := 0 }) := hG.get g0.out (by simp [hd])
              have e1 : xvb 1 = Value.int IntKind.i64 ↑kk := hG.get g1.out (by simp [hd])
              clear hd hin
              go_simp
              refine (CO.out Wb hb).mono ?_
              rintro e w' ⟨v, rfl, hv, hb'⟩
              go_wp2_with fail
              exact ⟨updV xvb 2 v, by simp [updV, e0, e1], hb.trans (hb'.mono hb.size), hG.step gk.out hb' g2.out v hv⟩
            · refine wpOp_step rfl (fun K' hK => ?_)
              obtain ⟨c0, c1, c2, c3, c4⟩ := BX.out Wb hb
              clear hd hin
              go_simp
              exact hK _ _ ⟨updV xvb 3 (.agg #[.int .i64 (n : Int), .int .i64 B, .int .i64 (q : Int), .int .i64 E, .int .i64 F]), by simp [updV], hb, hG.same gk.out g3.out _ rfl⟩
            · refine wpOp_step rfl (fun K' hK => ?_)
              clear hd hin
              go_simp
              exact hK _ _ ⟨updV xvb 4 (Value.int IntKind.u64 ↑S), by simp [updV], hb, hG.same gk.out g4.out _ rfl⟩
            · refine wpOp_step rfl (fun K' hK => ?_)
              clear hd hin
              go_simp
              exact hK _ _ ⟨updV xvb 5 (Value.int IntKind.i64 ↑kk), by simp [updV], hb, hG.same gk.out g5.out _ rfl⟩
            · refine wpOp_step rfl (fun K' hK => ?_)
              simp [Region.binds] at hd
              have e3 : xvb 3 = .agg #[.int .i64 (n : Int), .int .i64 B, .int .i64 (q : Int), .int .i64 E, .int .i64 F] := hG.get g3.out (by simp [hd])
              have e4 : xvb 4 = Value.int IntKind.u64 ↑S := hG.get g4.out (by simp [hd])
              have e5 : xvb 5 = Value.int IntKind.i64 ↑kk := hG.get g5.out (by simp [hd])
              clear hd hin
              go_simp
              refine (CR.out Wb hb).mono ?_
              rintro e w' ⟨v, rfl, hv, hb'⟩
              go_wp2_with fail
              exact ⟨updV xvb 6 v, by simp [updV, e3, e4, e5], hb.trans (hb'.mono hb.size), hG.step gk.out hb' g6.out v hv⟩
            · refine wpOp_step rfl (fun K' hK => ?_)
              simp [Region.binds] at hd
              have m2 : IsOz wr.heap.size q lk (xvb 2) Wb := hG.get g2.out (by simp [hd])
              have m6 : IsOz wr.heap.size q lk (xvb 6) Wb := hG.get g6.out (by simp [hd])
              clear hd hin
              go_simp
              refine (CY1.out Wb _ _ hb m2 m6).mono ?_
              rintro e w' ⟨v, rfl, hv, hb'⟩
              go_wp2_with fail
              exact ⟨updV xvb 7 v, by simp [updV], hb.trans (hb'.mono hb.size), hG.step gk.out hb' g7.out v hv⟩
            · refine wpOp_step rfl (fun K' hK => ?_)
              simp [Region.binds] at hd
              have e7 : xvb 7 = .int .i64 1 := hG.get g7.out (by simp [hd])
              clear hd hin
              go_simp
              exact hK _ _ ⟨updV xvb 8 (.bool true), by simp [updV, e7], hb, hG.same gk.out g8.out _ rfl⟩
            · refine wpOp_step rfl (fun K' hK => ?_)
              simp [Region.binds] at hd
              have e8 : xvb 8 = .bool true := hG.get g8.out (by simp [hd])
              clear hd hin
              go_simp
              exact hK _ _ ⟨updV xvb 9 (.bool true), by simp [updV, e8], hb, hG.same gk.out g9.out _ rfl⟩
            · refine wpOp_step rfl (fun K' hK => ?_)
              simp [Region.binds] at hd
              have e9 : xvb 9 = .bool true := hG.get g9.out (by simp [hd])
              clear hd hin
              go_simp
              exact hK _ _ ⟨updV xvb 10 (Value.pointer (some { block := gp, off := 0 })), by simp [updV, e9], hb, hG.same gk.out g10.out _ rfl⟩
            · refine wpOp_step rfl (fun K' hK => ?_)
              simp [Region.binds] at hd
              have e9 : xvb 9 = .bool true := hG.get g9.out (by simp [hd])
              clear hd hin
              go_simp
              exact hK _ _ ⟨updV xvb 11 (Value.int IntKind.i64 ↑jj), by simp [updV, e9], hb, hG.same gk.out g11.out _ rfl⟩
            · refine wpOp_step rfl (fun K' hK => ?_)
              simp [Region.binds] at hd
              have e10 : xvb 10 = Value.pointer (some { block := gp, off := 0 }) := hG.get g10.out (by simp [hd])
              have e11 : xvb 11 = Value.int IntKind.i64 ↑jj := hG.get g11.out (by simp [hd])
              have e9 : xvb 9 = .bool true := hG.get g9.out (by simp [hd])
              clear hd hin
              go_simp
              refine (CE.out Wb hb).mono ?_
              rintro e w' ⟨v, rfl, hv, hb'⟩
              go_wp2_with fail
              exact ⟨updV xvb 12 v, by simp [updV, e10, e11, e9], hb.trans (hb'.mono hb.size), hG.step gk.out hb' g12.out v hv⟩
            · refine wpOp_step rfl (fun K' hK => ?_)
              simp [Region.binds] at hd
              have e9 : xvb 9 = .bool true := hG.get g9.out (by simp [hd])
              obtain ⟨c0, c1, c2, c3, c4⟩ := BX.out Wb hb
              clear hd hin
              go_simp
              exact hK _ _ ⟨updV xvb 13 (.agg #[.int .i64 (n : Int), .int .i64 B, .int .i64 (q : Int), .int .i64 E, .int .i64 F]), by simp [updV, e9], hb, hG.same gk.out g13.out _ rfl⟩
            · refine wpOp_step rfl (fun K' hK => ?_)
              simp [Region.binds] at hd
              have e9 : xvb 9 = .bool true := hG.get g9.out (by simp [hd])
              clear hd hin
              go_simp
              exact hK _ _ ⟨updV xvb 14 (Value.int IntKind.u64 ↑S), by simp [updV, e9], hb, hG.same gk.out g14.out _ rfl⟩
            · refine wpOp_step rfl (fun K' hK => ?_)
              simp [Region.binds] at hd
              have e13 : xvb 13 = .agg #[.int .i64 (n : Int), .int .i64 B, .int .i64 (q : Int), .int .i64 E, .int .i64 F] := hG.get g13.out (by simp [hd])
              have e14 : xvb 14 = Value.int IntKind.u64 ↑S := hG.get g14.out (by simp [hd])
              have e9 : xvb 9 = .bool true := hG.get g9.out (by simp [hd])
              clear hd hin
              go_simp
              refine (CQ.out Wb hb).mono ?_
              rintro e w' ⟨v, rfl, hv, hb'⟩
              go_wp2_with fail
              exact ⟨updV xvb 15 v, by simp [updV, e13, e14, e9], hb.trans (hb'.mono hb.size), hG.step gk.out hb' g15.out v hv⟩
            · refine wpOp_step rfl (fun K' hK => ?_)
              simp [Region.binds] at hd
              have e9 : xvb 9 = .bool true := hG.get g9.out (by simp [hd])
              clear hd hin
              go_simp
              exact hK _ _ ⟨updV xvb 16 (Value.int IntKind.i64 ↑jj), by simp [updV, e9], hb, hG.same gk.out g16.out _ rfl⟩
            · refine wpOp_step rfl (fun K' hK => ?_)
              simp [Region.binds] at hd
              have m15 : IsEx jj (rn + 1) A le (xvb 15) Wb := hG.get g15.out (by simp [hd])
              have e16 : xvb 16 = Value.int IntKind.i64 ↑jj := hG.get g16.out (by simp [hd])
              have e9 : xvb 9 = .bool true := hG.get g9.out (by simp [hd])
              obtain ⟨eb, ec, aE, cE, e15, hc15, hz15⟩ := m15
              clear hd hin
              go_simp
              exact hK _ _ ⟨updV xvb 17 (.pointer (some ⟨eb, jj, none⟩)), by simp [updV, e15, e16, e9], hb, hG.same gk.out g17.out _ ⟨eb, aE, cE, rfl, hc15, hz15⟩⟩
            · refine wpOp_step rfl (fun K' hK => ?_)
              simp [Region.binds] at hd
              have m17 : IsPx jj (rn + 1) le (xvb 17) Wb := hG.get g17.out (by simp [hd])
              have e9 : xvb 9 = .bool true := hG.get g9.out (by simp [hd])
              obtain ⟨eb, aE, cE, e17, hc17, hz17⟩ := m17
              clear hd hin
              go_simp
              exact hK _ _ ⟨updV xvb 18 (.slice aE (rn + 1) cE), by simp [updV, e17, e9], hb, hG.same gk.out g18.out _ ⟨aE, cE, rfl, hz17⟩⟩
            · refine wpOp_step rfl (fun K' hK => ?_)
              simp [Region.binds] at hd
              have m12 : IsOz wr.heap.size (rn + 1) le (xvb 12) Wb := hG.get g12.out (by simp [hd])
              have m18 : IsZq (rn + 1) le (xvb 18) Wb := hG.get g18.out (by simp [hd])
              have e9 : xvb 9 = .bool true := hG.get g9.out (by simp [hd])
              clear hd hin
              go_simp
              refine (CY2.out Wb _ _ hb m12 m18).mono ?_
              rintro e w' ⟨v, rfl, hv, hb'⟩
              go_wp2_with fail
              exact ⟨updV xvb 19 v, by simp [updV, e9], hb.trans (hb'.mono hb.size), hG.step gk.out hb' g19.out v hv⟩
            · refine wpOp_step rfl (fun K' hK => ?_)
              simp [Region.binds] at hd
              have e19 : xvb 19 = .int .i64 1 := hG.get g19.out (by simp [hd])
              have e9 : xvb 9 = .bool true := hG.get g9.out (by simp [hd])
              clear hd hin
              go_simp
              exact hK _ _ ⟨updV xvb 20 (.bool true), by simp [updV, e19, e9], hb, hG.same gk.out g20.out _ rfl⟩
            · refine wpOp_step rfl (fun K' hK => ?_)
              simp [Region.binds] at hd
              have e9 : xvb 9 = .bool true := hG.get g9.out (by simp [hd])
              have e20 : xvb 20 = .bool true := hG.get g20.out (by simp [hd])
              clear hd hin
              go_simp
              exact hK _ _ ⟨updV xvb 21 (.bool true), by simp [updV, e9, e20], hb, hG.same gk.out g21.out _ rfl⟩
            · refine wpOp_step rfl (fun K' hK => ?_)
              simp [Region.binds] at hd
              have e21 : xvb 21 = .bool true := hG.get g21.out (by simp [hd])
              clear hd hin
              go_simp
              exact hK _ _ ⟨updV xvb 22 (.bool true), by simp [updV, e21], hb, hG.same gk.out g22.out _ rfl⟩
            · refine wpOp_step rfl (fun K' hK => ?_)
              simp [Region.binds] at hd
              have e22 : xvb 22 = .bool true := hG.get g22.out (by simp [hd])
              clear hd hin
              go_simp
              exact hK _ _ ⟨updV xvb 23 (Value.pointer (some { block := gp, off := 0 })), by simp [updV, e22], hb, hG.same gk.out g23.out _ rfl⟩
            · refine wpOp_step rfl (fun K' hK => ?_)
              simp [Region.binds] at hd
              have e22 : xvb 22 = .bool true := hG.get g22.out (by simp [hd])
              clear hd hin
              go_simp
              exact hK _ _ ⟨updV xvb 24 (Value.int IntKind.i64 ↑jj), by simp [updV, e22], hb, hG.same gk.out g24.out _ rfl⟩
            · refine wpOp_step rfl (fun K' hK => ?_)
              simp [Region.binds] at hd
              have e23 : xvb 23 = Value.pointer (some { block := gp, off := 0 }) := hG.get g23.out (by simp [hd])
              have e24 : xvb 24 = Value.int IntKind.i64 ↑jj := hG.get g24.out (by simp [hd])
              have e22 : xvb 22 = .bool true := hG.get g22.out (by simp [hd])
              clear hd hin
              go_simp
              refine (CHs.out Wb hb).mono ?_
              rintro e w' ⟨v, rfl, hv, hb'⟩
              go_wp2_with fail
              exact ⟨updV xvb 25 v, by simp [updV, e23, e24, e22], hb.trans (hb'.mono hb.size), hG.step gk.out hb' g25.out v hv⟩
            · refine wpOp_step rfl (fun K' hK => ?_)
              simp [Region.binds] at hd
              have e22 : xvb 22 = .bool true := hG.get g22.out (by simp [hd])
              obtain ⟨c0, c1, c2, c3, c4⟩ := BX.out Wb hb
              clear hd hin
              go_simp
              exact hK _ _ ⟨updV xvb 26 (.agg #[.int .i64 (n : Int), .int .i64 B, .int .i64 (q : Int), .int .i64 E, .int .i64 F]), by simp [updV, e22], hb, hG.same gk.out g26.out _ rfl⟩
            · refine wpOp_step rfl (fun K' hK => ?_)
              simp [Region.binds] at hd
              have e22 : xvb 22 = .bool true := hG.get g22.out (by simp [hd])
              clear hd hin
              go_simp
              exact hK _ _ ⟨updV xvb 27 (Value.int IntKind.u64 ↑S), by simp [updV, e22], hb, hG.same gk.out g27.out _ rfl⟩
            · refine wpOp_step rfl (fun K' hK => ?_)
              simp [Region.binds] at hd
              have e26 : xvb 26 = .agg #[.int .i64 (n : Int), .int .i64 B, .int .i64 (q : Int), .int .i64 E, .int .i64 F] := hG.get g26.out (by simp [hd])
              have e27 : xvb 27 = Value.int IntKind.u64 ↑S := hG.get g27.out (by simp [hd])
              have e22 : xvb 22 = .bool true := hG.get g22.out (by simp [hd])
              clear hd hin
              go_simp
              refine (CHr.out Wb hb).mono ?_
              rintro e w' ⟨v, rfl, hv, hb'⟩
              go_wp2_with fail
              exact ⟨updV xvb 28 v, by simp [updV, e26, e27, e22], hb.trans (hb'.mono hb.size), hG.step gk.out hb' g28.out v hv⟩
            · refine wpOp_step rfl (fun K' hK => ?_)
              simp [Region.binds] at hd
              have e22 : xvb 22 = .bool true := hG.get g22.out (by simp [hd])
              clear hd hin
              go_simp
              exact hK _ _ ⟨updV xvb 29 (Value.int IntKind.i64 ↑jj), by simp [updV, e22], hb, hG.same gk.out g29.out _ rfl⟩
            · refine wpOp_step rfl (fun K' hK => ?_)
              simp [Region.binds] at hd
              have m28 : IsEx jj rn A r (xvb 28) Wb := hG.get g28.out (by simp [hd])
              have e29 : xvb 29 = Value.int IntKind.i64 ↑jj := hG.get g29.out (by simp [hd])
              have e22 : xvb 22 = .bool true := hG.get g22.out (by simp [hd])
              obtain ⟨eb, ec, aE, cE, e28, hc28, hz28⟩ := m28
              clear hd hin
              go_simp
              exact hK _ _ ⟨updV xvb 30 (.pointer (some ⟨eb, jj, none⟩)), by simp [updV, e28, e29, e22], hb, hG.same gk.out g30.out _ ⟨eb, aE, cE, rfl, hc28, hz28⟩⟩
            · refine wpOp_step rfl (fun K' hK => ?_)
              simp [Region.binds] at hd
              have m30 : IsPx jj rn r (xvb 30) Wb := hG.get g30.out (by simp [hd])
              have e22 : xvb 22 = .bool true := hG.get g22.out (by simp [hd])
              obtain ⟨eb, aE, cE, e30, hc30, hz30⟩ := m30
              clear hd hin
              go_simp
              exact hK _ _ ⟨updV xvb 31 (.slice aE rn cE), by simp [updV, e30, e22], hb, hG.same gk.out g31.out _ ⟨aE, cE, rfl, hz30⟩⟩
            · refine wpOp_step rfl (fun K' hK => ?_)
              simp [Region.binds] at hd
              have m25 : IsOz wr.heap.size rn r (xvb 25) Wb := hG.get g25.out (by simp [hd])
              have m31 : IsZq rn r (xvb 31) Wb := hG.get g31.out (by simp [hd])
              have e22 : xvb 22 = .bool true := hG.get g22.out (by simp [hd])
              clear hd hin
              go_simp
              refine (CY3.out Wb _ _ hb m25 m31).mono ?_
              rintro e w' ⟨v, rfl, hv, hb'⟩
              go_wp2_with fail
              exact ⟨updV xvb 32 v, by simp [updV, e22], hb.trans (hb'.mono hb.size), hG.step gk.out hb' g32.out v hv⟩
            · refine wpOp_step rfl (fun K' hK => ?_)
              simp [Region.binds] at hd
              have e32 : xvb 32 = .int .i64 1 := hG.get g32.out (by simp [hd])
              have e22 : xvb 22 = .bool true := hG.get g22.out (by simp [hd])
              clear hd hin
              go_simp
              exact hK _ _ ⟨updV xvb 33 (.bool true), by simp [updV, e32, e22], hb, hG.same gk.out g33.out _ rfl⟩
            · refine wpOp_step rfl (fun K' hK => ?_)
              simp [Region.binds] at hd
              have e22 : xvb 22 = .bool true := hG.get g22.out (by simp [hd])
              have e33 : xvb 33 = .bool true := hG.get g33.out (by simp [hd])
              clear hd hin
              go_simp
              exact hK _ _ ⟨updV xvb 34 (.bool true), by simp [updV, e22, e33], hb, hG.same gk.out g34.out _ rfl⟩
            · refine wpOp_step rfl (fun K' hK => ?_)
              simp [Region.binds] at hd
              have e34 : xvb 34 = .bool true := hG.get g34.out (by simp [hd])
              clear hd hin
              go_simp
              exact hK _ _ ⟨updV xvb 35 (.bool true), by simp [updV, e34], hb, hG.same gk.out g35.out _ rfl⟩
          · rintro listed ac Wb ⟨xvb, rfl, hb, hG⟩ hall
            have e35 : xvb 35 = .bool true := hG.get g35.out (hall 35 (by decide))
            have XW : Hid (Below wr.heap.size wr Wb) := hb
            clear hall hG hb gk g0 g1 g2 g3 g4 g5 g6 g7 g8 g9 g10 g11 g12 g13 g14 g15 g16 g17 g18 g19 g20 g21 g22 g23 g24 g25 g26 g27 g28 g29 g30 g31 g32 g33 g34 g35
            rw [e35]
            clear e35
            have BL : Hid (Below w.heap.size w Wb) := below_on BF.out XW.out
            clear XW
            go_wp2
            go_ret
            exact ⟨rfl, BL.out⟩
  · have MP : Hid (∀ W, Calls Try.prog 24 #[.agg #[.int .i64 N, .int .i64 B, .int .i64 Q, .int .i64 E, .int .i64 F]] W fun e w' => e = .returned (.bool false) ∧ Below W.heap.size W w') := fun W => rmay_no N B Q E F W hp
    clear hp
    go_wp2_with fail
    refine (MP.out _).mono ?_
    rintro e w4 ⟨rfl, hb4⟩
    have B4 : Hid (Below w.heap.size w w4) := below_on B3.out hb4
    clear hb4
    go_wp2
    go_ret
    exact ⟨rfl, B4.out⟩

theorem outerOwn_law (N B Q E F : Int) (S i : Int) (w : World) (h : Ok .i64 N ∧ Ok .i64 B ∧ Ok .i64 Q ∧ Ok .i64 E ∧ Ok .i64 F) (hS : (Lit.int .u64 S).wf = true) (hi : (Lit.int .u8 i).wf = true) :
    Calls Try.prog 8 #[.agg #[.int .i64 N, .int .i64 B, .int .i64 Q, .int .i64 E, .int .i64 F], .int .u64 S, .int .u8 i] w fun e w' => e = .returned (.bool true) ∧ Below w.heap.size w w' := by
  simp [Lit.wf, IntKind.min, IntKind.max, IntKind.bits, IntKind.signed] at hS hi
  obtain ⟨s, rfl⟩ : ∃ s : Nat, S = s := ⟨S.toNat, by omega⟩
  obtain ⟨k, rfl⟩ : ∃ k : Nat, i = k := ⟨i.toNat, by omega⟩
  exact outerOwn_walk N B Q E F s k w (by omega) (by omega)

end Go.Proofs.Ythlladpappldbaa
