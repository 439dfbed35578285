/-
  emit: an encoder as it lies; New.
-/
import Derived.Test.YtkckbeekehecnaaGreatCAddsM
import Derived.Test.YtkckbeekehecnaaGreatZIn
import Derived.Test.YtkckbeekehecnaaGreatZFr
namespace Go.Proofs.YtkckbeekehecnaaGreat
open Go.RowKit
set_option linter.unusedVariables false

/-- An encoder at a block. -/
structure IsEnc (B0 : Nat) (W : World) (p a t co g : Nat) (S N B Q E F L K : Nat) (ca : Option Addr) (cc : Nat) (vs : List Value) (D : List (List UInt8)) : Prop where
  c : W.heap[p]? = some (.cells #[.pointer (some ⟨a, 0, none⟩), .pointer (some ⟨co, 0, none⟩), .int .u64 (S : Int), .int .i64 (N : Int), .int .i64 (B : Int), .int .i64 (Q : Int), .int .i64 (E : Int), .int .i64 (F : Int), .int .i64 (L : Int), .int .u64 0, .slice ca K cc] 68 (0, 0))
  src : IsSrc W a t F E S K
  cod : IsCo W co g
  row : W.ownsRow B0 25 1 (.slice ca K cc) K vs
  bl : RowsB B0 W vs D
  hp : B0 ≤ p
  ha : B0 ≤ a
  ht : B0 ≤ t
  hc : B0 ≤ co
  hg : B0 ≤ g

theorem cell_kept {W W' : World} {B0 b i : Nat} {u : Value} (hk : ∀ k, B0 ≤ k → k < W.heap.size → W'.heap[k]? = W.heap[k]?) (hb : B0 ≤ b) (h : W.cell? ⟨b, i, none⟩ = some u) : W'.cell? ⟨b, i, none⟩ = some u :=
  (World.cell?_of_block (a := ⟨b, i, none⟩) (hk b hb (cell_block_lt h))).trans h
/-- What lies from B0 on is kept. -/
theorem IsEnc.kept {B0 : Nat} {W W' : World} {p a t co g : Nat} {S N B Q E F L K : Nat} {ca : Option Addr} {cc : Nat} {vs : List Value} {D : List (List UInt8)} (h : IsEnc B0 W p a t co g S N B Q E F L K ca cc vs D) (hk : ∀ k, B0 ≤ k → k < W.heap.size → W'.heap[k]? = W.heap[k]?) : IsEnc B0 W' p a t co g S N B Q E F L K ca cc vs D :=
  ⟨(hk p h.hp (Array.getElem?_eq_some_iff.1 h.c).1).trans h.c,
   ⟨cell_kept hk h.ha h.src.c0, cell_kept hk h.ha h.src.c1, cell_kept hk h.ha h.src.c2, h.src.dt.kept (hk t h.ht (cell_block_lt h.src.dt.c0))⟩,
   ⟨cell_kept hk h.hc h.cod.1, fun i hi => cell_kept hk h.hg (h.cod.2 i hi)⟩,
   owns_kept h.row (fun q hq => hk q (h.row.lt q hq).1 (h.row.lt q hq).2),
   ⟨h.bl.1, fun i v l hv hl => (h.bl.2 i v l hv hl).kept (fun q hq => hk q ((h.bl.2 i v l hv hl).lt q hq).1 ((h.bl.2 i v l hv hl).lt q hq).2)⟩, h.hp, h.ha, h.ht, h.hc, h.hg⟩
theorem IsEnc.below {B0 : Nat} {W W' : World} {p a t co g : Nat} {S N B Q E F L K : Nat} {ca : Option Addr} {cc : Nat} {vs : List Value} {D : List (List UInt8)} (h : IsEnc B0 W p a t co g S N B Q E F L K ca cc vs D) (hb : Below W.heap.size W W') : IsEnc B0 W' p a t co g S N B Q E F L K ca cc vs D := h.kept (fun k _ hk => hb.block k hk)
/-- An encoder, all that it is made of hidden. -/
def Enc (B0 : Nat) (W : World) (p S N B Q E F L K : Nat) (D : List (List UInt8)) : Prop := ∃ a t co g ca cc vs, IsEnc B0 W p a t co g S N B Q E F L K ca cc vs D
theorem Enc.kept {B0 : Nat} {W W' : World} {p S N B Q E F L K : Nat} {D : List (List UInt8)} (h : Enc B0 W p S N B Q E F L K D) (hk : ∀ k, B0 ≤ k → k < W.heap.size → W'.heap[k]? = W.heap[k]?) : Enc B0 W' p S N B Q E F L K D := by
  obtain ⟨a, t, co, g, ca, cc, vs, h⟩ := h
  exact ⟨a, t, co, g, ca, cc, vs, h.kept hk⟩
theorem Enc.below {B0 : Nat} {W W' : World} {p S N B Q E F L K : Nat} {D : List (List UInt8)} (h : Enc B0 W p S N B Q E F L K D) (hb : Below W.heap.size W W') : Enc B0 W' p S N B Q E F L K D := h.kept (fun k _ hk => hb.block k hk)

/-- An encoder's cells. -/
def EncC (W : World) (p a co S N B Q E F L K : Nat) (ca : Option Addr) (cc : Nat) : Prop := W.cell? ⟨p, 0, none⟩ = some (.pointer (some ⟨a, 0, none⟩)) ∧ W.cell? ⟨p, 1, none⟩ = some (.pointer (some ⟨co, 0, none⟩)) ∧ W.cell? ⟨p, 2, none⟩ = some (.int .u64 (S : Int)) ∧ W.cell? ⟨p, 3, none⟩ = some (.int .i64 (N : Int)) ∧ W.cell? ⟨p, 4, none⟩ = some (.int .i64 (B : Int)) ∧ W.cell? ⟨p, 5, none⟩ = some (.int .i64 (Q : Int)) ∧ W.cell? ⟨p, 6, none⟩ = some (.int .i64 (E : Int)) ∧ W.cell? ⟨p, 7, none⟩ = some (.int .i64 (F : Int)) ∧ W.cell? ⟨p, 8, none⟩ = some (.int .i64 (L : Int)) ∧ W.cell? ⟨p, 9, none⟩ = some (.int .u64 0) ∧ W.cell? ⟨p, 10, none⟩ = some (.slice ca K cc)
theorem IsEnc.cells {B0 : Nat} {W : World} {p a t co g : Nat} {S N B Q E F L K : Nat} {ca : Option Addr} {cc : Nat} {vs : List Value} {D : List (List UInt8)} (h : IsEnc B0 W p a t co g S N B Q E F L K ca cc vs D) : EncC W p a co S N B Q E F L K ca cc := by
  have := h.c
  unfold EncC
  refine ⟨?_, ?_, ?_, ?_, ?_, ?_, ?_, ?_, ?_, ?_, ?_⟩ <;> simp [World.cell?, this]

set_option maxRecDepth 100000 in
set_option maxHeartbeats 1000000 in
/-- inner's New: all of it is new memory. -/
theorem inew_own (N B Q : Int) (E F S A : Nat) (w : World) (h : May N B Q (E : Nat) (F : Nat)) (hA : N + aux N Q (E : Nat) = (A : Int)) :
    Calls Tryz.prog 18 #[.agg #[.int .i64 N, .int .i64 B, .int .i64 Q, .int .i64 (E : Nat), .int .i64 (F : Nat)], .int .u64 S] w fun e w' => ∃ a t, e = .returned (.tuple #[.pointer (some ⟨a, 0, none⟩), .int .i64 0]) ∧ w.heap.size ≤ a ∧ w.heap.size ≤ t ∧ IsSrc w' a t F E S A ∧ Below w.heap.size w w' := by
  have CC : Hid (∀ W, Calls Tryz.prog 44 #[.agg #[.int .i64 N, .int .i64 B, .int .i64 Q, .int .i64 (E : Nat), .int .i64 (F : Nat)]] W fun e w' => ∃ a, W.heap.size ≤ a ∧ e = .returned (.tuple #[.pointer (some ⟨a, 0, none⟩), .int .i64 0]) ∧ IsDT w' a F E ∧ Below W.heap.size W w') := fun W => dnew_yes N B Q E F W h
  have CA : Hid (∀ W, Calls Tryz.prog 45 #[.agg #[.int .i64 N, .int .i64 B, .int .i64 Q, .int .i64 (E : Nat), .int .i64 (F : Nat)]] W fun e w' => e = .returned (.int .i64 (A : Int)) ∧ Below W.heap.size W w') := by
    intro W
    have := all_any N B Q E F W h.1 h.2.2.1 h.2.2.2.1
    rw [hA] at this
    exact this
  clear h hA
  go_enter Tryz.func18, Tryz.ntmps18
  go_wp2_with fail
  refine (CC.out _).mono ?_
  rintro e w1 ⟨t, ht, rfl, hd, hb⟩
  have B1 : Hid (Below w.heap.size w w1) := below_on (below_alloc _ _) hb
  have P1 : Hid (Five w1 w.heap.size N B Q E F) := (five_new w _ _ _ _ _ _).below hb
  have D1 : Hid (IsDT w1 t F E) := hd
  have T1 : Hid (w.heap.size ≤ t) := by unfold Hid; simp at ht; omega
  clear hb CC hd ht
  obtain ⟨c0, c1, c2, c3, c4⟩ := P1.out
  go_wp2_with fail
  refine (CA.out _).mono ?_
  rintro e w2 ⟨rfl, hb2⟩
  have B2 : Hid (Below w.heap.size w w2) := below_on B1.out hb2
  have D2 : Hid (IsDT w2 t F E) := D1.out.below hb2
  clear hb2 CA D1 B1 P1 c0 c1 c2 c3 c4
  go_wp2
  go_ret2
  exact ⟨w2.heap.size, t, rfl, B2.out.size, T1.out, ⟨by simp, by simp, by simp, D2.out.below (below_alloc _ _)⟩, below_on B2.out (below_alloc _ _)⟩

set_option maxRecDepth 100000 in
set_option maxHeartbeats 1000000 in
theorem enew_no (N B Q E F : Int) (S : Nat) (ov : Value) (oa : Option Addr) (on oc : Nat) (w : World) (h : ¬ May N B Q E F) (ho : ov = .slice oa on oc) :
    Calls Tryz.prog 6 #[.agg #[.int .i64 N, .int .i64 B, .int .i64 Q, .int .i64 E, .int .i64 F], .int .u64 (S : Int), ov] w fun e w' => e = .returned (.tuple #[.pointer none, .int .i64 1]) ∧ Below w.heap.size w w' := by
  have CC : Hid (∀ W, Calls Tryz.prog 7 #[.agg #[.int .i64 N, .int .i64 B, .int .i64 Q, .int .i64 E, .int .i64 F], .int .u64 (S : Int), ov] W fun e w' => e = .returned (.tuple #[.slice none 0 0, .int .i64 1]) ∧ Below W.heap.size W w') := fun W => cblocks_no N B Q E F S ov oa on oc W h ho
  subst ho
  clear h
  go_enter Tryz.func6, Tryz.ntmps6
  go_wp2_with fail
  refine (CC.out _).mono ?_
  rintro e w1 ⟨rfl, hb⟩
  have HB : Hid (Below w.heap.size w w1) := on_below (below_alloc _ _) hb
  clear hb CC
  go_wp2
  go_ret2
  exact ⟨rfl, HB.out⟩

set_option maxRecDepth 100000 in
set_option maxHeartbeats 1000000 in
theorem enew_long (N B : Nat) (Q E F : Int) (S : Nat) (ov : Value) (l : List UInt8) (w : World) (h : May (N : Int) (B : Int) Q E F) (ho : Bs w ov l) (hl : ¬ l.length ≤ N * B) :
    Calls Tryz.prog 6 #[.agg #[.int .i64 (N : Int), .int .i64 (B : Int), .int .i64 Q, .int .i64 E, .int .i64 F], .int .u64 (S : Int), ov] w fun e w' => e = .returned (.tuple #[.pointer none, .int .i64 10]) ∧ Below w.heap.size w w' := by
  have CC : Hid (∀ W, Below w.heap.size w W → Calls Tryz.prog 7 #[.agg #[.int .i64 (N : Int), .int .i64 (B : Int), .int .i64 Q, .int .i64 E, .int .i64 F], .int .u64 (S : Int), ov] W fun e w' => e = .returned (.tuple #[.slice none 0 0, .int .i64 10]) ∧ Below W.heap.size W w') := fun W hW => cblocks_long N B Q E F S ov l W h (ho.below hW) hl
  obtain ⟨-, ao, cap, rfl, -, -, -, -⟩ := ho
  clear h hl
  go_enter Tryz.func6, Tryz.ntmps6
  go_wp2_with fail
  refine (CC.out _ (below_alloc _ _)).mono ?_
  rintro e w1 ⟨rfl, hb⟩
  have HB : Hid (Below w.heap.size w w1) := on_below (below_alloc _ _) hb
  clear hb CC
  go_wp2
  go_ret2
  exact ⟨rfl, HB.out⟩

/-- A codec that was made. -/
def IsCoP (B0 : Nat) : Value → World → Prop := fun v W => ∃ co g, v = .pointer (some ⟨co, 0, none⟩) ∧ IsCo W co g ∧ B0 ≤ co ∧ B0 ≤ g
theorem stays_cop (B0 : Nat) : Stays (IsCoP B0) := fun _ _ _ hb ⟨co, g, h1, h2, h3, h4⟩ => ⟨co, g, h1, h2.below hb, h3, h4⟩
/-- An encoder as it is built, and at its block. -/
def IsEa (B0 a S N B Q E F L K : Nat) (ca : Option Addr) (cc : Nat) : Value → World → Prop := fun v W => ∃ co g, v = .agg #[.pointer (some ⟨a, 0, none⟩), .pointer (some ⟨co, 0, none⟩), .int .u64 (S : Int), .int .i64 (N : Int), .int .i64 (B : Int), .int .i64 (Q : Int), .int .i64 (E : Int), .int .i64 (F : Int), .int .i64 (L : Int), .int .u64 0, .slice ca K cc] ∧ IsCo W co g ∧ B0 ≤ co ∧ B0 ≤ g
theorem stays_ea (B0 a S N B Q E F L K : Nat) (ca : Option Addr) (cc : Nat) : Stays (IsEa B0 a S N B Q E F L K ca cc) := fun _ _ _ hb ⟨co, g, h1, h2, h3, h4⟩ => ⟨co, g, h1, h2.below hb, h3, h4⟩
def IsEp (B0 a S N B Q E F L K : Nat) (ca : Option Addr) (cc : Nat) : Value → World → Prop := fun v W => ∃ p co g, v = .pointer (some ⟨p, 0, none⟩) ∧ B0 ≤ p ∧ W.heap[p]? = some (.cells #[.pointer (some ⟨a, 0, none⟩), .pointer (some ⟨co, 0, none⟩), .int .u64 (S : Int), .int .i64 (N : Int), .int .i64 (B : Int), .int .i64 (Q : Int), .int .i64 (E : Int), .int .i64 (F : Int), .int .i64 (L : Int), .int .u64 0, .slice ca K cc] 68 (0, 0)) ∧ IsCo W co g ∧ B0 ≤ co ∧ B0 ≤ g
theorem stays_ep (B0 a S N B Q E F L K : Nat) (ca : Option Addr) (cc : Nat) : Stays (IsEp B0 a S N B Q E F L K ca cc) := fun _ _ _ hb ⟨p, co, g, h1, h2, h3, h4, h5, h6⟩ => ⟨p, co, g, h1, h2, heap_stays hb h3, h4.below hb, h5, h6⟩

set_option maxRecDepth 100000 in
set_option maxHeartbeats 4000000 in
/-- NEW. -/
theorem enew_yes (N B Q A S E F n : Nat) (ov : Value) (l : List UInt8) (w : World) (h : PrOk N B Q E F N Q A) (hS : S < 18446744073709551616) (ho : Bs w ov l) (hn : l.length = n) (hl : n ≤ N * B) :
    Calls Tryz.prog 6 #[.agg #[.int .i64 (N : Int), .int .i64 (B : Int), .int .i64 (Q : Int), .int .i64 (E : Int), .int .i64 (F : Int)], .int .u64 (S : Int), ov] w fun e w' => ∃ p, e = .returned (.tuple #[.pointer (some ⟨p, 0, none⟩), .int .i64 0]) ∧ Enc w.heap.size w' p S N B Q E F n (N + A) (compD N B (hasR S A Q N) l) ∧ Below w.heap.size w w' := by
  have CB : Hid (∀ W, Below w.heap.size w W → Calls Tryz.prog 7 #[.agg #[.int .i64 (N : Int), .int .i64 (B : Int), .int .i64 (Q : Int), .int .i64 E, .int .i64 F], .int .u64 (S : Int), ov] W fun e w' => ∃ a c vs, e = .returned (.tuple #[.slice a (N + A) c, .int .i64 0]) ∧ w'.ownsRow W.heap.size 25 1 (.slice a (N + A) c) (N + A) vs ∧ RowsB W.heap.size w' vs (compD N B (hasR S A Q N) l) ∧ Below W.heap.size W w') := fun W hW => cblocks_yes N B Q A S E F ov l W h hS (ho.below hW) (by rw [hn]; exact hl)
  have hea : (N : Int) + aux (N : Int) (Q : Int) (E : Int) = ((N + A : Nat) : Int) := by have := h.ea; omega
  have CI : Hid (∀ W, Calls Tryz.prog 18 #[.agg #[.int .i64 (N : Int), .int .i64 (B : Int), .int .i64 (Q : Int), .int .i64 (E : Int), .int .i64 (F : Int)], .int .u64 (S : Int)] W fun e w' => ∃ a t, e = .returned (.tuple #[.pointer (some ⟨a, 0, none⟩), .int .i64 0]) ∧ W.heap.size ≤ a ∧ W.heap.size ≤ t ∧ IsSrc w' a t F E S (N + A) ∧ Below W.heap.size W w') := fun W => inew_own N B Q E F S (N + A) W h.may hea
  obtain ⟨-, ao, cap, rfl, -, h3, -, -⟩ := ho
  unfold maxLen at h3
  rw [hn] at CB ⊢
  clear h hS hn hl hea
  obtain ⟨D, hD⟩ : ∃ D, compD N B (hasR S A Q N) l = D := ⟨_, rfl⟩
  rw [hD] at CB ⊢
  clear hD
  have P0 : Hid (FiveB (w.alloc (.cells #[.int .i64 N, .int .i64 B, .int .i64 Q, .int .i64 E, .int .i64 F] 23)) w.heap.size N B Q E F) := FiveB.new _ _ _ _ _ _
  go_enter Tryz.func6, Tryz.ntmps6
  go_wp2_with fail
  refine (CB.out _ (below_alloc _ _)).mono ?_
  rintro e w1 ⟨ca, cc, vs, rfl, ho1, hr1, hb1⟩
  have B1 : Hid (Below w.heap.size w w1) := on_below (below_alloc _ _) hb1
  have P1 : Hid (FiveB w1 w.heap.size N B Q E F) := P0.out.below hb1
  have O1 : Hid (w1.ownsRow w.heap.size 25 1 (.slice ca (N + A) cc) (N + A) vs ∧ RowsB w.heap.size w1 vs D) := ⟨owns_mono ho1 (by simp), hr1.mono (by simp)⟩
  clear ho1 hr1 hb1 CB P0
  obtain ⟨c0, c1, c2, c3, c4⟩ := P1.out.five
  go_wp2_with fail
  refine (CI.out _).mono ?_
  rintro e w2 ⟨a, t, rfl, ha, ht, hs2, hb2⟩
  have B2 : Hid (Below w.heap.size w w2) := on_below B1.out hb2
  have P2 : Hid (FiveB w2 w.heap.size N B Q E F) := P1.out.below hb2
  have O2 : Hid (w2.ownsRow w.heap.size 25 1 (.slice ca (N + A) cc) (N + A) vs ∧ RowsB w.heap.size w2 vs D) := ⟨owns_below O1.out.1 hb2, O1.out.2.below hb2⟩
  have S2 : Hid (IsSrc w2 a t F E S (N + A) ∧ w.heap.size ≤ a ∧ w.heap.size ≤ t) := ⟨hs2, by have := B1.out.size; omega, by have := B1.out.size; omega⟩
  clear hs2 hb2 CI P1 O1 B1 ha ht c0 c1 c2 c3 c4
  have BX : Hid (∀ W, Below w2.heap.size w2 W → Five W w.heap.size N B Q E F) := fun W hW => (P2.out.below hW).five
  have CF : Hid (∀ W, Below w2.heap.size w2 W → Calls Tryz.prog 19 #[] W fun e w' => ∃ v, e = .returned v ∧ IsCoP w.heap.size v w' ∧ Below W.heap.size W w') := by
    intro W hW
    refine (fnew_any W).mono ?_
    rintro e w' ⟨co, g, rfl, h1, h2, h3, h4, -⟩
    have := B2.out.size
    have := hW.size
    exact ⟨_, rfl, ⟨co, g, rfl, h1, by omega, by omega⟩, h2⟩
  go_upto_region 7 with fail
  refine wp_region_any (by kernel_rfl) ?_
  obtain ⟨gs, hgs⟩ : ∃ gs : List (Value → World → Prop), gs = [IsV (Value.pointer (some { block := a, off := 0 })), IsAnyV, IsV (Value.int IntKind.u64 ↑S), IsV (.agg #[.int .i64 (N : Int), .int .i64 (B : Int), .int .i64 (Q : Int), .int .i64 (E : Int), .int .i64 (F : Int)]), IsV (Value.slice ao n cap), IsV (.int .i64 (n : Int)), IsV (.agg #[.int .u64 (S : Int), .int .i64 (N : Int), .int .i64 (B : Int), .int .i64 (Q : Int), .int .i64 (E : Int), .int .i64 (F : Int), .int .i64 (n : Int), .int .u64 0]), IsV (Value.slice ca (N + A) cc), IsAnyV, IsAnyV, IsAnyV, IsV (Value.int IntKind.i64 (0 : Int))] := ⟨_, rfl⟩
  have g0 : Hid (gs[0]? = some (IsV (Value.pointer (some { block := a, off := 0 })))) := by unfold Hid; rw [hgs]; rfl
  have g1 : Hid (gs[1]? = some (IsAnyV)) := by unfold Hid; rw [hgs]; rfl
  have g2 : Hid (gs[2]? = some (IsV (Value.int IntKind.u64 ↑S))) := by unfold Hid; rw [hgs]; rfl
  have g3 : Hid (gs[3]? = some (IsV (.agg #[.int .i64 (N : Int), .int .i64 (B : Int), .int .i64 (Q : Int), .int .i64 (E : Int), .int .i64 (F : Int)]))) := by unfold Hid; rw [hgs]; rfl
  have g4 : Hid (gs[4]? = some (IsV (Value.slice ao n cap))) := by unfold Hid; rw [hgs]; rfl
  have g5 : Hid (gs[5]? = some (IsV (.int .i64 (n : Int)))) := by unfold Hid; rw [hgs]; rfl
  have g6 : Hid (gs[6]? = some (IsV (.agg #[.int .u64 (S : Int), .int .i64 (N : Int), .int .i64 (B : Int), .int .i64 (Q : Int), .int .i64 (E : Int), .int .i64 (F : Int), .int .i64 (n : Int), .int .u64 0]))) := by unfold Hid; rw [hgs]; rfl
  have g7 : Hid (gs[7]? = some (IsV (Value.slice ca (N + A) cc))) := by unfold Hid; rw [hgs]; rfl
  have g8 : Hid (gs[8]? = some (IsAnyV)) := by unfold Hid; rw [hgs]; rfl
  have g9 : Hid (gs[9]? = some (IsAnyV)) := by unfold Hid; rw [hgs]; rfl
  have g10 : Hid (gs[10]? = some (IsAnyV)) := by unfold Hid; rw [hgs]; rfl
  have g11 : Hid (gs[11]? = some (IsV (Value.int IntKind.i64 (0 : Int)))) := by unfold Hid; rw [hgs]; rfl
  have gk : Hid (∀ p ∈ gs, ∀ v (U U' : World), p v U → p v U') := by
    unfold Hid
    rw [hgs]
    simp only [List.forall_mem_cons]
    exact ⟨(fun _ _ _ h => h), (fun _ _ _ h => h), (fun _ _ _ h => h), (fun _ _ _ h => h), (fun _ _ _ h => h), (fun _ _ _ h => h), (fun _ _ _ h => h), (fun _ _ _ h => h), (fun _ _ _ h => h), (fun _ _ _ h => h), (fun _ _ _ h => h), (fun _ _ _ h => h), by simp⟩
  clear hgs
  have JS : Hid (∀ W W', Below W.heap.size W W' → (fun W => Below w2.heap.size w2 W) W → (fun W => Below w2.heap.size w2 W) W') := fun W W' hb h => h.trans (hb.mono h.size)
  have st1 : Hid (Stays (IsCoP w.heap.size)) := stays_cop _
  have st8 : Hid (Stays (IsEa w.heap.size a S N B Q E F n (N + A) ca cc)) := stays_ea _ _ _ _ _ _ _ _ _ _ _ _
  have st9 : Hid (Stays (IsEp w.heap.size a S N B Q E F n (N + A) ca cc)) := stays_ep _ _ _ _ _ _ _ _ _ _ _ _
  have st10 : Hid (Stays (IsEp w.heap.size a S N B Q E F n (N + A) ca cc)) := stays_ep _ _ _ _ _ _ _ _ _ _ _ _
  refine wpAny_inv4 (fun listed ac W => ∃ xv : Nat → Value, ac = ⟨#[Value.agg #[Value.int IntKind.i64 ↑N, Value.int IntKind.i64 ↑B, Value.int IntKind.i64 ↑Q, Value.int IntKind.i64 ↑E, Value.int IntKind.i64 ↑F], Value.int IntKind.u64 ↑S, Value.slice ao n cap, Value.pointer (some { block := w.heap.size, off := 0 }), undef, undef, xv 10, xv 11, Value.slice ca (N + A) cc, Value.int IntKind.i64 (0 : Int), Value.pointer (some { block := a, off := 0 }), Value.tuple #[Value.slice ca (N + A) cc, Value.int IntKind.i64 (0 : Int)], Value.agg #[Value.int IntKind.i64 ↑N, Value.int IntKind.i64 ↑B, Value.int IntKind.i64 ↑Q, Value.int IntKind.i64 ↑E, Value.int IntKind.i64 ↑F], Value.int IntKind.u64 ↑S, Value.slice ao n cap, Value.tuple #[Value.slice ca (N + A) cc, Value.int IntKind.i64 (0 : Int)], Value.slice ca (N + A) cc, Value.int IntKind.i64 (0 : Int), Value.int IntKind.i64 (0 : Int), Value.bool false, undef, Value.tuple #[Value.pointer (some { block := a, off := 0 }), Value.int IntKind.i64 (0 : Int)], Value.agg #[Value.int IntKind.i64 ↑N, Value.int IntKind.i64 ↑B, Value.int IntKind.i64 ↑Q, Value.int IntKind.i64 ↑E, Value.int IntKind.i64 ↑F], Value.int IntKind.u64 ↑S, Value.tuple #[Value.pointer (some { block := a, off := 0 }), Value.int IntKind.i64 (0 : Int)], Value.pointer (some { block := a, off := 0 }), Value.int IntKind.i64 (0 : Int), Value.int IntKind.i64 (0 : Int), Value.bool false, undef, xv 0, xv 1, xv 2, xv 3, xv 4, xv 5, xv 6, xv 7, xv 8, xv 9], []⟩ ∧ (fun W => Below w2.heap.size w2 W) W ∧ Lst gs listed xv W ∧ Fe listed xv W 1 (IsCoP w.heap.size) ∧ Fe listed xv W 8 (IsEa w.heap.size a S N B Q E F n (N + A) ca cc) ∧ Fe listed xv W 9 (IsEp w.heap.size a S N B Q E F n (N + A) ca cc) ∧ Fe listed xv W 10 (IsEp w.heap.size a S N B Q E F n (N + A) ca cc)) (by kernel_rfl) ?_ ?_ _ _ _ _ (by kernel_rfl) (of_decide_eq_true (by kernel_rfl)) (Down.start _) ⟨fun jx => if jx = 10 then Value.pointer none else if jx = 11 then Value.int IntKind.i64 (0 : Int) else undef, rfl, below0 _, Lst.start _ _ _ _, Fe.start _ _ _ _ _, Fe.start _ _ _ _ _, Fe.start _ _ _ _ _, Fe.start _ _ _ _ _⟩
  · rintro listed ac W ⟨xv, rfl, hb, hG, hF1, hF8, hF9, hF10⟩ hD i hi hnl hd
    have hin : i < 12 := hi
    clear hi
    have hcase : i = 0 ∨ i = 1 ∨ i = 2 ∨ i = 3 ∨ i = 4 ∨ i = 5 ∨ i = 6 ∨ i = 7 ∨ i = 8 ∨ i = 9 ∨ i = 10 ∨ i = 11 := by omega
    rcases hcase with rfl | rfl | rfl | rfl | rfl | rfl | rfl | rfl | rfl | rfl | rfl | rfl
    · refine wpOp_step rfl (fun K' hK => ?_)
      clear hd hin hD
      go_simp
      exact hK _ _ ⟨updV xv 0 (Value.pointer (some { block := a, off := 0 })), by simp [updV], hb, hG.any gk.out g0.out _ rfl, hF1.step (fun _ h => h) (by decide) _, hF8.step (fun _ h => h) (by decide) _, hF9.step (fun _ h => h) (by decide) _, hF10.step (fun _ h => h) (by decide) _⟩
    · refine wpOp_step rfl (fun K' hK => ?_)
      clear hd hin hD
      go_simp
      refine (CF.out W hb).mono ?_
      rintro e w' ⟨v, rfl, hv, hb'⟩
      go_wp2_with fail
      exact ⟨updV xv 1 v, by simp [updV], JS.out _ _ hb' hb, hG.any gk.out g1.out v trivial, Fe.new (hv), hF8.on st8.out hb' (by decide) _, hF9.on st9.out hb' (by decide) _, hF10.on st10.out hb' (by decide) _⟩
    · refine wpOp_step rfl (fun K' hK => ?_)
      clear hd hin hD
      go_simp
      exact hK _ _ ⟨updV xv 2 (Value.int IntKind.u64 ↑S), by simp [updV], hb, hG.any gk.out g2.out _ rfl, hF1.step (fun _ h => h) (by decide) _, hF8.step (fun _ h => h) (by decide) _, hF9.step (fun _ h => h) (by decide) _, hF10.step (fun _ h => h) (by decide) _⟩
    · refine wpOp_step rfl (fun K' hK => ?_)
      obtain ⟨c0, c1, c2, c3, c4⟩ := BX.out W hb
      clear hd hin hD
      go_simp
      exact hK _ _ ⟨updV xv 3 (.agg #[.int .i64 (N : Int), .int .i64 (B : Int), .int .i64 (Q : Int), .int .i64 (E : Int), .int .i64 (F : Int)]), by simp [updV], hb, hG.any gk.out g3.out _ rfl, hF1.step (fun _ h => h) (by decide) _, hF8.step (fun _ h => h) (by decide) _, hF9.step (fun _ h => h) (by decide) _, hF10.step (fun _ h => h) (by decide) _⟩
    · refine wpOp_step rfl (fun K' hK => ?_)
      clear hd hin hD
      go_simp
      exact hK _ _ ⟨updV xv 4 (Value.slice ao n cap), by simp [updV], hb, hG.any gk.out g4.out _ rfl, hF1.step (fun _ h => h) (by decide) _, hF8.step (fun _ h => h) (by decide) _, hF9.step (fun _ h => h) (by decide) _, hF10.step (fun _ h => h) (by decide) _⟩
    · refine wpOp_step rfl (fun K' hK => ?_)
      simp [Region.binds] at hd
      have e4 : xv 4 = Value.slice ao n cap := hG.get g4.out (by simp [hd])
      clear hd hin hD
      go_simp
      exact hK _ _ ⟨updV xv 5 (.int .i64 (n : Int)), by simp [updV, e4], hb, hG.any gk.out g5.out _ rfl, hF1.step (fun _ h => h) (by decide) _, hF8.step (fun _ h => h) (by decide) _, hF9.step (fun _ h => h) (by decide) _, hF10.step (fun _ h => h) (by decide) _⟩
    · refine wpOp_step rfl (fun K' hK => ?_)
      simp [Region.binds] at hd
      have e2 : xv 2 = Value.int IntKind.u64 ↑S := hG.get g2.out (by simp [hd])
      have e3 : xv 3 = .agg #[.int .i64 (N : Int), .int .i64 (B : Int), .int .i64 (Q : Int), .int .i64 (E : Int), .int .i64 (F : Int)] := hG.get g3.out (by simp [hd])
      have e5 : xv 5 = .int .i64 (n : Int) := hG.get g5.out (by simp [hd])
      clear hd hin hD
      go_simp
      exact hK _ _ ⟨updV xv 6 (.agg #[.int .u64 (S : Int), .int .i64 (N : Int), .int .i64 (B : Int), .int .i64 (Q : Int), .int .i64 (E : Int), .int .i64 (F : Int), .int .i64 (n : Int), .int .u64 0]), by simp [updV, e2, e3, e5], hb, hG.any gk.out g6.out _ rfl, hF1.step (fun _ h => h) (by decide) _, hF8.step (fun _ h => h) (by decide) _, hF9.step (fun _ h => h) (by decide) _, hF10.step (fun _ h => h) (by decide) _⟩
    · refine wpOp_step rfl (fun K' hK => ?_)
      clear hd hin hD
      go_simp
      exact hK _ _ ⟨updV xv 7 (Value.slice ca (N + A) cc), by simp [updV], hb, hG.any gk.out g7.out _ rfl, hF1.step (fun _ h => h) (by decide) _, hF8.step (fun _ h => h) (by decide) _, hF9.step (fun _ h => h) (by decide) _, hF10.step (fun _ h => h) (by decide) _⟩
    · refine wpOp_step rfl (fun K' hK => ?_)
      simp [Region.binds] at hd
      have e0 : xv 0 = Value.pointer (some { block := a, off := 0 }) := hG.get g0.out (by simp [hd])
      have l1 : listed.getD 1 false = true := by simp [hd]
      have m1 := hF1 l1
      have e6 : xv 6 = .agg #[.int .u64 (S : Int), .int .i64 (N : Int), .int .i64 (B : Int), .int .i64 (Q : Int), .int .i64 (E : Int), .int .i64 (F : Int), .int .i64 (n : Int), .int .u64 0] := hG.get g6.out (by simp [hd])
      have e7 : xv 7 = Value.slice ca (N + A) cc := hG.get g7.out (by simp [hd])
      clear hd hin hD
      obtain ⟨co, g, e1, h1, h2, h3⟩ := m1
      go_simp
      exact hK _ _ ⟨updV xv 8 (.agg #[.pointer (some ⟨a, 0, none⟩), .pointer (some ⟨co, 0, none⟩), .int .u64 (S : Int), .int .i64 (N : Int), .int .i64 (B : Int), .int .i64 (Q : Int), .int .i64 (E : Int), .int .i64 (F : Int), .int .i64 (n : Int), .int .u64 0, .slice ca (N + A) cc]), by simp [updV, e0, e1, e6, e7], hb, hG.any gk.out g8.out _ trivial, hF1.step (fun _ h => h) (by decide) _, Fe.new (⟨co, g, rfl, h1, h2, h3⟩), hF9.step (fun _ h => h) (by decide) _, hF10.step (fun _ h => h) (by decide) _⟩
    · refine wpOp_step rfl (fun K' hK => ?_)
      simp [Region.binds] at hd
      have l8 : listed.getD 8 false = true := by simp [hd]
      have m8 := hF8 l8
      clear hd hin hD
      obtain ⟨co, g, e8, h1, h2, h3⟩ := m8
      go_simp
      exact hK _ _ ⟨updV xv 9 (.pointer (some ⟨W.heap.size, 0, none⟩)), by simp [updV, e8], JS.out _ _ (below_alloc _ _) hb, hG.any gk.out g9.out _ trivial, hF1.on st1.out (below_alloc _ _) (by decide) _, hF8.on st8.out (below_alloc _ _) (by decide) _, Fe.new (⟨_, co, g, rfl, by have := hb.size; have := B2.out.size; omega, alloc_at _ _, h1.below (below_alloc _ _), h2, h3⟩), hF10.on st10.out (below_alloc _ _) (by decide) _⟩
    · refine wpOp_step rfl (fun K' hK => ?_)
      simp [Region.binds] at hd
      have l9 : listed.getD 9 false = true := by simp [hd]
      have m9 := hF9 l9
      clear hd hin hD
      go_simp
      exact hK _ _ ⟨updV xv 10 (xv 9), by simp [updV], hb, hG.any gk.out g10.out _ trivial, hF1.step (fun _ h => h) (by decide) _, hF8.step (fun _ h => h) (by decide) _, hF9.step (fun _ h => h) (by decide) _, Fe.new (m9)⟩
    · refine wpOp_step rfl (fun K' hK => ?_)
      simp [Region.binds] at hd
      clear hd hin hD
      go_simp
      exact hK _ _ ⟨updV xv 11 (Value.int IntKind.i64 (0 : Int)), by simp [updV], hb, hG.any gk.out g11.out _ rfl, hF1.step (fun _ h => h) (by decide) _, hF8.step (fun _ h => h) (by decide) _, hF9.step (fun _ h => h) (by decide) _, hF10.step (fun _ h => h) (by decide) _⟩
  · rintro listed ac W ⟨xv, rfl, hb, hG, hF1, hF8, hF9, hF10⟩ hall
    have m10 : Hid ((IsEp w.heap.size a S N B Q E F n (N + A) ca cc) (xv 10) W) := hF10 (hall 10 (by decide))
    have e11 : xv 11 = Value.int IntKind.i64 (0 : Int) := hG.get g11.out (hall 11 (by decide))
    have XW : Hid ((fun W => Below w2.heap.size w2 W) W) := hb
    clear hall hG hb gk JS g0 g1 g2 g3 g4 g5 g6 g7 g8 g9 g10 g11 hF1 st1 hF8 st8 hF9 st9 hF10 st10
    rw [e11]
    clear e11
    obtain ⟨p, co, g, e10, hp, hpc, hco, hc0, hg0⟩ := m10.out
    rw [e10]
    clear m10 e10
    have RR : Hid (Enc w.heap.size W p S N B Q E F n (N + A) D ∧ Below w.heap.size w W) := ⟨⟨a, t, co, g, ca, cc, vs, hpc, S2.out.1.below XW.out, hco, owns_below O2.out.1 XW.out, O2.out.2.below XW.out, hp, S2.out.2.1, S2.out.2.2, hc0, hg0⟩, on_below B2.out XW.out⟩
    clear hp hpc hco hc0 hg0 XW O2 S2 P2 B2 BX CF
    go_wp2
    go_ret2
    exact ⟨p, rfl, RR.out⟩

end Go.Proofs.YtkckbeekehecnaaGreat
