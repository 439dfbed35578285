/-
  The walks of package frame: readHead.
-/
import Derived.Test.YtecohgmllmddhaaFrC
import Derived.Deep.MidRow
import Derived.Laws.ResultCell
namespace Go.Proofs.Ytecohgmllmddhaa
open Go.RowKit
set_option linter.unusedVariables false

/-- A head that is read, from place a on; the answer's block is still zero. -/
structure RH (w0 : World) (B0 v r q rb : Nat) (l : List UInt8) (a : Nat) (W : World) : Prop where
  rd : IsRd W r q (l.drop a)
  cap : W.cell? ⟨v, 0, none⟩ = some (.pointer (some ⟨r, 0, none⟩))
  res : Eight W rb 0 0 0 0 0 0 0 0
  fz : ∀ i, W.frozen? ⟨rb, i, none⟩ = false
  vr : v ≠ r
  br : rb ≠ r
  bel : Below B0 w0 W
  ge : B0 ≤ r

theorem RH.keep {w0 : World} {B0 v r q rb : Nat} {l : List UInt8} {a : Nat} {W W' : World} (h : RH w0 B0 v r q rb l a W) (hr : W'.heap[r]? = W.heap[r]?) (hq : W'.heap[q]? = W.heap[q]?) (hv : W'.heap[v]? = W.heap[v]?) (hb : W'.heap[rb]? = W.heap[rb]?) (hbel : Below B0 W W') : RH w0 B0 v r q rb l a W' :=
  ⟨h.rd.kept hr hq, (World.cell?_of_block (a := ⟨v, 0, none⟩) hv).trans h.cap, h.res.kept hb, fun i => (World.frozen?_of_block (a := ⟨rb, i, none⟩) hb).trans (h.fz i), h.vr, h.br, h.bel.trans hbel, h.ge⟩

theorem RH.below {w0 : World} {B0 v r q rb : Nat} {l : List UInt8} {a : Nat} {W W' : World} (h : RH w0 B0 v r q rb l a W) (hq : q < W.heap.size) (hB : B0 ≤ W.heap.size) (hb : Below W.heap.size W W') : RH w0 B0 v r q rb l a W' :=
  h.keep (hb.block _ h.rd.lt) (hb.block _ hq) (hb.block _ (cell_block_lt h.cap)) (hb.block _ (cell_block_lt h.res.1)) (hb.mono hB)

set_option maxRecDepth 100000 in
set_option maxHeartbeats 1000000 in
/-- The next number. -/
theorem next_any (w0 : World) (B0 v r q rb : Nat) (l : List UInt8) (a n : Nat) (W : World) (h : RH w0 B0 v r q rb l a W) (h1 : 1 ≤ n) (h8 : n ≤ 8) (hn : a + n ≤ l.length) :
    Calls Try.prog 58 #[.int .i64 n, .pointer (some ⟨v, 0, none⟩)] W fun e w' => e = .returned (.int .u64 (num l a n)) ∧ RH w0 B0 v r q rb l (a + n) w' ∧ W.grownBy w' (some r) ∧ w'.heap.size = W.heap.size := by
  have H : Hid (RH w0 B0 v r q rb l a W) := h
  have hc := h.cap
  clear h
  go_enter Try.func58, Try.ntmps58
  go_wp2_with fail
  refine (take_yes r q (l.drop a) n _ H.out.rd h1 h8 (by simp; omega)).mono ?_
  rintro e w1 ⟨rfl, hrd, hg, hs⟩
  have R : Hid (RH w0 B0 v r q rb l (a + n) w1 ∧ W.grownBy w1 (some r) ∧ w1.heap.size = W.heap.size) := by
    have hv := hg.block v (cell_block_lt H.out.cap) (by intro e; injection e with e; exact H.out.vr e)
    have hb := hg.block rb (cell_block_lt H.out.res.1) (by intro e; injection e with e; exact H.out.br e)
    refine ⟨⟨by rw [List.drop_drop] at hrd; exact hrd, (World.cell?_of_block (a := ⟨v, 0, none⟩) hv).trans H.out.cap, H.out.res.kept hb, fun i => (World.frozen?_of_block (a := ⟨rb, i, none⟩) hb).trans (H.out.fz i), H.out.vr, H.out.br, ?_, H.out.ge⟩, hg, hs⟩
    exact H.out.bel.grown hg (by have := H.out.ge; have := H.out.rd.lt; omega) (fun k hk => by injection hk with hk; have := H.out.ge; omega)
  clear hrd hg hs H hc
  go_wp2
  go_ret
  exact ⟨rfl, R.out⟩

/-- And the header's block that is filled. -/
structure RX (w0 : World) (B0 v r q rb hb : Nat) (l : List UInt8) (a : Nat) (S N B Q E F L I : Int) (W : World) : Prop where
  rh : RH w0 B0 v r q rb l a W
  hd : Eight W hb S N B Q E F L I
  fz : ∀ i, W.frozen? ⟨hb, i, none⟩ = false
  n1 : hb ≠ r
  n2 : hb ≠ q
  n3 : hb ≠ v
  n4 : hb ≠ rb
  ge : B0 ≤ hb

theorem rx_next (w0 : World) (B0 v r q rb hb : Nat) (l : List UInt8) (a n : Nat) (S N B Q E F L I : Int) (W : World) (h : RX w0 B0 v r q rb hb l a S N B Q E F L I W) (h1 : 1 ≤ n) (h8 : n ≤ 8) (hn : a + n ≤ l.length) :
    Calls Try.prog 58 #[.int .i64 n, .pointer (some ⟨v, 0, none⟩)] W fun e w' => e = .returned (.int .u64 (num l a n)) ∧ RX w0 B0 v r q rb hb l (a + n) S N B Q E F L I w' := by
  refine (next_any w0 B0 v r q rb l a n W h.rh h1 h8 hn).mono ?_
  rintro e w' ⟨rfl, h2, hg, hs⟩
  have hb' := hg.block hb (cell_block_lt h.hd.1) (by intro e; injection e with e; exact h.n1 e)
  exact ⟨rfl, h2, h.hd.kept hb', fun i => (World.frozen?_of_block (a := ⟨hb, i, none⟩) hb').trans (h.fz i), h.n1, h.n2, h.n3, h.n4, h.ge⟩

theorem RX.store {w0 : World} {B0 v r q rb hb : Nat} {l : List UInt8} {a : Nat} {S N B Q E F L I S' N' B' Q' E' F' L' I' : Int} {W : World} (h : RX w0 B0 v r q rb hb l a S N B Q E F L I W) (i : Nat) (u : Value) (h8 : Eight (W.setCell ⟨hb, i, none⟩ u) hb S' N' B' Q' E' F' L' I') :
    RX w0 B0 v r q rb hb l a S' N' B' Q' E' F' L' I' (W.setCell ⟨hb, i, none⟩ u) := by
  have hk : ∀ k, k ≠ hb → (W.setCell ⟨hb, i, none⟩ u).heap[k]? = W.heap[k]? := fun k hk => Below.heap_setCell W ⟨hb, i, none⟩ u k hk
  refine ⟨h.rh.keep (hk _ (Ne.symm h.n1)) (hk _ (Ne.symm h.n2)) (hk _ (Ne.symm h.n3)) (hk _ (Ne.symm h.n4)) ((Below.refl _ _).setCell h.ge u), h8, fun j => ?_, h.n1, h.n2, h.n3, h.n4, h.ge⟩
  have := h.fz j
  simpa using this

theorem Eight.set0 {W : World} {b : Nat} {S N B Q E F L I : Int} (h : Eight W b S N B Q E F L I) (S' : Int) : Eight (W.setCell ⟨b, 0, none⟩ (.int .u64 S')) b S' N B Q E F L I := by
  obtain ⟨h0, h1, h2, h3, h4, h5, h6, h7⟩ := h
  refine ⟨?_, ?_, ?_, ?_, ?_, ?_, ?_, ?_⟩
  · exact World.cell?_setCell_same W _ _ h0
  · rw [World.cell?_setCell_other W _ _ _ (by simp)]; exact h1
  · rw [World.cell?_setCell_other W _ _ _ (by simp)]; exact h2
  · rw [World.cell?_setCell_other W _ _ _ (by simp)]; exact h3
  · rw [World.cell?_setCell_other W _ _ _ (by simp)]; exact h4
  · rw [World.cell?_setCell_other W _ _ _ (by simp)]; exact h5
  · rw [World.cell?_setCell_other W _ _ _ (by simp)]; exact h6
  · rw [World.cell?_setCell_other W _ _ _ (by simp)]; exact h7

theorem Eight.set1 {W : World} {b : Nat} {S N B Q E F L I : Int} (h : Eight W b S N B Q E F L I) (N' : Int) : Eight (W.setCell ⟨b, 1, none⟩ (.int .i64 N')) b S N' B Q E F L I := by
  obtain ⟨h0, h1, h2, h3, h4, h5, h6, h7⟩ := h
  refine ⟨?_, ?_, ?_, ?_, ?_, ?_, ?_, ?_⟩
  · rw [World.cell?_setCell_other W _ _ _ (by simp)]; exact h0
  · exact World.cell?_setCell_same W _ _ h1
  · rw [World.cell?_setCell_other W _ _ _ (by simp)]; exact h2
  · rw [World.cell?_setCell_other W _ _ _ (by simp)]; exact h3
  · rw [World.cell?_setCell_other W _ _ _ (by simp)]; exact h4
  · rw [World.cell?_setCell_other W _ _ _ (by simp)]; exact h5
  · rw [World.cell?_setCell_other W _ _ _ (by simp)]; exact h6
  · rw [World.cell?_setCell_other W _ _ _ (by simp)]; exact h7

theorem Eight.set2 {W : World} {b : Nat} {S N B Q E F L I : Int} (h : Eight W b S N B Q E F L I) (B' : Int) : Eight (W.setCell ⟨b, 2, none⟩ (.int .i64 B')) b S N B' Q E F L I := by
  obtain ⟨h0, h1, h2, h3, h4, h5, h6, h7⟩ := h
  refine ⟨?_, ?_, ?_, ?_, ?_, ?_, ?_, ?_⟩
  · rw [World.cell?_setCell_other W _ _ _ (by simp)]; exact h0
  · rw [World.cell?_setCell_other W _ _ _ (by simp)]; exact h1
  · exact World.cell?_setCell_same W _ _ h2
  · rw [World.cell?_setCell_other W _ _ _ (by simp)]; exact h3
  · rw [World.cell?_setCell_other W _ _ _ (by simp)]; exact h4
  · rw [World.cell?_setCell_other W _ _ _ (by simp)]; exact h5
  · rw [World.cell?_setCell_other W _ _ _ (by simp)]; exact h6
  · rw [World.cell?_setCell_other W _ _ _ (by simp)]; exact h7

theorem Eight.set3 {W : World} {b : Nat} {S N B Q E F L I : Int} (h : Eight W b S N B Q E F L I) (Q' : Int) : Eight (W.setCell ⟨b, 3, none⟩ (.int .i64 Q')) b S N B Q' E F L I := by
  obtain ⟨h0, h1, h2, h3, h4, h5, h6, h7⟩ := h
  refine ⟨?_, ?_, ?_, ?_, ?_, ?_, ?_, ?_⟩
  · rw [World.cell?_setCell_other W _ _ _ (by simp)]; exact h0
  · rw [World.cell?_setCell_other W _ _ _ (by simp)]; exact h1
  · rw [World.cell?_setCell_other W _ _ _ (by simp)]; exact h2
  · exact World.cell?_setCell_same W _ _ h3
  · rw [World.cell?_setCell_other W _ _ _ (by simp)]; exact h4
  · rw [World.cell?_setCell_other W _ _ _ (by simp)]; exact h5
  · rw [World.cell?_setCell_other W _ _ _ (by simp)]; exact h6
  · rw [World.cell?_setCell_other W _ _ _ (by simp)]; exact h7

theorem Eight.set4 {W : World} {b : Nat} {S N B Q E F L I : Int} (h : Eight W b S N B Q E F L I) (E' : Int) : Eight (W.setCell ⟨b, 4, none⟩ (.int .i64 E')) b S N B Q E' F L I := by
  obtain ⟨h0, h1, h2, h3, h4, h5, h6, h7⟩ := h
  refine ⟨?_, ?_, ?_, ?_, ?_, ?_, ?_, ?_⟩
  · rw [World.cell?_setCell_other W _ _ _ (by simp)]; exact h0
  · rw [World.cell?_setCell_other W _ _ _ (by simp)]; exact h1
  · rw [World.cell?_setCell_other W _ _ _ (by simp)]; exact h2
  · rw [World.cell?_setCell_other W _ _ _ (by simp)]; exact h3
  · exact World.cell?_setCell_same W _ _ h4
  · rw [World.cell?_setCell_other W _ _ _ (by simp)]; exact h5
  · rw [World.cell?_setCell_other W _ _ _ (by simp)]; exact h6
  · rw [World.cell?_setCell_other W _ _ _ (by simp)]; exact h7

theorem Eight.set5 {W : World} {b : Nat} {S N B Q E F L I : Int} (h : Eight W b S N B Q E F L I) (F' : Int) : Eight (W.setCell ⟨b, 5, none⟩ (.int .i64 F')) b S N B Q E F' L I := by
  obtain ⟨h0, h1, h2, h3, h4, h5, h6, h7⟩ := h
  refine ⟨?_, ?_, ?_, ?_, ?_, ?_, ?_, ?_⟩
  · rw [World.cell?_setCell_other W _ _ _ (by simp)]; exact h0
  · rw [World.cell?_setCell_other W _ _ _ (by simp)]; exact h1
  · rw [World.cell?_setCell_other W _ _ _ (by simp)]; exact h2
  · rw [World.cell?_setCell_other W _ _ _ (by simp)]; exact h3
  · rw [World.cell?_setCell_other W _ _ _ (by simp)]; exact h4
  · exact World.cell?_setCell_same W _ _ h5
  · rw [World.cell?_setCell_other W _ _ _ (by simp)]; exact h6
  · rw [World.cell?_setCell_other W _ _ _ (by simp)]; exact h7

theorem Eight.set6 {W : World} {b : Nat} {S N B Q E F L I : Int} (h : Eight W b S N B Q E F L I) (L' : Int) : Eight (W.setCell ⟨b, 6, none⟩ (.int .i64 L')) b S N B Q E F L' I := by
  obtain ⟨h0, h1, h2, h3, h4, h5, h6, h7⟩ := h
  refine ⟨?_, ?_, ?_, ?_, ?_, ?_, ?_, ?_⟩
  · rw [World.cell?_setCell_other W _ _ _ (by simp)]; exact h0
  · rw [World.cell?_setCell_other W _ _ _ (by simp)]; exact h1
  · rw [World.cell?_setCell_other W _ _ _ (by simp)]; exact h2
  · rw [World.cell?_setCell_other W _ _ _ (by simp)]; exact h3
  · rw [World.cell?_setCell_other W _ _ _ (by simp)]; exact h4
  · rw [World.cell?_setCell_other W _ _ _ (by simp)]; exact h5
  · exact World.cell?_setCell_same W _ _ h6
  · rw [World.cell?_setCell_other W _ _ _ (by simp)]; exact h7

theorem Eight.set7 {W : World} {b : Nat} {S N B Q E F L I : Int} (h : Eight W b S N B Q E F L I) (I' : Int) : Eight (W.setCell ⟨b, 7, none⟩ (.int .u64 I')) b S N B Q E F L I' := by
  obtain ⟨h0, h1, h2, h3, h4, h5, h6, h7⟩ := h
  refine ⟨?_, ?_, ?_, ?_, ?_, ?_, ?_, ?_⟩
  · rw [World.cell?_setCell_other W _ _ _ (by simp)]; exact h0
  · rw [World.cell?_setCell_other W _ _ _ (by simp)]; exact h1
  · rw [World.cell?_setCell_other W _ _ _ (by simp)]; exact h2
  · rw [World.cell?_setCell_other W _ _ _ (by simp)]; exact h3
  · rw [World.cell?_setCell_other W _ _ _ (by simp)]; exact h4
  · rw [World.cell?_setCell_other W _ _ _ (by simp)]; exact h5
  · rw [World.cell?_setCell_other W _ _ _ (by simp)]; exact h6
  · exact World.cell?_setCell_same W _ _ h7

theorem store8 {W : World} {b : Nat} {s n o p q r t u : Int} (h : Eight W b s n o p q r t u) (S N B Q E F L I : Int) : Eight ((((((((W.setCell ⟨b, 0, none⟩ (.int .u64 S)).setCell ⟨b, 1, none⟩ (.int .i64 N)).setCell ⟨b, 2, none⟩ (.int .i64 B)).setCell ⟨b, 3, none⟩ (.int .i64 Q)).setCell ⟨b, 4, none⟩ (.int .i64 E)).setCell ⟨b, 5, none⟩ (.int .i64 F)).setCell ⟨b, 6, none⟩ (.int .i64 L)).setCell ⟨b, 7, none⟩ (.int .u64 I)) b S N B Q E F L I :=
  (((((((h.set0 S).set1 N).set2 B).set3 Q).set4 E).set5 F).set6 L).set7 I

theorem below8 {w0 W : World} {B0 b : Nat} (h : Below B0 w0 W) (hb : B0 ≤ b) (v0 v1 v2 v3 v4 v5 v6 v7 : Value) : Below B0 w0 (((((((((W.setCell ⟨b, 0, none⟩ v0).setCell ⟨b, 1, none⟩ v1).setCell ⟨b, 2, none⟩ v2).setCell ⟨b, 3, none⟩ v3).setCell ⟨b, 4, none⟩ v4).setCell ⟨b, 5, none⟩ v5).setCell ⟨b, 6, none⟩ v6).setCell ⟨b, 7, none⟩ v7)) :=
  (((((((h.setCell hb v0).setCell hb v1).setCell hb v2).setCell hb v3).setCell hb v4).setCell hb v5).setCell hb v6).setCell hb v7

theorem load8 {W : World} {b : Nat} {S N B Q E F L I : Int} (h : Eight W b S N B Q E F L I) : (loadVar 26 ⟨b, 0, none⟩).run Try.prog W = .ok (.agg #[.int .u64 S, .int .i64 N, .int .i64 B, .int .i64 Q, .int .i64 E, .int .i64 F, .int .i64 L, .int .u64 I]) W := by
  obtain ⟨h0, h1, h2, h3, h4, h5, h6, h7⟩ := h
  refine run_loadVar_mid W b 0 26 [.int .u64 S, .int .i64 N, .int .i64 B, .int .i64 Q, .int .i64 E, .int .i64 F, .int .i64 L, .int .u64 I] _ ?_ Try.underlying26 rfl (by kernel_rfl)
  intro j v hj
  rw [Nat.zero_add]
  have hj8 : j < 8 := by have := (List.getElem?_eq_some_iff.1 hj).1; simpa using this
  match j, hj8 with
  | 0, _ => simp at hj; subst hj; exact h0
  | 1, _ => simp at hj; subst hj; exact h1
  | 2, _ => simp at hj; subst hj; exact h2
  | 3, _ => simp at hj; subst hj; exact h3
  | 4, _ => simp at hj; subst hj; exact h4
  | 5, _ => simp at hj; subst hj; exact h5
  | 6, _ => simp at hj; subst hj; exact h6
  | 7, _ => simp at hj; subst hj; exact h7

theorem load9 {W : World} {b : Nat} {S N B Q E F L I : Int} {v : Value} (h : Nine W b S N B Q E F L I v) : (loadVar 29 ⟨b, 0, none⟩).run Try.prog W = .ok (.agg #[.int .u64 S, .int .i64 N, .int .i64 B, .int .i64 Q, .int .i64 E, .int .i64 F, .int .i64 L, .int .u64 I, v]) W := by
  obtain ⟨⟨h0, h1, h2, h3, h4, h5, h6, h7⟩, h8⟩ := h
  refine run_loadVar_mid W b 0 29 [.int .u64 S, .int .i64 N, .int .i64 B, .int .i64 Q, .int .i64 E, .int .i64 F, .int .i64 L, .int .u64 I, v] _ ?_ Try.underlying29 rfl (by kernel_rfl)
  intro j u hj
  rw [Nat.zero_add]
  have hj9 : j < 9 := by have := (List.getElem?_eq_some_iff.1 hj).1; simpa using this
  match j, hj9 with
  | 0, _ => simp at hj; subst hj; exact h0
  | 1, _ => simp at hj; subst hj; exact h1
  | 2, _ => simp at hj; subst hj; exact h2
  | 3, _ => simp at hj; subst hj; exact h3
  | 4, _ => simp at hj; subst hj; exact h4
  | 5, _ => simp at hj; subst hj; exact h5
  | 6, _ => simp at hj; subst hj; exact h6
  | 7, _ => simp at hj; subst hj; exact h7
  | 8, _ => simp at hj; subst hj; exact h8

theorem nine_store {W : World} {b : Nat} {s n o p q r t u : Int} {v : Value} (h : Nine W b s n o p q r t u v) (S N B Q E F L I : Int) (v' : Value) : Nine (((((((((W.setCell ⟨b, 0, none⟩ (.int .u64 S)).setCell ⟨b, 1, none⟩ (.int .i64 N)).setCell ⟨b, 2, none⟩ (.int .i64 B)).setCell ⟨b, 3, none⟩ (.int .i64 Q)).setCell ⟨b, 4, none⟩ (.int .i64 E)).setCell ⟨b, 5, none⟩ (.int .i64 F)).setCell ⟨b, 6, none⟩ (.int .i64 L)).setCell ⟨b, 7, none⟩ (.int .u64 I)).setCell ⟨b, 8, none⟩ v') b S N B Q E F L I v' := by
  refine ⟨?_, ?_⟩
  · obtain ⟨h0, h1, h2, h3, h4, h5, h6, h7⟩ := store8 h.1 S N B Q E F L I
    refine ⟨?_, ?_, ?_, ?_, ?_, ?_, ?_, ?_⟩
    · rw [World.cell?_setCell_other _ _ _ _ (by simp)]; exact h0
    · rw [World.cell?_setCell_other _ _ _ _ (by simp)]; exact h1
    · rw [World.cell?_setCell_other _ _ _ _ (by simp)]; exact h2
    · rw [World.cell?_setCell_other _ _ _ _ (by simp)]; exact h3
    · rw [World.cell?_setCell_other _ _ _ _ (by simp)]; exact h4
    · rw [World.cell?_setCell_other _ _ _ _ (by simp)]; exact h5
    · rw [World.cell?_setCell_other _ _ _ _ (by simp)]; exact h6
    · rw [World.cell?_setCell_other _ _ _ _ (by simp)]; exact h7
  · refine World.cell?_setCell_same _ _ _ (u := v) ?_
    rw [World.cell?_setCell_other _ _ _ _ (by simp), World.cell?_setCell_other _ _ _ _ (by simp), World.cell?_setCell_other _ _ _ _ (by simp), World.cell?_setCell_other _ _ _ _ (by simp), World.cell?_setCell_other _ _ _ _ (by simp), World.cell?_setCell_other _ _ _ _ (by simp), World.cell?_setCell_other _ _ _ _ (by simp), World.cell?_setCell_other _ _ _ _ (by simp)]
    exact h.2

theorem ret_cell {fn : Func} {p u : Tmp} {ty : TypeId} (h : fn.results = #[.cell p ty, .tmp u]) {tmps : Array Value} {P : Program} {W : World} {b : Nat} {v x : Value} (hp : tmps.getD p undef = .pointer (some ⟨b, 0, none⟩)) (hx : tmps.getD u undef = x) (hl : (loadVar ty ⟨b, 0, none⟩).run P W = .ok v W) : (results fn tmps).run P W = .ok (.tuple #[v, x]) W := by
  rw [results_cell_tmp h, hp, hx]
  simp [asAddr, Result.andThen, hl]

end Go.Proofs.Ytecohgmllmddhaa
