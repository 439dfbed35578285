/-
  ComposeRight.
-/
import Derived.Test.YtkcijbejngnalaaCBlks
import Derived.Test.YtkcijbejngnalaaLCase
import Derived.RegionTactic
import Derived.Deep.DeepCutAuto
namespace Go.Proofs.Ytkcijbejngnalaa
open Go.RowKit
set_option linter.unusedVariables false

/-- What is turned, in a box. -/
def TurnC (W : World) (b : Nat) (N B Q E F S : Int) (ov : Value) (K T Y M L : Int) : Prop := W.cell? ⟨b, 0, none⟩ = some (.int .i64 N) ∧ W.cell? ⟨b, 1, none⟩ = some (.int .i64 B) ∧ W.cell? ⟨b, 2, none⟩ = some (.int .i64 Q) ∧ W.cell? ⟨b, 3, none⟩ = some (.int .i64 E) ∧ W.cell? ⟨b, 4, none⟩ = some (.int .i64 F) ∧ W.cell? ⟨b, 5, none⟩ = some (.int .u64 S) ∧ W.cell? ⟨b, 6, none⟩ = some ov ∧ W.cell? ⟨b, 7, none⟩ = some (.int .u8 K) ∧ W.cell? ⟨b, 8, none⟩ = some (.int .u8 T) ∧ W.cell? ⟨b, 9, none⟩ = some (.int .u8 Y) ∧ W.cell? ⟨b, 10, none⟩ = some (.int .i64 M) ∧ W.cell? ⟨b, 11, none⟩ = some (.int .i64 L)
theorem TurnC.below {W W' : World} {b : Nat} {N B Q E F S : Int} {ov : Value} {K T Y M L : Int} (h : TurnC W b N B Q E F S ov K T Y M L) (hb : Below W.heap.size W W') : TurnC W' b N B Q E F S ov K T Y M L := by
  obtain ⟨h0, h1, h2, h3, h4, h5, h6, h7, h8, h9, h10, h11⟩ := h
  exact ⟨(hb.cell (cell_block_lt h0)).trans h0, (hb.cell (cell_block_lt h1)).trans h1, (hb.cell (cell_block_lt h2)).trans h2, (hb.cell (cell_block_lt h3)).trans h3, (hb.cell (cell_block_lt h4)).trans h4, (hb.cell (cell_block_lt h5)).trans h5, (hb.cell (cell_block_lt h6)).trans h6, (hb.cell (cell_block_lt h7)).trans h7, (hb.cell (cell_block_lt h8)).trans h8, (hb.cell (cell_block_lt h9)).trans h9, (hb.cell (cell_block_lt h10)).trans h10, (hb.cell (cell_block_lt h11)).trans h11⟩
theorem turn_new (w : World) (t : TypeId) (N B Q E F S : Int) (ov : Value) (K T Y M L : Int) : TurnC (w.alloc (.cells #[.int .i64 N, .int .i64 B, .int .i64 Q, .int .i64 E, .int .i64 F, .int .u64 S, ov, .int .u8 K, .int .u8 T, .int .u8 Y, .int .i64 M, .int .i64 L] t)) w.heap.size N B Q E F S ov K T Y M L := by
  refine ⟨?_, ?_, ?_, ?_, ?_, ?_, ?_, ?_, ?_, ?_, ?_, ?_⟩ <;> simp

/-- What is turned of it, in a box of its own. -/
def TurnB (W : World) (b : Nat) (K T Y M L : Int) : Prop := W.cell? ⟨b, 0, none⟩ = some (.int .u8 K) ∧ W.cell? ⟨b, 1, none⟩ = some (.int .u8 T) ∧ W.cell? ⟨b, 2, none⟩ = some (.int .u8 Y) ∧ W.cell? ⟨b, 3, none⟩ = some (.int .i64 M) ∧ W.cell? ⟨b, 4, none⟩ = some (.int .i64 L)
theorem TurnB.below {W W' : World} {b : Nat} {K T Y M L : Int} (h : TurnB W b K T Y M L) (hb : Below W.heap.size W W') : TurnB W' b K T Y M L := by
  obtain ⟨h0, h1, h2, h3, h4⟩ := h
  exact ⟨(hb.cell (cell_block_lt h0)).trans h0, (hb.cell (cell_block_lt h1)).trans h1, (hb.cell (cell_block_lt h2)).trans h2, (hb.cell (cell_block_lt h3)).trans h3, (hb.cell (cell_block_lt h4)).trans h4⟩
theorem turnb_new (w : World) (t : TypeId) (K T Y M L : Int) : TurnB (w.alloc (.cells #[.int .u8 K, .int .u8 T, .int .u8 Y, .int .i64 M, .int .i64 L] t)) w.heap.size K T Y M L := by
  refine ⟨?_, ?_, ?_, ?_, ?_⟩ <;> simp
/-- Both boxes, in either order. -/
theorem boxes_pt (w : World) (t t' : TypeId) (N B Q E F K T Y M L : Int) : let U := ((w.alloc (.cells #[.int .i64 N, .int .i64 B, .int .i64 Q, .int .i64 E, .int .i64 F] t)).alloc (.cells #[.int .u8 K, .int .u8 T, .int .u8 Y, .int .i64 M, .int .i64 L] t')).drew
    Below w.heap.size w U ∧ Five U w.heap.size N B Q E F ∧ TurnB U (w.heap.size + 1) K T Y M L := by
  intro U
  have h1 := (below_alloc (w.alloc (.cells #[.int .i64 N, .int .i64 B, .int .i64 Q, .int .i64 E, .int .i64 F] t)) (.cells #[.int .u8 K, .int .u8 T, .int .u8 Y, .int .i64 M, .int .i64 L] t')).drew
  have h2 := (turnb_new (w.alloc (.cells #[.int .i64 N, .int .i64 B, .int .i64 Q, .int .i64 E, .int .i64 F] t)) t' K T Y M L).below (below0 _)
  rw [World.size_alloc] at h2
  exact ⟨on_below (below_alloc _ _) h1, (five_new w t N B Q E F).below h1, h2⟩
theorem boxes_tp (w : World) (t t' : TypeId) (N B Q E F K T Y M L : Int) : let U := ((w.alloc (.cells #[.int .u8 K, .int .u8 T, .int .u8 Y, .int .i64 M, .int .i64 L] t')).alloc (.cells #[.int .i64 N, .int .i64 B, .int .i64 Q, .int .i64 E, .int .i64 F] t)).drew
    Below w.heap.size w U ∧ Five U (w.heap.size + 1) N B Q E F ∧ TurnB U w.heap.size K T Y M L := by
  intro U
  have h1 := (below_alloc (w.alloc (.cells #[.int .u8 K, .int .u8 T, .int .u8 Y, .int .i64 M, .int .i64 L] t')) (.cells #[.int .i64 N, .int .i64 B, .int .i64 Q, .int .i64 E, .int .i64 F] t)).drew
  have h2 := (five_new (w.alloc (.cells #[.int .u8 K, .int .u8 T, .int .u8 Y, .int .i64 M, .int .i64 L] t')) t N B Q E F).below (below0 _)
  rw [World.size_alloc] at h2
  exact ⟨on_below (below_alloc _ _) h1, h2, (turnb_new w t' K T Y M L).below h1⟩

theorem TurnB.kept {W W' : World} {b : Nat} {K T Y M L : Int} (h : TurnB W b K T Y M L) (hk : W'.heap[b]? = W.heap[b]?) : TurnB W' b K T Y M L := by
  obtain ⟨d0, d1, d2, d3, d4⟩ := h
  exact ⟨(World.cell?_of_block (a := ⟨b, 0, none⟩) hk).trans d0, (World.cell?_of_block (a := ⟨b, 1, none⟩) hk).trans d1, (World.cell?_of_block (a := ⟨b, 2, none⟩) hk).trans d2, (World.cell?_of_block (a := ⟨b, 3, none⟩) hk).trans d3, (World.cell?_of_block (a := ⟨b, 4, none⟩) hk).trans d4⟩
/-- A store into a row of one's own. -/
theorem own_setR {w : World} {B g n cap j : Nat} {e : TypeId} {cs : List Value} (h : w.ownsRow B e 1 (.slice (some ⟨g, 0, none⟩) n cap) n cs) (u : Value) : (w.setCell ⟨g, j, none⟩ u).ownsRow B e 1 (.slice (some ⟨g, 0, none⟩) n cap) n (cs.set j u) := by
  obtain ⟨h1, h2⟩ := h
  refine ⟨by simpa using h1, ?_⟩
  rcases h2 with ⟨h2, -⟩ | ⟨g', cap', cur, hv, hg, hh, hnc, hcm, hcs, htake⟩
  · cases h2
  · injection hv with e1 e2 e3
    injection e1 with e1
    injection e1 with e1 e4 e5
    subst e1
    subst e3
    refine .inr ⟨g, cap, cur.setIfInBounds j u, rfl, hg, ?_, hnc, hcm, by simpa using hcs, ?_⟩
    · unfold World.setCell
      simp [Array.getElem?_modify, hh]
    · rw [Array.toList_setIfInBounds, List.take_set, htake]
theorem own_frR {w : World} {B g n cap : Nat} {e : TypeId} {cs : List Value} (h : w.ownsRow B e 1 (.slice (some ⟨g, 0, none⟩) n cap) n cs) (j : Nat) : w.frozen? ⟨g, j, none⟩ = false := by
  rcases h.2 with ⟨h2, -⟩ | ⟨g', cap', cur, hv, hg, hh, -⟩
  · cases h2
  · injection hv with e1 e2 e3
    injection e1 with e1
    injection e1 with e1 e4 e5
    subst e1
    simp [World.frozen?, hh]
theorem own_blkR {w : World} {B q : Nat} {l : List UInt8} {post : List Value} (h : Blk w q [] l post) (hB : B ≤ q) (hm : l.length + post.length ≤ maxLen) : OwB B w (.slice (some ⟨q, 0, none⟩) l.length (l.length + post.length)) l.length l := by
  refine ⟨by simp, .inr ⟨q, _, _, rfl, hB, h, by omega, hm, by simp, by simp⟩⟩
theorem own_setX {w : World} {B g n cap j : Nat} {l : List UInt8} (h : OwB B w (.slice (some ⟨g, 0, none⟩) n cap) n l) (x : UInt8) : OwB B (w.setCell ⟨g, j, none⟩ (bv x)) (.slice (some ⟨g, 0, none⟩) n cap) n (l.set j x) := by
  have h1 := own_setR (j := j) h (bv x)
  unfold OwB
  rw [List.map_set]
  exact h1
/-- One slice of a row of slices is another one. -/
theorem RowsB.store {B0 B1 : Nat} {w : World} {vs us : List Value} {ls : List (List UInt8)} {g n cap m j : Nat} {u : Value} {x : List UInt8} (h : RowsB B0 w vs ls) (ho : w.ownsRow B1 25 1 (.slice (some ⟨g, 0, none⟩) n cap) m us) (hu : OwB B0 w u x.length x) : RowsB B0 (w.setCell ⟨g, j, none⟩ u) (vs.set j u) (ls.set j x) := by
  have hg : w.grownBy (w.setCell ⟨g, j, none⟩ u) (Value.slice (some ⟨g, 0, none⟩) n cap).ownBlock := grown_setCell w g j u
  have h1 := h.grown ho hg
  have h2 : RowsB B0 w [u] [x] := ⟨rfl, fun i v l hv hl => by
    have : i = 0 := by have := (List.getElem?_eq_some_iff.1 hv).1; simp at this; omega
    subst this
    simp at hv hl
    subst hv; subst hl
    exact hu⟩
  have h3 := h2.grown ho hg
  refine ⟨by simpa using h.1, fun i v l hv hl => ?_⟩
  by_cases e : j = i
  · subst e
    rw [List.getElem?_set] at hv hl
    simp only [if_true] at hv hl
    split at hv
    · split at hl
      · have hv := Option.some.inj hv
        have hl := Option.some.inj hl
        subst hv; subst hl
        exact h3.2 0 _ _ rfl rfl
      · cases hl
    · cases hv
  · rw [List.getElem?_set_ne e] at hv hl
    exact h1.2 i v l hv hl
theorem below_alloc' (w : World) {B : Nat} (o : Obj) (h : B ≤ w.heap.size) : Below B w (w.alloc o) := (Below.refl _ _).alloc h o
theorem below_added_row {B : Nat} {w w1 w2 : World} {e : TypeId} {v : Value} {n : Nat} {cs : List Value} (hb : Below B w w1) (hB : B ≤ w.heap.size) (ho : w.ownsRow B e 1 v n cs) (hg : w1.grownBy w2 v.ownBlock) : Below B w w2 :=
  hb.grown hg (Nat.le_trans hB hb.size) (fun k hk => (World.ownsRow.lt ho k hk).1)
def IsRbX (ls : List (List UInt8)) : Value → World → Prop := fun v W => ∃ us, Sl 1 W v us.length us ∧ Parts W us ls
theorem stays_rbx (ls : List (List UInt8)) : Stays (IsRbX ls) := fun _ _ _ hb ⟨us, h1, h2⟩ => ⟨us, h1.below hb, h2.below hb⟩
def IsX (B : Nat) (u : Value) (n : Nat) (l : List UInt8) : Value → World → Prop := fun _ W => OwB B W u n l
theorem stays_x (B : Nat) (u : Value) (n : Nat) (l : List UInt8) : Stays (IsX B u n l) := fun _ _ _ hb h => OwB.below h hb

set_option maxRecDepth 100000 in
set_option maxHeartbeats 8000000 in
theorem composeRight_walk (N B Q E F : Int) (S : Nat) (ov : Value) (l : List UInt8) (K T Y : Nat) (M L : Int) (w : World) (hS : S < 18446744073709551616) (ho : Bs w ov l) (hK : K < 256) (hT : T < 256) (hY : Y < 256) (hL : L ≤ 9223372036854775807) :
    Calls Try.prog 3 #[.agg #[.int .i64 N, .int .i64 B, .int .i64 Q, .int .i64 E, .int .i64 F, .int .u64 (S : Int), ov, .int .u8 (K : Int), .int .u8 (T : Int), .int .u8 (Y : Int), .int .i64 M, .int .i64 L]] w fun e w' => e = .returned (.bool true) ∧ Below w.heap.size w w' := by
  obtain ⟨yb, hyb⟩ : ∃ yb : UInt8, yb.toNat = Y := ⟨UInt8.ofNat Y, by simp; omega⟩
  subst hyb
  have HL63 : Hid (L ≤ 9223372036854775807) := hL
  clear hY hL
  have HO : Hid (Bs w ov l) := ho
  have HS : Hid (S < 18446744073709551616) := hS
  obtain ⟨-, ao, cap, rfl, h2, h3, -, -⟩ := ho
  unfold maxLen at h3
  obtain ⟨n, hn⟩ : ∃ n, l.length = n := ⟨_, rfl⟩
  rw [hn] at h2 HO ⊢
  have HL : Hid (l.length = n) := hn
  clear hn hS
  go_enter Try.func3, Try.ntmps3
  go_wp2_with fail
  refine (speaks13_any _).mono ?_
  rintro e w1 ⟨rfl, hb⟩
  have B1 : Hid (Below w.heap.size w w1) := on_below (below_alloc _ _) hb
  have F1 : Hid (TurnC w1 w.heap.size N B Q E F S (.slice ao n cap) K T yb.toNat M L) := (turn_new w _ N B Q E F S _ K T yb.toNat M L).below hb
  clear hb
  obtain ⟨c0, c1, c2, c3, c4, c5, c6, c7, c8, c9, c10, c11⟩ := F1.out
  have hsz : w.heap.size < w1.heap.size := cell_block_lt c0
  go_wp2_with fail
  go_cut [3, 4, 5, 6] (fun s3 s4 s5 s6 wx => ∃ b3 b6, s3 = .pointer (some ⟨b3, 0, none⟩) ∧ s4 = .int .u64 (S : Int) ∧ s5 = .slice ao n cap ∧ s6 = .pointer (some ⟨b6, 0, none⟩) ∧ Below w1.heap.size w1 wx ∧ Five wx b3 N B Q E F ∧ TurnB wx b6 K T yb.toNat M L)
  case first =>
    go_region
    · have XX := boxes_pt w1 23 27 N B Q E F K T yb.toNat M L
      go_wp2_with fail
      go_meet
      exact ⟨_, _, rfl, rfl, rfl, rfl, XX⟩
    · have XX := boxes_tp w1 23 27 N B Q E F K T yb.toNat M L
      go_wp2_with fail
      go_meet
      exact ⟨_, _, rfl, rfl, rfl, rfl, XX⟩
  case rest =>
    obtain ⟨b3, b6, rfl, rfl, rfl, rfl, XX, PP, TT⟩ := hcut
    clear F1 c0 c1 c2 c3 c4 c5 c6 c7 c8 c9 c10 c11 hsz
    obtain ⟨w2, rfl⟩ : ∃ x, x = wc := ⟨_, rfl⟩
    have B2 : Hid (Below w.heap.size w w2) := on_below B1.out XX
    have P2 : Hid (Five w2 b3 N B Q E F) := PP
    have T2 : Hid (TurnB w2 b6 K T yb.toNat M L) := TT
    clear XX PP TT B1
    obtain ⟨c0, c1, c2, c3, c4⟩ := P2.out
    go_wp2_with fail
    refine (big13_any N B Q E F w2).mono ?_
    rintro e w3 ⟨⟨b, rfl, hb⟩, hx⟩
    have B3 : Hid (Below w.heap.size w w3) := on_below B2.out hx
    have P3 : Hid (Five w3 b3 N B Q E F) := P2.out.below hx
    have T3 : Hid (TurnB w3 b6 K T yb.toNat M L) := T2.out.below hx
    clear hx B2 P2 T2 c0 c1 c2 c3 c4
    cases b with
    | true =>
      clear hb
      go_wp2
      go_ret
      exact ⟨rfl, B3.out⟩
    | false =>
      have NB : Hid (¬ bigP N B) := fun h => by have := hb.2 h; cases this
      clear hb
      obtain ⟨c0, c1, c2, c3, c4⟩ := P3.out
      go_wp2_with fail
      refine (rmay_any N B Q E F w3).mono ?_
      rintro e w4 ⟨rfl, hb⟩
      have B4 : Hid (Below w.heap.size w w4) := on_below B3.out hb
      have P4 : Hid (Five w4 b3 N B Q E F) := P3.out.below hb
      have T4 : Hid (TurnB w4 b6 K T yb.toNat M L) := T3.out.below hb
      clear hb B3 P3 T3 c0 c1 c2 c3 c4
      obtain ⟨c0, c1, c2, c3, c4⟩ := P4.out
      by_cases hm : May N B Q E F
      case neg =>
        have hd : @decide (May N B Q E F) (decMay N B Q E F) = false := @decide_eq_false _ (decMay N B Q E F) hm
        rw [hd]
        clear hm hd NB
        go_wp2
        go_ret
        exact ⟨rfl, B4.out⟩
      have hd : @decide (May N B Q E F) (decMay N B Q E F) = true := @decide_eq_true _ (decMay N B Q E F) hm
      rw [hd]
      clear hd
      have hsm : N ≤ 60 ∧ B ≤ 60 := by have := NB.out; unfold bigP at this; omega
      clear NB
      obtain ⟨N, B, Q, A, rfl, rfl, rfl, hpr⟩ := pr_nat hm
      have hN60 : N ≤ 60 := by omega
      have hB60 : B ≤ 60 := by omega
      have HA : Hid (A ≤ 1000000) := may_small hpr (by omega)
      have hN0 : 1 ≤ N := by have := hm; unfold May at this; omega
      have hB0 : 1 ≤ B := by have := hm; unfold May at this; omega
      have PR : Hid (PrOk (N : Int) (B : Int) (Q : Int) E F N Q A) := hpr
      have hP : N * B ≤ 3600 := Nat.mul_le_mul hN60 hB60
      have wm : IntKind.i64.wrap ((N : Int) * (B : Int)) = ((N * B : Nat) : Int) := by rw [IntKind.wrap_i64]; simp; omega
      by_cases hl : n ≤ N * B
      case neg =>
        have hgt : (n : Int) > ((N * B : Nat) : Int) := by omega
        clear hl hP hm hpr hsm
        generalize N * B = P at *
        go_wp2
        go_ret
        exact ⟨rfl, B4.out⟩
      have hle : ¬ (n : Int) > ((N * B : Nat) : Int) := by omega
      have CR : Hid (∀ (l : List UInt8) (ov : Value) W, Bs W ov l → Calls Try.prog 15 #[.agg #[.int .i64 (N : Int), .int .i64 (B : Int), .int .i64 (Q : Int), .int .i64 E, .int .i64 F], .int .u64 (S : Int), ov] W fun e w' => ∃ a c vs, e = .returned (.slice a (N + A) c) ∧ w'.ownsRow W.heap.size 25 1 (.slice a (N + A) c) (N + A) vs ∧ RowsB W.heap.size w' vs (compD N B (hasR S A Q N) l) ∧ Below W.heap.size W w') := by
        intro l ov W hv
        exact rcblocks_own N B Q A S E F ov l W hpr HS.out (by omega) (by omega) HA.out hv
      have HNB0 : ∃ P, N * B = P := ⟨_, rfl⟩
      clear hl hm hpr hsm
      obtain ⟨P, hNB⟩ := HNB0
      have HNB : Hid (N * B = P) := hNB
      rw [hNB] at hP wm hle
      clear hNB
      go_wp2_with fail
      refine (CR.out l _ w4 (HO.out.below B4.out)).mono ?_
      rintro e w5 ⟨a5, k5, vs, rfl, ho5, hr5, hb⟩
      have B5 : Hid (Below w.heap.size w w5) := on_below B4.out hb
      have Z4 : Hid (w.heap.size ≤ w4.heap.size ∧ w4.heap.size ≤ w5.heap.size) := ⟨B4.out.size, hb.size⟩
      have P5 : Hid (Five w5 b3 (N : Int) (B : Int) (Q : Int) E F) := P4.out.below hb
      have T5 : Hid (TurnB w5 b6 K T yb.toNat M L) := T4.out.below hb
      have O5 : Hid (w5.ownsRow w4.heap.size 25 1 (.slice a5 (N + A) k5) (N + A) vs ∧ RowsB w4.heap.size w5 vs (compD N B (hasR S A Q N) l)) := ⟨ho5, hr5⟩
      have X5 : Hid (b3 < w4.heap.size ∧ b6 < w4.heap.size) := ⟨cell_block_lt c0, cell_block_lt T4.out.1⟩
      clear hb ho5 hr5 B4 P4 T4 c0 c1 c2 c3 c4
      obtain ⟨R, hR⟩ : ∃ R, N + A = R := ⟨_, rfl⟩
      rw [hR] at O5 ⊢
      obtain ⟨D, hD⟩ : ∃ D, compD N B (hasR S A Q N) l = D := ⟨_, rfl⟩
      have DL : Hid (D.length = R) := by unfold Hid; rw [← hD, compD_length, hasR_length, hR]
      have DM : Hid (∀ x ∈ D, x.length = B) := by unfold Hid; rw [← hD]; exact compD_mem (hasR_rw S A Q N)
      rw [hD] at O5
      clear hD
      obtain ⟨J, hJ⟩ : ∃ J, K % R = J := ⟨_, rfl⟩
      have hJR : J < R := by rw [← hJ]; exact Nat.mod_lt _ (by omega)
      have r1 : (K : Int) % (R : Int) = (J : Int) := by rw [← hJ]; simp
      have r2 : Int.tmod (K : Int) (R : Int) = (J : Int) := by rw [← hJ]; rfl
      have hR0 : ¬ (R : Int) = 0 := by omega
      have wK : IntKind.i64.wrap (K : Int) = (K : Int) := by rw [IntKind.wrap_i64]; omega
      have hRb : R ≤ 1000060 := by have := HA.out; omega
      have wJ : IntKind.i64.wrap (J : Int) = (J : Int) := by rw [IntKind.wrap_i64]; omega
      have VL : vs.length = R := by have := O5.out.1.1; omega
      obtain ⟨x, hx⟩ : ∃ x, D[J]? = some x := ⟨_, List.getElem?_eq_getElem (by rw [DL.out]; exact hJR)⟩
      have hxB : x.length = B := DM.out x (List.mem_of_getElem? hx)
      have A5 := below_alloc w5 (.cells #[] 5)
      obtain ⟨gg, k5', eo, hg5, -, -⟩ := owned_shape O5.out.1 (by omega)
      injection eo with e1 e2 e3
      subst e1; subst e3
      obtain ⟨u, hu⟩ : ∃ u, vs[J]? = some u := ⟨_, List.getElem?_eq_getElem (by omega)⟩
      have ck0 : w5.cell? ⟨gg, J, none⟩ = some u := by
        have h1 := World.ownsRow.cellAt O5.out.1 J (by omega)
        rw [hu] at h1
        exact h1
      have ck := (A5.cell (cell_block_lt ck0)).trans ck0
      have hbs := (O5.out.2.parts).2 J u x hu hx
      obtain ⟨qb, db, rfl⟩ : ∃ q d, u = .slice q B d := by obtain ⟨-, q, d, h, -⟩ := hbs; exact ⟨q, d, by rw [h, hxB]⟩
      obtain ⟨t0, -, -, -, -⟩ := T5.out.below A5
      have HX : Hid (D[J]? = some x) := hx
      have XL : Hid (x.length = B) := hxB
      have HB : Hid (Bs w5 (.slice qb B db) x) := hbs
      have G5 : Hid (w4.heap.size ≤ gg ∧ gg < w5.heap.size) := ⟨hg5, cell_block_lt ck0⟩
      have HVJ : Hid (vs[J]? = some (.slice qb B db)) := hu
      clear hbs hx hu hJ A5 ck0 hg5
      go_upto_region 8 with (at_builtin; refine wpList_copy w5 rfl (.tmp 44) (.tmp 53) rfl x (.slice qb B db) _ rfl rfl rfl HB.out (by rw [XL.out]; omega) ?_; intro q3 c3 w6 hown hb6; obtain ⟨qa, ca, pa, e3, hqa, hka, hlo, hcm, hca⟩ := hown; subst hca; rw [e3]; clear e3)
      rw [XL.out] at hcm
      have X6 : Hid (Below w5.heap.size w5 w6) := hb6
      have hcq : B + pa.length ≤ maxLen := hcm
      have O6 : Hid (OwB w5.heap.size w6 (.slice (some ⟨qa, 0, none⟩) B (B + pa.length)) B x) := by
        have := own_blkR hka hqa (by rw [XL.out]; exact hcm)
        rw [XL.out] at this
        exact this
      have Q6 : Hid (w5.heap.size ≤ qa) := hqa
      clear hqa hka hlo hcm hb6 HB ck t0
      obtain ⟨cq, hcqe⟩ : ∃ cq, B + pa.length = cq := ⟨_, rfl⟩
      rw [hcqe] at hcq O6 ⊢
      unfold maxLen at hcq
      have hBcq : B ≤ cq := by omega
      clear hcqe
      obtain ⟨I, hI⟩ : ∃ I, T % B = I := ⟨_, rfl⟩
      have hIB : I < B := by rw [← hI]; exact Nat.mod_lt _ (by omega)
      have i1 : (T : Int) % (B : Int) = (I : Int) := by rw [← hI]; simp
      have i2 : Int.tmod (T : Int) (B : Int) = (I : Int) := by rw [← hI]; rfl
      have hBz : ¬ (B : Int) = 0 := by omega
      have hBn : ¬ B = 0 := by omega
      have wT : IntKind.i64.wrap (T : Int) = (T : Int) := by rw [IntKind.wrap_i64]; omega
      have wI : IntKind.i64.wrap (I : Int) = (I : Int) := by rw [IntKind.wrap_i64]; omega
      obtain ⟨z, hz⟩ : ∃ z, x[I]? = some z := ⟨_, List.getElem?_eq_getElem (by rw [XL.out]; exact hIB)⟩
      have CZ : Hid (∀ W, OwB w5.heap.size W (.slice (some ⟨qa, 0, none⟩) B cq) B x → W.cell? ⟨qa, I, none⟩ = some (.int .u8 (z.toNat : Int))) := by
        intro W hW
        have h1 := World.ownsRow.cellAt hW I (by omega)
        rw [List.getElem?_map, hz] at h1
        exact h1
      obtain ⟨x2, hx2⟩ : ∃ x2, x.set I (z ^^^ yb) = x2 := ⟨_, rfl⟩
      have XL2 : Hid (x2.length = B) := by unfold Hid; rw [← hx2, List.length_set]; exact XL.out
      have STO : Hid (∀ W, OwB w5.heap.size W (.slice (some ⟨qa, 0, none⟩) B cq) B x → OwB w5.heap.size (W.setCell ⟨qa, I, none⟩ (.int .u8 (bits BinOp.xor IntKind.u8 (z.toNat : Int) (yb.toNat : Int)))) (.slice (some ⟨qa, 0, none⟩) B cq) B x2) := by
        intro W hW
        rw [xor_byte, ← hx2]
        exact own_setX hW _
      have BX3 : Hid (∀ W, Below w5.heap.size w6 W → Five W b3 N B Q E F) := fun W hW => P5.out.kept ((X6.out.trans hW).block b3 (by have := X5.out.1; have := G5.out; omega))
      have BX6 : Hid (∀ W, Below w5.heap.size w6 W → TurnB W b6 K T yb.toNat M L) := fun W hW => T5.out.kept ((X6.out.trans hW).block b6 (by have := X5.out.2; have := G5.out; omega))
      clear hI hz hx2
      refine wp_region_any (by kernel_rfl) ?_
      obtain ⟨gs, hgs⟩ : ∃ gs : List (Value → World → Prop), gs = [IsV (Value.slice (some { block := qa, off := 0 }) B cq), IsV (.pointer (some ⟨b6, 1, none⟩)), IsV (.int .u8 (T : Int)), IsV (.int .i64 (T : Int)), IsV (.pointer (some ⟨b3, 1, none⟩)), IsV (.int .i64 (B : Int)), IsV (.int .i64 (I : Int)), IsV (.pointer (some ⟨qa, I, none⟩)), IsV (.int .u8 (z.toNat : Int)), IsV (.pointer (some ⟨b6, 2, none⟩)), IsV (.int .u8 (yb.toNat : Int)), IsV (.int .u8 (bits BinOp.xor IntKind.u8 (z.toNat : Int) (yb.toNat : Int))), IsV (.pointer (some ⟨qa, I, none⟩)), IsAnyV] := ⟨_, rfl⟩
      have g0 : Hid (gs[0]? = some (IsV (Value.slice (some { block := qa, off := 0 }) B cq))) := by unfold Hid; rw [hgs]; rfl
      have g1 : Hid (gs[1]? = some (IsV (.pointer (some ⟨b6, 1, none⟩)))) := by unfold Hid; rw [hgs]; rfl
      have g2 : Hid (gs[2]? = some (IsV (.int .u8 (T : Int)))) := by unfold Hid; rw [hgs]; rfl
      have g3 : Hid (gs[3]? = some (IsV (.int .i64 (T : Int)))) := by unfold Hid; rw [hgs]; rfl
      have g4 : Hid (gs[4]? = some (IsV (.pointer (some ⟨b3, 1, none⟩)))) := by unfold Hid; rw [hgs]; rfl
      have g5 : Hid (gs[5]? = some (IsV (.int .i64 (B : Int)))) := by unfold Hid; rw [hgs]; rfl
      have g6 : Hid (gs[6]? = some (IsV (.int .i64 (I : Int)))) := by unfold Hid; rw [hgs]; rfl
      have g7 : Hid (gs[7]? = some (IsV (.pointer (some ⟨qa, I, none⟩)))) := by unfold Hid; rw [hgs]; rfl
      have g8 : Hid (gs[8]? = some (IsV (.int .u8 (z.toNat : Int)))) := by unfold Hid; rw [hgs]; rfl
      have g9 : Hid (gs[9]? = some (IsV (.pointer (some ⟨b6, 2, none⟩)))) := by unfold Hid; rw [hgs]; rfl
      have g10 : Hid (gs[10]? = some (IsV (.int .u8 (yb.toNat : Int)))) := by unfold Hid; rw [hgs]; rfl
      have g11 : Hid (gs[11]? = some (IsV (.int .u8 (bits BinOp.xor IntKind.u8 (z.toNat : Int) (yb.toNat : Int))))) := by unfold Hid; rw [hgs]; rfl
      have g12 : Hid (gs[12]? = some (IsV (.pointer (some ⟨qa, I, none⟩)))) := by unfold Hid; rw [hgs]; rfl
      have g13 : Hid (gs[13]? = some (IsAnyV)) := by unfold Hid; rw [hgs]; rfl
      have gk : Hid (∀ p ∈ gs, ∀ v (U U' : World), p v U → p v U') := by
        unfold Hid
        rw [hgs]
        simp only [List.forall_mem_cons]
        exact ⟨(fun _ _ _ h => h), (fun _ _ _ h => h), (fun _ _ _ h => h), (fun _ _ _ h => h), (fun _ _ _ h => h), (fun _ _ _ h => h), (fun _ _ _ h => h), (fun _ _ _ h => h), (fun _ _ _ h => h), (fun _ _ _ h => h), (fun _ _ _ h => h), (fun _ _ _ h => h), (fun _ _ _ h => h), (fun _ _ _ h => h), by simp⟩
      clear hgs
      have JS : Hid (∀ W W', Below W.heap.size W W' → (fun W => Below w5.heap.size w6 W) W → (fun W => Below w5.heap.size w6 W) W') := fun W W' hb h => h.trans (hb.mono (Nat.le_trans X6.out.size h.size))
      have st13 : Hid (Stays (IsX w5.heap.size (.slice (some ⟨qa, 0, none⟩) B cq) B x2)) := stays_x _ _ _ _
      have su13 : Hid (∀ W W', Below W.heap.size W W' → (fun W => OwB w5.heap.size W (.slice (some ⟨qa, 0, none⟩) B cq) B x) W → (fun W => OwB w5.heap.size W (.slice (some ⟨qa, 0, none⟩) B cq) B x) W') := fun W W' hb h => h.below hb
      refine wpAny_inv4 (fun listed ac W => ∃ xv : Nat → Value, ac = ⟨#[Value.agg #[Value.int IntKind.i64 ↑N, Value.int IntKind.i64 ↑B, Value.int IntKind.i64 ↑Q, Value.int IntKind.i64 E, Value.int IntKind.i64 F, Value.int IntKind.u64 ↑S, Value.slice ao n cap, Value.int IntKind.u8 ↑K, Value.int IntKind.u8 ↑T, Value.int IntKind.u8 ↑yb.toNat, Value.int IntKind.i64 M, Value.int IntKind.i64 L], Value.pointer (some { block := w.heap.size, off := 0 }), Value.bool false, Value.pointer (some { block := b3, off := 0 }), Value.int IntKind.u64 ↑S, Value.slice ao n cap, Value.pointer (some { block := b6, off := 0 }), Value.slice (some { block := gg, off := 0 }) R k5, Value.slice (some { block := qa, off := 0 }) B cq, undef, undef, undef, undef, u13, u14, u15, u16, u17, u18, u19, u20, u21, u22, Value.agg #[Value.int IntKind.i64 ↑N, Value.int IntKind.i64 ↑B, Value.int IntKind.i64 ↑Q, Value.int IntKind.i64 E, Value.int IntKind.i64 F], Value.bool false, Value.bool false, Value.agg #[Value.int IntKind.i64 ↑N, Value.int IntKind.i64 ↑B, Value.int IntKind.i64 ↑Q, Value.int IntKind.i64 E, Value.int IntKind.i64 F], Value.bool true, Value.bool false, Value.bool false, Value.bool false, Value.slice ao n cap, Value.int IntKind.i64 ↑n, Value.pointer (some { block := b3, off := 0 }), Value.int IntKind.i64 ↑N, Value.pointer (some { block := b3, off := 1 }), Value.int IntKind.i64 ↑B, Value.int IntKind.i64 ↑P, Value.bool false, Value.bool false, Value.agg #[Value.int IntKind.i64 ↑N, Value.int IntKind.i64 ↑B, Value.int IntKind.i64 ↑Q, Value.int IntKind.i64 E, Value.int IntKind.i64 F], Value.int IntKind.u64 ↑S, Value.slice ao n cap, Value.slice (some { block := gg, off := 0 }) R k5, Value.slice (some { block := w5.heap.size, off := 0 }) 0 0, Value.slice (some { block := gg, off := 0 }) R k5, Value.pointer (some { block := b6, off := 0 }), Value.int IntKind.u8 ↑K, Value.int IntKind.i64 ↑K, Value.slice (some { block := gg, off := 0 }) R k5, Value.int IntKind.i64 ↑R, Value.int IntKind.i64 ↑J, Value.pointer (some { block := gg, off := J }), Value.slice qb B db, Value.slice (some { block := qa, off := 0 }) B cq, xv 0, xv 1, xv 2, xv 3, xv 4, xv 5, xv 6, xv 7, xv 8, xv 9, xv 10, xv 11, xv 12, u68, u69, u70, u71, u72, u73, u74, u75, u76, undef, u78, u79, u80, u81, u82, u83, u84, u85, undef, u87, u88, u89, u90, u91, u92, u93, u94, u95, u96, u97, u98, u99, u100, u101, u102, u103, u104, u105, u106, u107, u108, u109, u110, u111, u112, u113, u114, u115, u116, undef, undef, undef, u120, u121, u122, u123, u124, u125, u126, u127, u128, u129, u130, u131, u132, u133, u134, u135, u136, u137, u138, u139, u140, u141, u142, u143], []⟩ ∧ (fun W => Below w5.heap.size w6 W) W ∧ Lst gs listed xv W ∧ Fe listed xv W 13 (IsX w5.heap.size (.slice (some ⟨qa, 0, none⟩) B cq) B x2) ∧ Fz listed W 13 (fun W => OwB w5.heap.size W (.slice (some ⟨qa, 0, none⟩) B cq) B x)) (by kernel_rfl) ?_ ?_ _ _ _ _ (by kernel_rfl) (of_decide_eq_true (by kernel_rfl)) (Down.start _) ⟨fun jx => if jx = 0 then u55 else if jx = 1 then u56 else if jx = 2 then u57 else if jx = 3 then u58 else if jx = 4 then u59 else if jx = 5 then u60 else if jx = 6 then u61 else if jx = 7 then u62 else if jx = 8 then u63 else if jx = 9 then u64 else if jx = 10 then u65 else if jx = 11 then u66 else if jx = 12 then u67 else undef, rfl, (below0 w6).mono X6.out.size, Lst.start _ _ _ _, Fe.start _ _ _ _ _, Fz.start (O6.out.below (below0 _))⟩
      · rintro listed ac W ⟨xv, rfl, hb, hG, hF13, hU13⟩ hD i hi hnl hd
        have hin : i < 14 := hi
        clear hi
        have hcase : i = 0 ∨ i = 1 ∨ i = 2 ∨ i = 3 ∨ i = 4 ∨ i = 5 ∨ i = 6 ∨ i = 7 ∨ i = 8 ∨ i = 9 ∨ i = 10 ∨ i = 11 ∨ i = 12 ∨ i = 13 := by omega
        rcases hcase with rfl | rfl | rfl | rfl | rfl | rfl | rfl | rfl | rfl | rfl | rfl | rfl | rfl | rfl
        · refine wpOp_step rfl (fun K' hK => ?_)
          clear hd hin hD
          go_simp
          exact hK _ _ ⟨updV xv 0 (Value.slice (some { block := qa, off := 0 }) B cq), by simp [updV], hb, hG.any gk.out g0.out _ rfl, hF13.step (fun _ h => h) (by decide) _, hU13.step (fun h => h) (by decide)⟩
        · refine wpOp_step rfl (fun K' hK => ?_)
          clear hd hin hD
          go_simp
          exact hK _ _ ⟨updV xv 1 (.pointer (some ⟨b6, 1, none⟩)), by simp [updV], hb, hG.any gk.out g1.out _ rfl, hF13.step (fun _ h => h) (by decide) _, hU13.step (fun h => h) (by decide)⟩
        · refine wpOp_step rfl (fun K' hK => ?_)
          simp [Region.binds] at hd
          have e1 : xv 1 = .pointer (some ⟨b6, 1, none⟩) := hG.get g1.out (by simp [hd])
          obtain ⟨c0, c1, c2, c3, c4⟩ := BX6.out W hb
          clear hd hin hD
          go_simp
          exact hK _ _ ⟨updV xv 2 (.int .u8 (T : Int)), by simp [updV, e1], hb, hG.any gk.out g2.out _ rfl, hF13.step (fun _ h => h) (by decide) _, hU13.step (fun h => h) (by decide)⟩
        · refine wpOp_step rfl (fun K' hK => ?_)
          simp [Region.binds] at hd
          have e2 : xv 2 = .int .u8 (T : Int) := hG.get g2.out (by simp [hd])
          clear hd hin hD
          go_simp
          exact hK _ _ ⟨updV xv 3 (.int .i64 (T : Int)), by simp [updV, e2], hb, hG.any gk.out g3.out _ rfl, hF13.step (fun _ h => h) (by decide) _, hU13.step (fun h => h) (by decide)⟩
        · refine wpOp_step rfl (fun K' hK => ?_)
          clear hd hin hD
          go_simp
          exact hK _ _ ⟨updV xv 4 (.pointer (some ⟨b3, 1, none⟩)), by simp [updV], hb, hG.any gk.out g4.out _ rfl, hF13.step (fun _ h => h) (by decide) _, hU13.step (fun h => h) (by decide)⟩
        · refine wpOp_step rfl (fun K' hK => ?_)
          simp [Region.binds] at hd
          have e4 : xv 4 = .pointer (some ⟨b3, 1, none⟩) := hG.get g4.out (by simp [hd])
          obtain ⟨c0, c1, c2, c3, c4⟩ := BX3.out W hb
          clear hd hin hD
          go_simp
          exact hK _ _ ⟨updV xv 5 (.int .i64 (B : Int)), by simp [updV, e4], hb, hG.any gk.out g5.out _ rfl, hF13.step (fun _ h => h) (by decide) _, hU13.step (fun h => h) (by decide)⟩
        · refine wpOp_step rfl (fun K' hK => ?_)
          simp [Region.binds] at hd
          have e3 : xv 3 = .int .i64 (T : Int) := hG.get g3.out (by simp [hd])
          have e5 : xv 5 = .int .i64 (B : Int) := hG.get g5.out (by simp [hd])
          clear hd hin hD
          go_simp
          exact hK _ _ ⟨updV xv 6 (.int .i64 (I : Int)), by simp [updV, e3, e5], hb, hG.any gk.out g6.out _ rfl, hF13.step (fun _ h => h) (by decide) _, hU13.step (fun h => h) (by decide)⟩
        · refine wpOp_step rfl (fun K' hK => ?_)
          simp [Region.binds] at hd
          have e0 : xv 0 = Value.slice (some { block := qa, off := 0 }) B cq := hG.get g0.out (by simp [hd])
          have e6 : xv 6 = .int .i64 (I : Int) := hG.get g6.out (by simp [hd])
          clear hd hin hD
          go_simp
          exact hK _ _ ⟨updV xv 7 (.pointer (some ⟨qa, I, none⟩)), by simp [updV, e0, e6], hb, hG.any gk.out g7.out _ rfl, hF13.step (fun _ h => h) (by decide) _, hU13.step (fun h => h) (by decide)⟩
        · refine wpOp_step rfl (fun K' hK => ?_)
          simp [Region.binds] at hd
          have e7 : xv 7 = .pointer (some ⟨qa, I, none⟩) := hG.get g7.out (by simp [hd])
          have f13 : listed.getD 13 false = false := by
            cases hx : listed.getD 13 false with
            | false => rfl
            | true =>
              have r8 : listed.getD 8 false = true := by have h := hD 13 (by decide) hx; simp [Region.binds] at h; simp [h]
              rw [getD_false hnl] at r8; cases r8
          have us13 := hU13 f13
          have hc := CZ.out W us13
          clear hd hin hD
          go_simp
          exact hK _ _ ⟨updV xv 8 (.int .u8 (z.toNat : Int)), by simp [updV, e7], hb, hG.any gk.out g8.out _ rfl, hF13.step (fun _ h => h) (by decide) _, hU13.step (fun h => h) (by decide)⟩
        · refine wpOp_step rfl (fun K' hK => ?_)
          clear hd hin hD
          go_simp
          exact hK _ _ ⟨updV xv 9 (.pointer (some ⟨b6, 2, none⟩)), by simp [updV], hb, hG.any gk.out g9.out _ rfl, hF13.step (fun _ h => h) (by decide) _, hU13.step (fun h => h) (by decide)⟩
        · refine wpOp_step rfl (fun K' hK => ?_)
          simp [Region.binds] at hd
          have e9 : xv 9 = .pointer (some ⟨b6, 2, none⟩) := hG.get g9.out (by simp [hd])
          obtain ⟨c0, c1, c2, c3, c4⟩ := BX6.out W hb
          clear hd hin hD
          go_simp
          exact hK _ _ ⟨updV xv 10 (.int .u8 (yb.toNat : Int)), by simp [updV, e9], hb, hG.any gk.out g10.out _ rfl, hF13.step (fun _ h => h) (by decide) _, hU13.step (fun h => h) (by decide)⟩
        · refine wpOp_step rfl (fun K' hK => ?_)
          simp [Region.binds] at hd
          have e8 : xv 8 = .int .u8 (z.toNat : Int) := hG.get g8.out (by simp [hd])
          have e10 : xv 10 = .int .u8 (yb.toNat : Int) := hG.get g10.out (by simp [hd])
          clear hd hin hD
          go_simp
          exact hK _ _ ⟨updV xv 11 (.int .u8 (bits BinOp.xor IntKind.u8 (z.toNat : Int) (yb.toNat : Int))), by simp [updV, e8, e10], hb, hG.any gk.out g11.out _ rfl, hF13.step (fun _ h => h) (by decide) _, hU13.step (fun h => h) (by decide)⟩
        · refine wpOp_step rfl (fun K' hK => ?_)
          simp [Region.binds] at hd
          have e0 : xv 0 = Value.slice (some { block := qa, off := 0 }) B cq := hG.get g0.out (by simp [hd])
          have e6 : xv 6 = .int .i64 (I : Int) := hG.get g6.out (by simp [hd])
          clear hd hin hD
          go_simp
          exact hK _ _ ⟨updV xv 12 (.pointer (some ⟨qa, I, none⟩)), by simp [updV, e0, e6], hb, hG.any gk.out g12.out _ rfl, hF13.step (fun _ h => h) (by decide) _, hU13.step (fun h => h) (by decide)⟩
        · refine wpOp_step rfl (fun K' hK => ?_)
          simp [Region.binds] at hd
          have e12 : xv 12 = .pointer (some ⟨qa, I, none⟩) := hG.get g12.out (by simp [hd])
          have e11 : xv 11 = .int .u8 (bits BinOp.xor IntKind.u8 (z.toNat : Int) (yb.toNat : Int)) := hG.get g11.out (by simp [hd])
          have us13 := hU13.get hnl
          clear hd hin hD
          have hc := CZ.out W us13
          have hf := own_frR us13 I
          have hst := STO.out W us13
          go_simp
          exact hK _ _ ⟨updV xv 13 undef, by simp [updV, e11, e12], hb.setCell Q6.out _, hG.any gk.out g13.out _ trivial, Fe.new (hst), Fz.off hnl⟩
      · rintro listed ac W ⟨xv, rfl, hb, hG, hF13, hU13⟩ hall
        have m13 : Hid ((IsX w5.heap.size (.slice (some ⟨qa, 0, none⟩) B cq) B x2) (xv 13) W) := hF13 (hall 13 (by decide))
        have XW : Hid ((fun W => Below w5.heap.size w6 W) W) := hb
        clear hall hG hb gk JS g0 g1 g2 g3 g4 g5 g6 g7 g8 g9 g10 g11 g12 g13 hF13 st13 hU13 su13
        have O7 : Hid (OwB w5.heap.size W (.slice (some ⟨qa, 0, none⟩) B cq) B x2) := m13.out
        have X7 : Hid (Below w5.heap.size w5 W) := X6.out.trans XW.out
        have P7 : Hid (Five W b3 N B Q E F) := BX3.out W XW.out
        have T7 : Hid (TurnB W b6 K T yb.toNat M L) := BX6.out W XW.out
        obtain ⟨w7, hw7⟩ : ∃ x, x = W := ⟨_, rfl⟩
        subst hw7
        have R7 : Hid (w7.ownsRow w4.heap.size 25 1 (.slice (some ⟨gg, 0, none⟩) R k5) R vs ∧ RowsB w4.heap.size w7 vs D) := ⟨owns_kept O5.out.1 (fun q hq => X7.out.block q (World.ownsRow.lt O5.out.1 q hq).2), O5.out.2.below X7.out⟩
        clear XW m13 BX3 BX6 STO CZ O6 Q6 X6 O5 P5 T5
        obtain ⟨t0, t1, t2, t3, t4⟩ := T7.out
        have fr := own_frR R7.out.1 J
        have ck7 : w7.cell? ⟨gg, J, none⟩ = some (.slice qb B db) := by
          have h1 := World.ownsRow.cellAt R7.out.1 J (by omega)
          rw [HVJ.out] at h1
          exact h1
        go_upto_region 10 with fail
        have O8 : Hid ((w7.setCell ⟨gg, J, none⟩ (.slice (some ⟨qa, 0, none⟩) B cq)).ownsRow w4.heap.size 25 1 (.slice (some ⟨gg, 0, none⟩) R k5) R (vs.set J (.slice (some ⟨qa, 0, none⟩) B cq))) := own_setR R7.out.1 _
        have S8 : Hid (RowsB w4.heap.size (w7.setCell ⟨gg, J, none⟩ (.slice (some ⟨qa, 0, none⟩) B cq)) (vs.set J (.slice (some ⟨qa, 0, none⟩) B cq)) (D.set J x2)) := by
          refine R7.out.2.store R7.out.1 ?_
          have h1 := O7.out.mono Z4.out.2
          rw [XL2.out]
          exact h1
        have V8 : Hid (OwB w4.heap.size (w7.setCell ⟨gg, J, none⟩ (.slice (some ⟨qa, 0, none⟩) B cq)) (.slice (some ⟨qa, 0, none⟩) B cq) x2.length x2) := S8.out.2 J _ _ (by rw [List.getElem?_set]; simp; omega) (by rw [List.getElem?_set]; simp [DL.out]; omega)
        have P8 : Hid (Five (w7.setCell ⟨gg, J, none⟩ (.slice (some ⟨qa, 0, none⟩) B cq)) b3 N B Q E F) := P7.out.kept (Below.heap_setCell _ _ _ _ (by have := X5.out.1; have := G5.out.1; show b3 ≠ gg; omega))
        have T8 : Hid (TurnB (w7.setCell ⟨gg, J, none⟩ (.slice (some ⟨qa, 0, none⟩) B cq)) b6 K T yb.toNat M L) := T7.out.kept (Below.heap_setCell _ _ _ _ (by have := X5.out.2; have := G5.out.1; show b6 ≠ gg; omega))
        have B8 : Hid (Below w.heap.size w (w7.setCell ⟨gg, J, none⟩ (.slice (some ⟨qa, 0, none⟩) B cq))) := (on_below B5.out X7.out).setCell (by have := Z4.out.1; have := G5.out.1; show w.heap.size ≤ gg; omega) _
        have Z8 : Hid (w4.heap.size ≤ (w7.setCell ⟨gg, J, none⟩ (.slice (some ⟨qa, 0, none⟩) B cq)).heap.size) := Nat.le_trans (Nat.le_trans Z4.out.2 X7.out.size) (Nat.le_of_eq (by simp [World.setCell]))
        obtain ⟨w8, hw8⟩ : ∃ x, w7.setCell ⟨gg, J, none⟩ (.slice (some ⟨qa, 0, none⟩) B cq) = x := ⟨_, rfl⟩
        rw [hw8] at O8 S8 V8 P8 T8 B8 Z8 ⊢
        have UL : Hid ((vs.set J (.slice (some ⟨qa, 0, none⟩) B cq)).length = R) := by unfold Hid; rw [List.length_set]; exact VL
        have DL8 : Hid ((D.set J x2).length = R) := by unfold Hid; rw [List.length_set]; exact DL.out
        have DM8 : Hid (∀ y ∈ D.set J x2, y.length = B) := by
          intro y hy
          rcases List.mem_or_eq_of_mem_set hy with h | h
          · exact DM.out y h
          · rw [h]; exact XL2.out
        obtain ⟨U, hU⟩ : ∃ x, vs.set J (.slice (some ⟨qa, 0, none⟩) B cq) = x := ⟨_, rfl⟩
        rw [hU] at O8 S8 UL
        obtain ⟨D8, hD8⟩ : ∃ x, D.set J x2 = x := ⟨_, rfl⟩
        rw [hD8] at S8 DL8 DM8
        have RA : Hid (N + A = R) := hR
        have CT : Hid (∀ W v us ls, Sl 1 W v us.length us → Parts W us ls → Calls Try.prog 17 #[.agg #[.int .i64 (N : Int), .int .i64 (B : Int), .int .i64 (Q : Int), .int .i64 E, .int .i64 F], .int .u64 (S : Int), .int .i64 L, v] W fun e w' => TellsP (RightP N B A (hasR S A Q N) L ls) e ∧ Below W.heap.size W w') := fun W v us ls h1 h2 => cright_any N B Q A S E F L v us ls W PR.out HS.out (by omega) HL63.out h1 h2
        clear hw8 hU hD8 R7 O7 X7 P7 T7 fr ck7 t0 t1 t2 t3 t4 HVJ VL DL DM XL2 XL HX hR
        obtain ⟨t0, t1, t2, t3, t4⟩ := T8.out
        obtain ⟨c0, c1, c2, c3, c4⟩ := P8.out
        have hRk : R ≤ k5 ∧ k5 ≤ 9223372036854775807 := by
          obtain ⟨q, c, h, -, h2, h3⟩ := owned_shape O8.out (by omega)
          injection h with _ _ h
          unfold maxLen at h3
          omega
        obtain ⟨hRk, hk563⟩ := hRk
        by_cases hM0 : M < 0
        · have hMne : ¬ M = 0 := by omega
          have hMgt : ¬ 0 < M := by omega
          obtain ⟨R1, hR1⟩ : ∃ R1, R = R1 + 1 := ⟨R - 1, by omega⟩
          have wR1 : IntKind.i64.wrap ((R : Int) - 1) = (R1 : Int) := by rw [IntKind.wrap_i64]; omega
          have hR1k : R1 ≤ k5 := by omega
          have sl := fun W => slice_to_g (P := Try.prog) 32 elemParts 1 sizeParts W (some ⟨gg, 0, none⟩) R k5 R1 hR1k
          have SL : Hid (Sl 1 w8 (.slice (some ⟨gg, 0, none⟩) R1 k5) (U.take R1).length (U.take R1)) := by
            have h1 := (owned_sl O8.out).take (N := R1) (by omega)
            have h2 : (U.take R1).length = R1 := by rw [List.length_take, UL.out]; omega
            rw [h2]
            exact h1
          go_wp2_with fail
          refine (CT.out w8 _ _ _ SL.out (S8.out.parts.take R1)).mono ?_
          rintro e w9 ⟨⟨b, rfl, hb⟩, hx⟩
          have B9 : Hid (Below w.heap.size w w9) := on_below B8.out hx
          obtain rfl : b = false := by
            cases b with
            | false => rfl
            | true =>
              have h1 := (hb.1 rfl).1
              rw [List.length_take, DL8.out, RA.out] at h1
              omega
          go_wp2
          go_ret
          exact ⟨rfl, B9.out⟩
        by_cases hM1 : 0 < M
        · have hMne : ¬ M = 0 := by omega
          have hMgt : M > 0 := hM1
          go_upto_region 14 with (at_builtin; go_loud (refine wpList_addS _ rfl (.tmp 90) (.tmp 92) rfl w4.heap.size (.slice (some ⟨gg, 0, none⟩) R k5) R U rfl (owns_below O8.out (below_alloc _ _)) _ (.slice (some ⟨qa, 0, none⟩) B cq) rfl rfl (alloc_one _ _) (by omega) (by have := Z8.out; simp; omega) ?_; intro a9 k9 w9 ho9 hg9 hnc9 hcm9))
          have X9 : Hid (Below w4.heap.size w8 w9) := below_added_row (below_alloc' w8 _ Z8.out) Z8.out O8.out hg9
          have S9 : Hid (RowsB w4.heap.size w9 U D8 ∧ OwB w4.heap.size w9 (.slice (some ⟨qa, 0, none⟩) B cq) x2.length x2) := by
            have h1 := S8.out.below (below_alloc w8 (.cells #[.slice (some ⟨qa, 0, none⟩) B cq] 25))
            have h0 := owns_below O8.out (below_alloc w8 (.cells #[.slice (some ⟨qa, 0, none⟩) B cq] 25))
            have h2 : RowsB w4.heap.size w8 [.slice (some ⟨qa, 0, none⟩) B cq] [x2] := ⟨rfl, fun i v l hv hl => by
              have : i = 0 := by have := (List.getElem?_eq_some_iff.1 hv).1; simp at this; omega
              subst this
              simp at hv hl
              subst hv; subst hl
              exact V8.out⟩
            have h3 := h2.below (below_alloc w8 (.cells #[.slice (some ⟨qa, 0, none⟩) B cq] 25))
            exact ⟨h1.grown h0 hg9, (h3.grown h0 hg9).2 0 _ _ rfl rfl⟩
          have P9 : Hid (Five w9 b3 N B Q E F) := P8.out.kept (X9.out.block b3 X5.out.1)
          have T9 : Hid (TurnB w9 b6 K T yb.toNat M L) := T8.out.kept (X9.out.block b6 X5.out.2)
          have B9 : Hid (Below w.heap.size w w9) := B8.out.trans (X9.out.mono Z4.out.1)
          have SL : Hid (Sl 1 w9 (.slice a9 (R + 1) k9) (U ++ [Value.slice (some ⟨qa, 0, none⟩) B cq]).length (U ++ [Value.slice (some ⟨qa, 0, none⟩) B cq])) := by
            have h1 := owned_sl ho9
            have h2 : (U ++ [Value.slice (some ⟨qa, 0, none⟩) B cq]).length = R + 1 := by rw [List.length_append, UL.out]; rfl
            rw [h2]
            exact h1
          have SP : Hid (Parts w9 (U ++ [Value.slice (some ⟨qa, 0, none⟩) B cq]) (D8 ++ [x2])) := (S9.out.1.snoc S9.out.2).parts
          clear X9 S9 ho9 hg9 P8 T8 O8 S8 V8 t0 t1 t2 t3 t4 c0 c1 c2 c3 c4
          obtain ⟨t0, t1, t2, t3, t4⟩ := T9.out
          obtain ⟨c0, c1, c2, c3, c4⟩ := P9.out
          go_wp2_with fail
          refine (CT.out w9 _ _ _ SL.out SP.out).mono ?_
          rintro e w10 ⟨⟨b, rfl, hb⟩, hx⟩
          have B10 : Hid (Below w.heap.size w w10) := on_below B9.out hx
          obtain rfl : b = false := by
            cases b with
            | false => rfl
            | true =>
              have h1 := (hb.1 rfl).1
              rw [List.length_append, DL8.out, RA.out] at h1
              simp at h1
          go_wp2
          go_ret
          exact ⟨rfl, B10.out⟩
        · have hMe : M = 0 := by omega
          by_cases hL0 : L < 0
          · have hLge : ¬ 0 ≤ L := by omega
            have SL : Hid (Sl 1 w8 (.slice (some ⟨gg, 0, none⟩) R k5) U.length U) := by
              have h1 := owned_sl O8.out
              rw [UL.out]
              exact h1
            go_wp2_with fail
            refine (CT.out w8 _ _ _ SL.out S8.out.parts).mono ?_
            rintro e w9 ⟨⟨b, rfl, hb⟩, hx⟩
            have B9 : Hid (Below w.heap.size w w9) := on_below B8.out hx
            obtain rfl : b = false := by
              cases b with
              | false => rfl
              | true =>
                have h1 := (hb.1 rfl).2.1.1
                omega
            go_wp2
            go_ret
            exact ⟨rfl, B9.out⟩
          obtain ⟨m, rfl⟩ : ∃ m : Nat, L = m := ⟨L.toNat, by omega⟩
          have hLge : (0 : Int) ≤ (m : Int) := by omega
          have FL : Hid ((D8.take N).flatten.length = P) := by
            unfold Hid
            rw [flat_len (B := B) (fun y hy => DM8.out y (List.mem_of_mem_take hy)), List.length_take, DL8.out, ← RA.out, Nat.min_eq_left (by omega)]
            exact HNB.out
          by_cases hmP : P < m
          · have hmPI : ¬ (m : Int) ≤ (P : Int) := by omega
            have SL : Hid (Sl 1 w8 (.slice (some ⟨gg, 0, none⟩) R k5) U.length U) := by
              have h1 := owned_sl O8.out
              rw [UL.out]
              exact h1
            go_wp2_with fail
            refine (CT.out w8 _ _ _ SL.out S8.out.parts).mono ?_
            rintro e w9 ⟨⟨b, rfl, hb⟩, hx⟩
            have B9 : Hid (Below w.heap.size w w9) := on_below B8.out hx
            obtain rfl : b = false := by
              cases b with
              | false => rfl
              | true =>
                have h1 := (hb.1 rfl).2.1.2.1
                rw [FL.out] at h1
                omega
            go_wp2
            go_ret
            exact ⟨rfl, B9.out⟩
          have hmPI : (m : Int) ≤ (P : Int) := by omega
          have hNk : N ≤ k5 := by have := RA.out; omega
          have slN := fun W => slice_to_g (P := Try.prog) 32 elemParts 1 sizeParts W (some ⟨gg, 0, none⟩) R k5 N hNk
          have UC : Hid (∀ i, i < N → ∃ v x, U[i]? = some v ∧ D8[i]? = some x ∧ x.length = B ∧ w8.cell? ⟨gg, i, none⟩ = some v ∧ Bs w8 v x) := by
            intro i hi
            have h1 : i < U.length := by rw [UL.out, ← RA.out]; omega
            have h2 : i < D8.length := by rw [DL8.out, ← RA.out]; omega
            have h3 := World.ownsRow.cellAt O8.out i (by rw [← RA.out]; omega)
            rw [List.getElem?_eq_getElem h1] at h3
            exact ⟨U[i], D8[i], List.getElem?_eq_getElem h1, List.getElem?_eq_getElem h2, DM8.out _ (List.getElem_mem h2), h3, S8.out.parts.2 i _ _ (List.getElem?_eq_getElem h1) (List.getElem?_eq_getElem h2)⟩
          have hNN : (N : Int) ≤ (k5 : Int) := by omega
          have hb38 : b3 < w8.heap.size := cell_block_lt c0
          go_wp2_with fail
          go_loopw [10, 119] (fun v i wr => ∃ (k : Nat) (ao : Option Addr) (n c : Nat), k ≤ N ∧ i = .int .i64 k ∧ v = .slice ao n c ∧ n ≤ c ∧ c ≤ 9223372036854775807 ∧ Hid (OwB w8.heap.size wr (.slice ao n c) n (D8.take k).flatten) ∧ Hid (Below w8.heap.size w8 wr)) (fun _ i _ => N - (intOf i).toNat)
          case atStart => exact ⟨0, _, _, _, by omega, rfl, rfl, by omega, by omega, OwB.new w8 (Nat.le_refl _), below_alloc _ _⟩
          case round =>
            obtain ⟨k, ao2, n2, k2, hk, rfl, rfl, hn2, hk2, OA, BA⟩ := hrel
            have NL : Hid (n2 = k * B) := by
              have h1 := OA.out.len
              rw [flat_len (B := B) (fun y hy => DM8.out y (List.mem_of_mem_take hy)), List.length_take, DL8.out, Nat.min_eq_left (by have := RA.out; omega)] at h1
              exact h1.symm
            by_cases hlt : k < N
            · obtain ⟨v, y, hv, hy, hyB, hcv, hbv⟩ := UC.out k hlt
              have ckv := (BA.out.cell (cell_block_lt hcv)).trans hcv
              have HBV : Hid (Sl 1 wr v y.length (y.map bv)) := hbv.below BA.out
              have HY : Hid (D8[k]? = some y) := hy
              have hn3 : n2 ≤ 3600 := by have h1 := NL.out; have h2 : k * B ≤ 60 * 60 := Nat.mul_le_mul (by omega) hB60; omega
              have HYB : Hid (y.length = B) := hyB
              clear hv hy hyB hcv hbv
              go_wp2_with (at_builtin; refine wpList_addB _ rfl (.tmp 123) (.tmp 124) rfl w8.heap.size (.slice ao2 n2 k2) n2 _ rfl OA.out _ y.length y rfl HBV.out (by rw [HYB.out]; omega) BA.out.size ?_; intro oa oc w9 ho9 hg9 hnc9 hcm9)
              have B9 : Hid (Below w8.heap.size w8 w9) := below_addB BA.out OA.out (Nat.le_refl _) BA.out.size hg9
              have O9 : Hid (OwB w8.heap.size w9 (.slice oa (n2 + y.length) oc) (n2 + y.length) (D8.take (k + 1)).flatten) := by
                rw [flat_take_next HY.out]
                exact ho9
              unfold maxLen at hcm9
              clear ho9 hg9 OA BA HBV ckv
              go_roundw
              case rel => exact ⟨k + 1, oa, n2 + y.length, oc, by omega, by go_num, rfl, hnc9, hcm9, O9, B9⟩
              case measure => simp [intOf]; omega
            · obtain rfl : N = k := by omega
              have BX3 : Hid (∀ W, Below wr.heap.size wr W → Five W b3 N B Q E F) := fun W hW => P8.out.below (on_below BA.out hW)
              have BX6 : Hid (∀ W, Below wr.heap.size wr W → TurnB W b6 K T yb.toNat M m) := fun W hW => T8.out.below (on_below BA.out hW)
              obtain ⟨DW, hDW⟩ : ∃ DW, compD N B (hasR S A Q N) ((D8.take N).flatten.take m) = DW := ⟨_, rfl⟩
              have HDW : Hid (compD N B (hasR S A Q N) ((D8.take N).flatten.take m) = DW) := hDW
              have hmn : m ≤ n2 := by
                have h1 := OA.out.len
                rw [FL.out] at h1
                omega
              have OM : Hid (∀ W, Below wr.heap.size wr W → Bs W (.slice ao2 m k2) ((D8.take N).flatten.take m)) := fun W hW => (OA.out.below hW).bs.take (by rw [FL.out]; omega)
              have hmk : m ≤ k2 := by omega
              have slM := fun W => slice_to W ao2 n2 k2 m hmk
              have C7 : Hid (∀ W, Below wr.heap.size wr W → Calls Try.prog 15 #[.agg #[.int .i64 (N : Int), .int .i64 (B : Int), .int .i64 (Q : Int), .int .i64 E, .int .i64 F], .int .u64 (S : Int), .slice ao2 m k2] W fun e w' => ∃ v, e = .returned v ∧ IsRbX DW v w' ∧ Below W.heap.size W w') := by
                intro W hW
                refine (CR.out _ _ W (OM.out W hW)).mono ?_
                rintro e w' ⟨a, c, us, rfl, ho, hr, hb⟩
                refine ⟨_, rfl, ⟨us, ?_, ?_⟩, hb⟩
                · have h1 := owned_sl ho
                  have h2 : us.length = N + A := by have := ho.1; omega
                  rw [h2]
                  exact h1
                · rw [← HDW.out]
                  exact hr.parts
              obtain ⟨wb, hwb⟩ : ∃ wb : Bool, (wb = true ↔ D8 = DW) := ⟨decide (D8 = DW), by simp⟩
              have WB : Hid (wb = true ↔ D8 = DW) := hwb
              have SLW : Hid (∀ W, Below wr.heap.size wr W → Sl 1 W (.slice (some ⟨gg, 0, none⟩) R k5) U.length U ∧ Parts W U D8) := by
                intro W hW
                have h1 := owned_sl O8.out
                rw [← UL.out] at h1 ⊢
                exact ⟨h1.below (on_below BA.out hW), S8.out.parts.below (on_below BA.out hW)⟩
              have C8 : Hid (∀ W v, Below wr.heap.size wr W → IsRbX DW v W → Calls Try.prog 16 #[.slice (some ⟨gg, 0, none⟩) R k5, v] W fun e w' => ∃ u, e = .returned u ∧ IsV (.bool wb) u w' ∧ Below W.heap.size W w') := by
                rintro W v hW ⟨us, h1, h2⟩
                refine (same13_any _ v U us D8 DW W (SLW.out W hW).1 (SLW.out W hW).2 h1 h2).mono ?_
                rintro e w' ⟨⟨b, rfl, hb⟩, hx⟩
                have e1 : b = wb := by rw [Bool.eq_iff_iff, hb, WB.out]
                subst e1
                exact ⟨_, rfl, rfl, hx⟩
              have HMP : Hid (m ≤ P) := by unfold Hid; omega
              clear hDW hwb OA OM hmn CR
              go_upto_region 22 with fail
              refine wp_region_any (by kernel_rfl) ?_
              obtain ⟨gs, hgs⟩ : ∃ gs : List (Value → World → Prop), gs = [IsV (Value.slice (some { block := gg, off := 0 }) R k5), IsV (.agg #[.int .i64 (N : Int), .int .i64 (B : Int), .int .i64 (Q : Int), .int .i64 E, .int .i64 F]), IsV (Value.int IntKind.u64 ↑S), IsV (Value.slice ao2 n2 k2), IsV (.pointer (some ⟨b6, 4, none⟩)), IsV (.int .i64 (m : Int)), IsV (.slice ao2 m k2), IsRbX DW, IsV (.bool wb), IsV (.bool wb)] := ⟨_, rfl⟩
              have g0 : Hid (gs[0]? = some (IsV (Value.slice (some { block := gg, off := 0 }) R k5))) := by unfold Hid; rw [hgs]; rfl
              have g1 : Hid (gs[1]? = some (IsV (.agg #[.int .i64 (N : Int), .int .i64 (B : Int), .int .i64 (Q : Int), .int .i64 E, .int .i64 F]))) := by unfold Hid; rw [hgs]; rfl
              have g2 : Hid (gs[2]? = some (IsV (Value.int IntKind.u64 ↑S))) := by unfold Hid; rw [hgs]; rfl
              have g3 : Hid (gs[3]? = some (IsV (Value.slice ao2 n2 k2))) := by unfold Hid; rw [hgs]; rfl
              have g4 : Hid (gs[4]? = some (IsV (.pointer (some ⟨b6, 4, none⟩)))) := by unfold Hid; rw [hgs]; rfl
              have g5 : Hid (gs[5]? = some (IsV (.int .i64 (m : Int)))) := by unfold Hid; rw [hgs]; rfl
              have g6 : Hid (gs[6]? = some (IsV (.slice ao2 m k2))) := by unfold Hid; rw [hgs]; rfl
              have g7 : Hid (gs[7]? = some (IsRbX DW)) := by unfold Hid; rw [hgs]; rfl
              have g8 : Hid (gs[8]? = some (IsV (.bool wb))) := by unfold Hid; rw [hgs]; rfl
              have g9 : Hid (gs[9]? = some (IsV (.bool wb))) := by unfold Hid; rw [hgs]; rfl
              have gk : Hid (∀ p ∈ gs, Stays p) := by
                unfold Hid
                rw [hgs]
                simp only [List.forall_mem_cons]
                exact ⟨stays_v _, stays_v _, stays_v _, stays_v _, stays_v _, stays_v _, stays_v _, stays_rbx _, stays_v _, stays_v _, by simp⟩
              clear hgs
              refine wpAny_inv (fun listed ac Wb => ∃ xvb : Nat → Value, ac = ⟨#[Value.agg #[Value.int IntKind.i64 ↑N, Value.int IntKind.i64 ↑B, Value.int IntKind.i64 ↑Q, Value.int IntKind.i64 E, Value.int IntKind.i64 F, Value.int IntKind.u64 ↑S, Value.slice ao n cap, Value.int IntKind.u8 ↑K, Value.int IntKind.u8 ↑T, Value.int IntKind.u8 ↑yb.toNat, Value.int IntKind.i64 (0 : Int), Value.int IntKind.i64 ↑m], Value.pointer (some { block := w.heap.size, off := 0 }), Value.bool false, Value.pointer (some { block := b3, off := 0 }), Value.int IntKind.u64 ↑S, Value.slice ao n cap, Value.pointer (some { block := b6, off := 0 }), Value.slice (some { block := gg, off := 0 }) R k5, Value.slice (some { block := qa, off := 0 }) B cq, xvb 9, Value.slice ao2 n2 k2, undef, u12, u13, u14, u15, u16, u17, u18, u19, u20, u21, u22, Value.agg #[Value.int IntKind.i64 ↑N, Value.int IntKind.i64 ↑B, Value.int IntKind.i64 ↑Q, Value.int IntKind.i64 E, Value.int IntKind.i64 F], Value.bool false, Value.bool false, Value.agg #[Value.int IntKind.i64 ↑N, Value.int IntKind.i64 ↑B, Value.int IntKind.i64 ↑Q, Value.int IntKind.i64 E, Value.int IntKind.i64 F], Value.bool true, Value.bool false, Value.bool false, Value.bool false, Value.slice ao n cap, Value.int IntKind.i64 ↑n, Value.pointer (some { block := b3, off := 0 }), Value.int IntKind.i64 ↑N, Value.pointer (some { block := b3, off := 1 }), Value.int IntKind.i64 ↑B, Value.int IntKind.i64 ↑P, Value.bool false, Value.bool false, Value.agg #[Value.int IntKind.i64 ↑N, Value.int IntKind.i64 ↑B, Value.int IntKind.i64 ↑Q, Value.int IntKind.i64 E, Value.int IntKind.i64 F], Value.int IntKind.u64 ↑S, Value.slice ao n cap, Value.slice (some { block := gg, off := 0 }) R k5, Value.slice (some { block := w5.heap.size, off := 0 }) 0 0, Value.slice (some { block := gg, off := 0 }) R k5, Value.pointer (some { block := b6, off := 0 }), Value.int IntKind.u8 ↑K, Value.int IntKind.i64 ↑K, Value.slice (some { block := gg, off := 0 }) R k5, Value.int IntKind.i64 ↑R, Value.int IntKind.i64 ↑J, Value.pointer (some { block := gg, off := J }), Value.slice qb B db, Value.slice (some { block := qa, off := 0 }) B cq, xv 0, xv 1, xv 2, xv 3, xv 4, xv 5, xv 6, xv 7, xv 8, xv 9, xv 10, xv 11, xv 12, Value.slice (some { block := gg, off := 0 }) R k5, Value.pointer (some { block := b6, off := 0 }), Value.int IntKind.u8 ↑K, Value.int IntKind.i64 ↑K, Value.slice (some { block := gg, off := 0 }) R k5, Value.int IntKind.i64 ↑R, Value.int IntKind.i64 ↑J, Value.slice (some { block := qa, off := 0 }) B cq, Value.pointer (some { block := gg, off := J }), Value.bool false, Value.pointer (some { block := b6, off := 3 }), Value.int IntKind.i64 (0 : Int), Value.bool false, u81, u82, u83, u84, u85, Value.bool false, Value.pointer (some { block := b6, off := 3 }), Value.int IntKind.i64 (0 : Int), Value.bool false, u90, u91, u92, u93, Value.pointer (some { block := b6, off := 3 }), Value.int IntKind.i64 (0 : Int), Value.bool true, Value.bool true, Value.pointer (some { block := b6, off := 4 }), Value.int IntKind.i64 ↑m, Value.bool true, Value.bool true, Value.bool true, Value.pointer (some { block := b6, off := 4 }), Value.int IntKind.i64 ↑m, Value.pointer (some { block := b3, off := 0 }), Value.int IntKind.i64 ↑N, Value.pointer (some { block := b3, off := 1 }), Value.int IntKind.i64 ↑B, Value.int IntKind.i64 ↑P, Value.bool true, Value.bool true, Value.bool true, Value.slice (some { block := w8.heap.size, off := 0 }) 0 0, Value.slice (some { block := gg, off := 0 }) R k5, Value.pointer (some { block := b3, off := 0 }), Value.int IntKind.i64 ↑N, Value.slice (some { block := gg, off := 0 }) N k5, Value.int IntKind.i64 ↑N, Value.int IntKind.i64 ↑N, Value.bool false, u121, u122, u123, u124, u125, u126, xvb 0, xvb 1, xvb 2, xvb 3, xvb 4, xvb 5, xvb 6, xvb 7, xvb 8, u136, u137, u138, u139, u140, u141, u142, u143], []⟩ ∧ Below wr.heap.size wr Wb ∧ Lst gs listed xvb Wb) (by kernel_rfl) ?_ ?_ _ _ _ _ (by kernel_rfl) (of_decide_eq_true (by kernel_rfl)) ⟨fun j => if j = 0 then u127 else if j = 1 then u128 else if j = 2 then u129 else if j = 3 then u130 else if j = 4 then u131 else if j = 5 then u132 else if j = 6 then u133 else if j = 7 then u134 else if j = 8 then u135 else if j = 9 then Value.bool true else undef, rfl, below0 _, Lst.start _ _ _ _⟩
              · rintro listed ac Wb ⟨xvb, rfl, hb, hG⟩ i hi hd
                have hin : i < 10 := hi
                clear hi
                have hcase : i = 0 ∨ i = 1 ∨ i = 2 ∨ i = 3 ∨ i = 4 ∨ i = 5 ∨ i = 6 ∨ i = 7 ∨ i = 8 ∨ i = 9 := by omega
                rcases hcase with rfl | rfl | rfl | rfl | rfl | rfl | rfl | rfl | rfl | rfl
                · refine wpOp_step rfl (fun K' hK => ?_)
                  clear hd hin
                  go_simp
                  exact hK _ _ ⟨updV xvb 0 (Value.slice (some { block := gg, off := 0 }) R k5), by simp [updV], hb, hG.same gk.out g0.out _ rfl⟩
                · refine wpOp_step rfl (fun K' hK => ?_)
                  obtain ⟨c0, c1, c2, c3, c4⟩ := BX3.out Wb hb
                  clear hd hin
                  go_simp
                  exact hK _ _ ⟨updV xvb 1 (.agg #[.int .i64 (N : Int), .int .i64 (B : Int), .int .i64 (Q : Int), .int .i64 E, .int .i64 F]), by simp [updV], hb, hG.same gk.out g1.out _ rfl⟩
                · refine wpOp_step rfl (fun K' hK => ?_)
                  clear hd hin
                  go_simp
                  exact hK _ _ ⟨updV xvb 2 (Value.int IntKind.u64 ↑S), by simp [updV], hb, hG.same gk.out g2.out _ rfl⟩
                · refine wpOp_step rfl (fun K' hK => ?_)
                  clear hd hin
                  go_simp
                  exact hK _ _ ⟨updV xvb 3 (Value.slice ao2 n2 k2), by simp [updV], hb, hG.same gk.out g3.out _ rfl⟩
                · refine wpOp_step rfl (fun K' hK => ?_)
                  clear hd hin
                  go_simp
                  exact hK _ _ ⟨updV xvb 4 (.pointer (some ⟨b6, 4, none⟩)), by simp [updV], hb, hG.same gk.out g4.out _ rfl⟩
                · refine wpOp_step rfl (fun K' hK => ?_)
                  simp [Region.binds] at hd
                  have e4 : xvb 4 = .pointer (some ⟨b6, 4, none⟩) := hG.get g4.out (by simp [hd])
                  obtain ⟨c0, c1, c2, c3, c4⟩ := BX6.out Wb hb
                  clear hd hin
                  go_simp
                  exact hK _ _ ⟨updV xvb 5 (.int .i64 (m : Int)), by simp [updV, e4], hb, hG.same gk.out g5.out _ rfl⟩
                · refine wpOp_step rfl (fun K' hK => ?_)
                  simp [Region.binds] at hd
                  have e3 : xvb 3 = Value.slice ao2 n2 k2 := hG.get g3.out (by simp [hd])
                  have e5 : xvb 5 = .int .i64 (m : Int) := hG.get g5.out (by simp [hd])
                  clear hd hin
                  go_simp
                  exact hK _ _ ⟨updV xvb 6 (.slice ao2 m k2), by simp [updV, e3, e5], hb, hG.same gk.out g6.out _ rfl⟩
                · refine wpOp_step rfl (fun K' hK => ?_)
                  simp [Region.binds] at hd
                  have e1 : xvb 1 = .agg #[.int .i64 (N : Int), .int .i64 (B : Int), .int .i64 (Q : Int), .int .i64 E, .int .i64 F] := hG.get g1.out (by simp [hd])
                  have e2 : xvb 2 = Value.int IntKind.u64 ↑S := hG.get g2.out (by simp [hd])
                  have e6 : xvb 6 = .slice ao2 m k2 := hG.get g6.out (by simp [hd])
                  clear hd hin
                  go_simp
                  refine (C7.out Wb hb).mono ?_
                  rintro e w' ⟨v, rfl, hv, hb'⟩
                  go_wp2_with fail
                  exact ⟨updV xvb 7 v, by simp [updV, e1, e2, e6], hb.trans (hb'.mono hb.size), hG.step gk.out hb' g7.out v hv⟩
                · refine wpOp_step rfl (fun K' hK => ?_)
                  simp [Region.binds] at hd
                  have e0 : xvb 0 = Value.slice (some { block := gg, off := 0 }) R k5 := hG.get g0.out (by simp [hd])
                  have m7 : IsRbX DW (xvb 7) Wb := hG.get g7.out (by simp [hd])
                  clear hd hin
                  go_simp
                  refine (C8.out Wb _ hb m7).mono ?_
                  rintro e w' ⟨v, rfl, hv, hb'⟩
                  go_wp2_with fail
                  exact ⟨updV xvb 8 v, by simp [updV, e0], hb.trans (hb'.mono hb.size), hG.step gk.out hb' g8.out v hv⟩
                · refine wpOp_step rfl (fun K' hK => ?_)
                  simp [Region.binds] at hd
                  have e8 : xvb 8 = .bool wb := hG.get g8.out (by simp [hd])
                  clear hd hin
                  go_simp
                  exact hK _ _ ⟨updV xvb 9 (.bool wb), by simp [updV, e8], hb, hG.same gk.out g9.out _ rfl⟩
              · rintro listed ac Wb ⟨xvb, rfl, hb, hG⟩ hall
                have e9 : xvb 9 = .bool wb := hG.get g9.out (hall 9 (by decide))
                have XW : Hid (Below wr.heap.size wr Wb) := hb
                clear hall hG hb gk g0 g1 g2 g3 g4 g5 g6 g7 g8 g9
                rw [e9]
                clear e9
                have P9 := BX3.out Wb XW.out
                have T9 := BX6.out Wb XW.out
                have SLX : Hid (Sl 1 Wb (.slice (some ⟨gg, 0, none⟩) R k5) U.length U ∧ Parts Wb U D8) := SLW.out Wb XW.out
                have B9 : Hid (Below w.heap.size w Wb) := on_below B8.out (on_below BA.out XW.out)
                clear XW BX3 BX6 C7 C8 SLW P8 T8 t0 t1 t2 t3 t4 c0 c1 c2 c3 c4
                obtain ⟨t0, t1, t2, t3, t4⟩ := T9
                obtain ⟨c0, c1, c2, c3, c4⟩ := P9
                go_wp2_with fail
                refine (CT.out Wb _ _ _ SLX.out.1 SLX.out.2).mono ?_
                rintro e w10 ⟨⟨b, rfl, hb⟩, hx⟩
                have B10 : Hid (Below w.heap.size w w10) := on_below B9.out hx
                have e1 : b = wb := by
                  rw [Bool.eq_iff_iff, hb, WB.out, ← HDW.out]
                  exact right_iff m (hasR_rw S A Q N) (by rw [DL8.out, RA.out]) DM8.out (by rw [HNB.out]; exact HMP.out)
                subst e1
                go_wp2
                go_ret
                exact ⟨ret_bool (by simp), B10.out⟩

theorem composeRight_law (N B Q E F S : Int) (ov : Value) (l : List UInt8) (K T Y M L : Int) (w : World) (h : (Lit.int .u64 S).wf = true ∧ Bs w ov l ∧ (Lit.int .u8 K).wf = true ∧ (Lit.int .u8 T).wf = true ∧ (Lit.int .u8 Y).wf = true ∧ (Lit.int .i64 M).wf = true ∧ (Lit.int .i64 L).wf = true) :
    Calls Try.prog 3 #[.agg #[.int .i64 N, .int .i64 B, .int .i64 Q, .int .i64 E, .int .i64 F, .int .u64 S, ov, .int .u8 K, .int .u8 T, .int .u8 Y, .int .i64 M, .int .i64 L]] w fun e w' => e = .returned (.bool true) ∧ Below w.heap.size w w' := by
  obtain ⟨hS, ho, hK, hT, hY, -, hL⟩ := h
  simp [Lit.wf, IntKind.min, IntKind.max, IntKind.bits, IntKind.signed] at hS hK hT hY hL
  obtain ⟨s, rfl⟩ : ∃ s : Nat, S = s := ⟨S.toNat, by omega⟩
  obtain ⟨k, rfl⟩ : ∃ s : Nat, K = s := ⟨K.toNat, by omega⟩
  obtain ⟨t, rfl⟩ : ∃ s : Nat, T = s := ⟨T.toNat, by omega⟩
  obtain ⟨y, rfl⟩ : ∃ s : Nat, Y = s := ⟨Y.toNat, by omega⟩
  exact composeRight_walk N B Q E F s ov l k t y M L w (by omega) ho (by omega) (by omega) (by omega) (by omega)

end Go.Proofs.Ytkcijbejngnalaa
