/-
  The walk of the statement WireWrites.
-/
import Derived.Test.YtjbgfgpclkabjaaRefB
import Derived.Test.YtjbgfgpclkabjaaWireD
import Derived.Test.YtjbgfgpclkabjaaStr
import Derived.Deep.AppendLies
import Derived.Deep.RegionHeld3
import Derived.Test.YtjbgfgpclkabjaaSpeaks
namespace Go.Proofs.Ytjbgfgpclkabjaa
open Go.RowKit
set_option linter.unusedVariables false

/-- What an item writes. -/
def It.out (x : It) : List UInt8 := if x.s = 0 then x.b ++ x.b else if x.fits = true then be x.n x.s.toNat else []

def outW (l : List It) : List UInt8 := l.flatMap It.out

theorem owns_base {w : World} {base base' : Nat} {e : TypeId} {size : Nat} {v : Value} {n : Nat} {xs : List Value} (h : w.ownsRow base e size v n xs) (hb : base' ≤ base) : w.ownsRow base' e size v n xs := by
  refine ⟨h.1, ?_⟩
  rcases h.2 with h' | ⟨g, cap, cur, hv, hg, hx⟩
  · exact .inl h'
  · exact .inr ⟨g, cap, cur, hv, Nat.le_trans hb hg, hx⟩

theorem outW_next {l : List It} {k : Nat} (h : k < l.length) : outW (l.take (k + 1)) = outW (l.take k) ++ l[k].out := by
  rw [List.take_succ_eq_append_getElem h, outW, List.flatMap_append]
  simp [outW]

theorem Own.set {w : World} {q : Nat} {L : List UInt8} (h : Own w q L) (k : Nat) (y : UInt8) : Own (w.setCell ⟨q, k, none⟩ (bv y)) q (L.set k y) := by
  obtain ⟨cur, hh, hl, ht⟩ := h
  refine ⟨cur.setIfInBounds k (bv y), heap_setCell_same w q k cur 5 (bv y) hh, by simpa using hl, ?_⟩
  rw [Array.toList_setIfInBounds, List.length_set, List.take_set, ht, List.map_set]

theorem far_two {w2 : World} {r r3 : Option Nat} {x : Nat} (hat3 : r3 = r ∨ r3 = some w2.drew.heap.size) (hx : x < w2.heap.size) (hr : some x ≠ r) : some x ≠ r3 := by
  have hd : w2.drew.heap.size = w2.heap.size := rfl
  rcases hat3 with e | e
  · rw [e]; exact hr
  · rw [e]
    intro e'
    injection e' with e'
    omega

theorem two_grown {w2 w3 w4 : World} {r r3 : Option Nat} (hg3 : w2.drew.grownBy w3 r) (hat3 : r3 = r ∨ r3 = some w2.drew.heap.size) (hg4 : w3.grownBy w4 r3) : ∀ j, j < w2.heap.size → some j ≠ r → w4.heap[j]? = w2.heap[j]? := by
  intro j hj hne
  have hs := hg3.size
  have hd : w2.drew.heap.size = w2.heap.size := rfl
  refine (hg4.block j (by omega) ?_).trans (hg3.block j hj hne)
  rcases hat3 with e | e
  · rw [e]; exact hne
  · rw [e]
    intro e'
    injection e' with e'
    omega

set_option maxRecDepth 100000 in
set_option maxHeartbeats 1000000 in
theorem writes_walk (v0 : Value) (l : List It) (w : World) (h0 : Items w v0 l) :
    Calls Try.prog 9 #[v0] w fun e w' => e = .returned (.bool true) ∧ Below w.heap.size w w' := by
  obtain ⟨i0, hi, hz0, hz1, hz2⟩ := info_parts Try.info5
  obtain ⟨⟨hll, a0, c0, rfl, hc0, hm0, _, hcell⟩, hok⟩ := h0
  unfold maxLen at hm0
  have HOK : Hid (∀ x ∈ l, x.ok w) := hok
  clear hok hll
  by_cases hA : 50 < l.length
  · go_enter Try.func9, Try.ntmps9
    go_wp2_with fail
    refine (speaks2_any w).mono ?_
    rintro e w1 ⟨rfl, hb1⟩
    have X1 : Hid (Below w.heap.size w w1) := hb1
    clear hb1
    go_wp2
    go_ret
    exact ⟨rfl, X1.out⟩
  have hA' : l.length ≤ 50 := by omega
  clear hA
  go_enter Try.func9, Try.ntmps9
  go_wp2_with fail
  refine (speaks2_any w).mono ?_
  rintro e w1 ⟨rfl, hb1⟩
  have X1 : Hid (Below w.heap.size w (w1.alloc (.cells #[.slice none 0 0] 39))) := hb1.alloc hb1.size _
  have W1 : Hid (IsWr (w1.alloc (.cells #[.slice none 0 0] 39)) w.heap.size w1.heap.size none []) := zero_wr w1 w.heap.size hb1.size
  clear hb1
  go_wp2_with fail
  generalize w1.heap.size = b at *
  go_loopw [4, 17] (fun v i wr => ∃ (k : Nat) (row : Option Nat), k ≤ l.length ∧ i = .int .i64 k ∧ IsWr wr w.heap.size b row (outW (l.take k)) ∧ wr.ownsRow w.heap.size 5 1 v (outW (l.take k)).length ((outW (l.take k)).map bv) ∧ Below w.heap.size w wr ∧ (∀ q, v.ownBlock = some q → q ≠ b ∧ row ≠ some q) ∧ (outW (l.take k)).length ≤ 200 * k) (fun _ i _ => l.length - (intOf i).toNat)
  case atStart => exact ⟨0, none, by omega, rfl, W1.out, World.ownsRow_nil _ _ _ _, X1.out, (fun q hq => by cases hq), by simp [outW]⟩
  case round =>
    obtain ⟨k, row, hk, rfl, hwr, hown, hbel, hdis, hol⟩ := hrel
    have XB : Hid (Below w.heap.size w wr) := hbel
    have WB : Hid (IsWr wr w.heap.size b row (outW (l.take k))) := hwr
    have DB : Hid (∀ q, u4.ownBlock = some q → q ≠ b ∧ row ≠ some q) := hdis
    have OB : Hid (wr.ownsRow w.heap.size 5 1 u4 (outW (l.take k)).length ((outW (l.take k)).map bv)) := hown
    clear hbel hwr hdis hown
    by_cases hlt : k < l.length
    · rcases hcell with hz | ⟨pb, po, rfl, hcl⟩
      · omega
      have hx := HOK.out l[k] (List.getElem_mem hlt)
      have c0' : w.cell? ⟨pb, po + k * 3, none⟩ = some (.int .u64 l[k].n) := hcl (k * 3) _ (by have := cells_at l k hlt 0 (by omega); simpa [It.cells] using this)
      have c1' : w.cell? ⟨pb, po + k * 3 + 1, none⟩ = some (.int .i64 l[k].s) := by have := hcl (k * 3 + 1) (.int .i64 l[k].s) (by have := cells_at l k hlt 1 (by omega); simpa [It.cells] using this); simpa [Nat.add_assoc] using this
      have c2' : w.cell? ⟨pb, po + k * 3 + 2, none⟩ = some l[k].v := by have := hcl (k * 3 + 2) l[k].v (by have := cells_at l k hlt 2 (by omega); simpa [It.cells] using this); simpa [Nat.add_assoc] using this
      have d0 := (XB.out.cell (cell_block_lt c0')).trans c0'
      have d1 := (XB.out.cell (cell_block_lt c1')).trans c1'
      have d2 := (XB.out.cell (cell_block_lt c2')).trans c2'
      clear c0' c1' c2' hcl
      obtain ⟨x1, x2, x3, x4⟩ := hx
      obtain ⟨_, xa, xc, hxv, hxc1, hxc2, _, _⟩ := id x4
      rw [hxv] at d2 x4
      have HN : Hid (outW (l.take (k + 1)) = outW (l.take k) ++ l[k].out) := outW_next hlt
      have HX4 : Hid (Bs w (.slice xa l[k].b.length xc) l[k].b) := x4
      clear hxv x4
      unfold maxLen at hxc2
      generalize l[k] = x at *
      obtain ⟨xn, xs, xv, xb⟩ := x
      simp only at x1 x2 x3 d0 d1 d2 hxc1
      have HX : Hid (Bs w (.slice xa xb.length xc) xb) := HX4.out
      clear HX4
      have hbl := WB.out.lt
      have Hbl : Hid (b < wr.heap.size ∧ ∀ j, row = some j → w.heap.size ≤ j ∧ j < wr.heap.size) := hbl
      clear hbl
      by_cases h100 : 100 < xb.length
      · go_wp2
        go_ret
        exact ⟨rfl, XB.out.alloc XB.out.size _⟩
      have Wa : Hid (IsWr (wr.alloc (.cells #[.int .u64 xn, .int .i64 xs, .slice xa xb.length xc] 42)) w.heap.size b row (outW (l.take k))) := WB.out.below ((Below.refl _ _).alloc (Nat.le_refl _) _)
      have Xa : Hid (Below w.heap.size w (wr.alloc (.cells #[.int .u64 xn, .int .i64 xs, .slice xa xb.length xc] 42))) := XB.out.alloc XB.out.size _
      have Oa : Hid ((wr.alloc (.cells #[.int .u64 xn, .int .i64 xs, .slice xa xb.length xc] 42)).ownsRow w.heap.size 5 1 u4 (outW (l.take k)).length ((outW (l.take k)).map bv)) := OB.out.alloc _
      have Ol : Hid (∀ q, u4.ownBlock = some q → q < wr.heap.size) := fun q hq => (OB.out.lt q hq).2
      generalize hT : outW (l.take k) = T at *
      clear hT WB XB OB
      by_cases hz : xs = 0
      · subst hz
        have HN2 : Hid (outW (l.take (k + 1)) = T ++ (xb ++ xb)) := by have h := HN.out; unfold Hid; simpa [It.out] using h
        clear HN
        have W0 : Hid (IsWr ((wr.alloc (.cells #[.int .u64 xn, .int .i64 0, .slice xa xb.length xc] 42)).alloc (.cells #[.slice xa xb.length xc, .slice xa xb.length xc] 22)) w.heap.size b row T) := Wa.out.below ((Below.refl _ _).alloc (Nat.le_refl _) _)
        have X0 : Hid (Below w.heap.size w ((wr.alloc (.cells #[.int .u64 xn, .int .i64 0, .slice xa xb.length xc] 42)).alloc (.cells #[.slice xa xb.length xc, .slice xa xb.length xc] 22))) := Xa.out.alloc Xa.out.size _
        have hst : Hid (∀ W, Fr ((wr.alloc (.cells #[.int .u64 xn, .int .i64 0, .slice xa xb.length xc] 42)).alloc (.cells #[.slice xa xb.length xc, .slice xa xb.length xc] 22)) W b row → Sl 1 W (.slice (some ⟨wr.heap.size + 1, 0, none⟩) 2 2) [Value.slice xa xb.length xc, .slice xa xb.length xc].length [.slice xa xb.length xc, .slice xa xb.length xc] ∧ Parts W [.slice xa xb.length xc, .slice xa xb.length xc] [xb, xb]) := by
          intro W hW
          have hbW : Below w.heap.size w W := X0.out.trans (hW.wr W0.out X0.out.size)
          have hbs := HX.out.below hbW
          refine ⟨?_, parts_two hbs hbs⟩
          have h1 := Sl.lit (wr.alloc (.cells #[.int .u64 xn, .int .i64 0, .slice xa xb.length xc] 42)) [.slice xa xb.length xc, .slice xa xb.length xc] 22 (wr.heap.size + 1) 2 (by simp) rfl (by simp)
          have hk := hW.block (wr.heap.size + 1) (by simp) (by have := Hbl.out.1; omega) (by intro e; have := (Hbl.out.2 _ e.symm).2; omega)
          obtain ⟨g1, ao, cap, g2, g3, g4, g5, g6⟩ := h1
          refine ⟨g1, ao, cap, g2, g3, g4, g5, ?_⟩
          rcases g6 with g6 | ⟨bb, off, gao, g6⟩
          · exact .inl g6
          · refine .inr ⟨bb, off, gao, fun j u hj => ?_⟩
            have hbb : bb = wr.heap.size + 1 := by
              injection g2 with e1 _ _
              rw [gao] at e1
              injection Option.some.inj e1 with e1 _ _
              exact e1.symm
            subst hbb
            exact (World.cell?_of_block (a := ⟨wr.heap.size + 1, off + j, none⟩) hk).trans (g6 j u hj)
        go_wp2_with fail
        refine (append_any w.heap.size b row T _ [.slice xa xb.length xc, .slice xa xb.length xc] [xb, xb] _ W0.out X0.out.size hst.out (by omega) (by simp) (by intro p hp; simp at hp; rw [hp]; omega)).mono ?_
        rintro e w2 ⟨rfl, row2, hw2, hf2, hr2⟩
        have hx2 := hf2.block wr.heap.size (by simp; omega) (by have := Hbl.out.1; omega) (by intro e; have := (Hbl.out.2 _ e.symm).2; omega)
        have e2 : w2.cell? ⟨wr.heap.size, 2, none⟩ = some (.slice xa xb.length xc) := (World.cell?_of_block (a := ⟨wr.heap.size, 2, none⟩) hx2).trans (by rw [World.cell?_alloc_past _ _ _ (by simp)]; simp)
        have O2 : Hid (w2.ownsRow w.heap.size 5 1 u4 T.length (T.map bv)) := by
          refine owns_kept (Oa.out.alloc (.cells #[.slice xa xb.length xc, .slice xa xb.length xc] 22)) (fun q hq => ?_)
          have hd := DB.out q hq
          exact hf2.block q (by have := Ol.out q hq; simp; omega) hd.1 (Ne.symm hd.2)
        have X2 : Hid (Below w.heap.size w w2) := X0.out.trans (hf2.wr W0.out X0.out.size)
        have W2 : Hid (IsWr w2 w.heap.size b row2 (T ++ (xb ++ xb))) := by rw [show [xb, xb].flatten = xb ++ xb from by simp] at hw2; exact hw2
        have D2 : Hid (∀ q, u4.ownBlock = some q → q ≠ b ∧ row2 ≠ some q) := by
          intro q hq
          have hd := DB.out q hq
          refine ⟨hd.1, ?_⟩
          rcases hr2 with rfl | ⟨m, rfl, hm⟩
          · exact hd.2
          · intro e
            injection e with e
            have := Ol.out q hq
            simp at hm
            omega
        have Hl2 : Hid (wr.heap.size < w2.heap.size) := by have := hf2.size; unfold Hid; simp at this; omega
        clear hx2 hf2 hr2 hw2 W0 X0 hst Wa Xa Oa DB
        have hxq : ∀ q, u4.ownBlock = some q → q ≠ wr.heap.size := fun q hq => by have := Ol.out q hq; omega
        have Hxq : Hid (some wr.heap.size ≠ u4.ownBlock) := fun e => hxq _ e.symm rfl
        have hB2 := HX.out.below X2.out
        have HB2 : Hid (Bs w2.drew (.slice xa xb.length xc) xb) := hB2.below (Below.refl _ _).drew
        have hs2 := X2.out.size
        have Hs2 : Hid (w.heap.size ≤ w2.drew.heap.size) := hs2
        clear hxq hB2 hs2
        go_wp2_with fail
        go_region_held3 (fun W => W.cell? ⟨wr.heap.size, 2, none⟩ = some (.slice xa xb.length xc)) (first | assumption | go_keep) (first | ((refine step_app _ (by rfl) (.tmp 34) (.tmp 36) _ (by rfl) w.heap.size 5 i0 (.int .u8 0) 1 1 Try.underlying22 hi hz0 hz1 hz2 rfl (by decide) u4 T.length (T.map bv) (by rfl) O2.out.drew (.slice xa xb.length xc) xb.length (xb.map bv) (by rfl) HB2.out (bv_oneCell _) (by unfold maxLen; omega) (by omega) Hs2.out ?_; intro a3 c3 w3 ho3 hg3 hat3 hne3 hnc3 hcm3; have k3 : w3.cell? ⟨wr.heap.size, 2, none⟩ = some (.slice xa xb.length xc) := (hg3.cell_far ⟨wr.heap.size, 2, none⟩ Hl2.out Hxq.out).trans e2; have X3 : Hid (Below w.heap.size w w3) := X2.out.drew.grown hg3 Hs2.out (fun j hj => (O2.out.lt j hj).1); have HB3 : Hid (Bs w3 (.slice xa xb.length xc) xb) := HX.out.below X3.out)) | ((refine step_app _ (by rfl) (.tmp 37) (.tmp 39) _ (by rfl) w.heap.size 5 i0 (.int .u8 0) 1 1 Try.underlying22 hi hz0 hz1 hz2 rfl (by decide) (.slice a3 (T.length + xb.length) c3) (T.length + xb.length) (T.map bv ++ xb.map bv) (by rfl) ho3 (.slice xa xb.length xc) xb.length (xb.map bv) (by rfl) HB3.out (bv_oneCell _) (by unfold maxLen; omega) (by omega) X3.out.size ?_; intro a4 c4 w4 ho4 hg4 hat4 hne4 hnc4 hcm4; have k4 : w4.cell? ⟨wr.heap.size, 2, none⟩ = some (.slice xa xb.length xc) := (hg4.cell_far ⟨wr.heap.size, 2, none⟩ (Nat.lt_of_lt_of_le Hl2.out hg3.size) (far_two hat3 Hl2.out Hxq.out)).trans k3)))
        have hl2 := W2.out.lt
        have hk4 : ∀ j, j < w2.heap.size → some j ≠ u4.ownBlock → w4.heap[j]? = w2.heap[j]? := two_grown hg3 hat3 hg4
        have W4 : IsWr w4 w.heap.size b row2 (T ++ (xb ++ xb)) := W2.out.kept (hk4 b hl2.1 (fun e => (D2.out b e.symm).1 rfl)) (fun j hj => hk4 j (hl2.2 j hj).2 (fun e => (D2.out j e.symm).2 hj))
        have X4 : Below w.heap.size w w4 := X3.out.grown hg4 X3.out.size (fun j hj => (ho3.lt j hj).1)
        have D4 : ∀ q, (Value.slice a4 (T.length + xb.length + xb.length) c4).ownBlock = some q → q ≠ b ∧ row2 ≠ some q := by
          intro q hq
          have hq2 : u4.ownBlock = some q ∨ w2.heap.size ≤ q := by
            rcases hat4 with e | e
            · rw [e] at hq
              rcases hat3 with e' | e'
              · rw [e'] at hq; exact .inl hq
              · rw [e'] at hq; injection hq with hq; exact .inr (by simp at hq; omega)
            · rw [e] at hq
              injection hq with hq
              have := hg3.size
              exact .inr (by simp at this; omega)
          rcases hq2 with hq2 | hq2
          · exact D2.out q hq2
          · refine ⟨by have := hl2.1; omega, fun e => ?_⟩
            have := (hl2.2 q e).2
            omega
        have F4 : Hid (IsWr w4 w.heap.size b row2 (outW (l.take (k + 1))) ∧ w4.ownsRow w.heap.size 5 1 (.slice a4 (T.length + xb.length + xb.length) c4) (outW (l.take (k + 1))).length ((outW (l.take (k + 1))).map bv) ∧ Below w.heap.size w w4 ∧ (∀ q, (Value.slice a4 (T.length + xb.length + xb.length) c4).ownBlock = some q → q ≠ b ∧ row2 ≠ some q) ∧ (outW (l.take (k + 1))).length ≤ 200 * (k + 1)) := by
          rw [HN2.out]
          refine ⟨W4, ?_, X4, D4, by simp; omega⟩
          have e1 : (T ++ (xb ++ xb)).length = T.length + xb.length + xb.length := by simp; omega
          have e2 : (T ++ (xb ++ xb)).map bv = T.map bv ++ xb.map bv ++ xb.map bv := by simp
          rw [e1, e2]
          exact ho4
        clear hk4 W4 X4 D4 hl2 hg3 hg4 hat3 hat4 ho3 ho4 k3 k4
        go_wp2
        go_roundw
        case rel => exact ⟨k + 1, row2, by omega, by go_num, F4.out⟩
        case measure => simp [intOf]; omega
      · have hz' : (xs == 0) = false := by simpa using hz
        by_cases hfit : It.fits ⟨xn, xs, xv, xb⟩ = true
        · have hf2 := hfit
          simp only [It.fits, decide_eq_true_eq] at hf2
          have hdec : decide (1 ≤ xs ∧ xs ≤ 8 ∧ xn < 2 ^ (8 * xs.toNat)) = true := by simpa using hf2
          have Hdec : Hid (decide (1 ≤ xs ∧ xs ≤ 8 ∧ xn < 2 ^ (8 * xs.toNat)) = true) := hdec
          have HN2 : Hid (outW (l.take (k + 1)) = T ++ be xn xs.toNat) := by have h := HN.out; unfold Hid; simpa [It.out, hz, hfit] using h
          clear HN hdec hz
          obtain ⟨f1, f2, f3⟩ := hf2
          obtain ⟨S, rfl⟩ := Int.eq_ofNat_of_zero_le (show 0 ≤ xs by omega)
          have F3 : Hid (xn < 2 ^ (8 * S)) := by unfold Hid; simpa using f3
          have HN3 : Hid (outW (l.take (k + 1)) = T ++ be xn S) := HN2.out
          clear f3 hfit HN2
          go_wp2_with fail
          refine (fits_any xn S _ x1).mono ?_
          rintro e w9 ⟨rfl, hw9⟩
          rw [Hdec.out]
          subst hw9
          go_wp2_with fail
          refine (put_yes w.heap.size b row T xn S _ Wa.out Xa.out.size (by omega) (by omega) F3.out (by omega)).mono ?_
          rintro e w2 ⟨rfl, row2, hw2, hf2, hr2⟩
          have hx2 := hf2.block wr.heap.size (by simp) (by have := Hbl.out.1; omega) (by intro e; have := (Hbl.out.2 _ e.symm).2; omega)
          have e0 : w2.cell? ⟨wr.heap.size, 0, none⟩ = some (.int .u64 xn) := (World.cell?_of_block (a := ⟨wr.heap.size, 0, none⟩) hx2).trans (by simp)
          have e1 : w2.cell? ⟨wr.heap.size, 1, none⟩ = some (.int .i64 S) := (World.cell?_of_block (a := ⟨wr.heap.size, 1, none⟩) hx2).trans (by simp)
          have O2 : w2.ownsRow w.heap.size 5 1 u4 T.length (T.map bv) := by
            refine owns_kept Oa.out (fun q hq => ?_)
            have hd := DB.out q hq
            exact hf2.block q (by have := Ol.out q hq; simp; omega) hd.1 (Ne.symm hd.2)
          have B2 : Hid (Bs w2 u4 T) := owned_sl O2
          have X2 : Hid (Below w.heap.size w w2) := Xa.out.trans (hf2.wr Wa.out Xa.out.size)
          have W2 : Hid (IsWr w2 w.heap.size b row2 (T ++ be xn S)) := hw2
          clear hx2 hf2 hr2 hw2 Wa Xa Oa DB O2
          go_wp2_with fail
          refine (rput_any u4 T xn S _ B2.out (by omega) x1 (by omega) (by omega)).mono ?_
          rintro e w3 ⟨a3, c3, rfl, ho3, hb3, hc3, hm3⟩
          have hl2 := W2.out.lt
          have F4 : Hid (IsWr w3 w.heap.size b row2 (outW (l.take (k + 1))) ∧ w3.ownsRow w.heap.size 5 1 (.slice a3 (T.length + S) c3) (outW (l.take (k + 1))).length ((outW (l.take (k + 1))).map bv) ∧ Below w.heap.size w w3 ∧ (∀ q, (Value.slice a3 (T.length + S) c3).ownBlock = some q → q ≠ b ∧ row2 ≠ some q) ∧ (outW (l.take (k + 1))).length ≤ 200 * (k + 1)) := by
            rw [HN3.out]
            refine ⟨W2.out.below hb3, ?_, X2.out.trans (hb3.mono X2.out.size), ?_, by simp [be_length]; omega⟩
            · rw [List.length_append, be_length]
              exact owns_base ho3 X2.out.size
            · intro q hq
              have h1 := (ho3.lt q hq).1
              refine ⟨by have := hl2.1; omega, fun e => ?_⟩
              have := (hl2.2 q e).2
              omega
          clear ho3 hb3 hl2
          go_wp2
          go_roundw
          case rel => exact ⟨k + 1, row2, by omega, by go_num, F4.out⟩
          case measure => simp [intOf]; omega
        · have hdec : decide (1 ≤ xs ∧ xs ≤ 8 ∧ xn < 2 ^ (8 * xs.toNat)) = false := by
            have h2 := hfit
            simp only [It.fits] at h2
            simpa using h2
          have hno : ¬ (1 ≤ xs ∧ xs ≤ 8) ∨ 2 ^ (8 * xs.toNat) ≤ xn := by
            have h2 := hfit
            simp only [It.fits, decide_eq_true_eq] at h2
            by_cases hh : 1 ≤ xs ∧ xs ≤ 8
            · exact .inr (Nat.le_of_not_lt (fun h3 => h2 ⟨hh.1, hh.2, h3⟩))
            · exact .inl hh
          have Hdec : Hid (decide (1 ≤ xs ∧ xs ≤ 8 ∧ xn < 2 ^ (8 * xs.toNat)) = false) := hdec
          have HNO : Hid (¬ (1 ≤ xs ∧ xs ≤ 8) ∨ 2 ^ (8 * xs.toNat) ≤ xn) := hno
          have HN2 : Hid (outW (l.take (k + 1)) = T) := by have h := HN.out; unfold Hid; simpa [It.out, hz, hfit] using h
          clear HN hdec hno hfit hz
          go_wp2_with fail
          refine (fits_any xn xs _ x1).mono ?_
          rintro e w9 ⟨rfl, hw9⟩
          rw [Hdec.out]
          subst hw9
          go_wp2_with fail
          refine (put_no b xn xs _ x1 HNO.out).mono ?_
          rintro e w2 ⟨rfl, hw2⟩
          have XX : Hid (w2 = wr.alloc (.cells #[.int .u64 xn, .int .i64 xs, .slice xa xb.length xc] 42)) := hw2
          clear hw2
          go_wp2
          go_roundw
          case rel =>
            rw [XX.out]
            exact ⟨k + 1, row, by omega, by go_num, by rw [HN2.out]; exact Wa.out, by rw [HN2.out]; exact Oa.out, Xa.out, DB.out, by rw [HN2.out]; omega⟩
          case measure => simp [intOf]; omega
    · have hkl : l.take k = l := List.take_of_length_le (by omega)
      rw [hkl] at hol
      have WB' : Hid (IsWr wr w.heap.size b row (outW l)) := by have h := WB.out; rw [hkl] at h; exact h
      have OB' : Hid (wr.ownsRow w.heap.size 5 1 u4 (outW l).length ((outW l).map bv)) := by have h := OB.out; rw [hkl] at h; exact h
      clear WB OB hkl hcell
      generalize outW l = T at *
      have hTl : T.length ≤ 1000000 := by omega
      clear hol
      obtain ⟨ao, co, rfl, hco1, hco2, hco3⟩ := owned_slice OB'.out
      unfold maxLen at hco2
      have hst := str_toList
      go_wp2_with fail
      refine (bytes_any _ _ _ _ _ WB'.out hTl).mono ?_
      rintro e w3 ⟨q3, rfl, hq3, ho3, hb3⟩
      have X3 : Hid (Below w.heap.size w w3) := XB.out.trans (hb3.mono XB.out.size)
      have W3 : Hid (IsWr w3 w.heap.size b row T) := WB'.out.below hb3
      have O3 : Hid (w3.ownsRow w.heap.size 5 1 (.slice ao T.length co) T.length (T.map bv)) := owns_kept OB'.out (fun q hq => hb3.block q (OB'.out.lt q hq).2)
      have Q3 : Hid (Own w3 q3 T ∧ w.heap.size ≤ q3 ∧ b < q3 ∧ (∀ j, row = some j → j < q3) ∧ (∀ j, (Value.slice ao T.length co).ownBlock = some j → j < q3)) :=
        ⟨ho3, by have := XB.out.size; omega, by have := WB'.out.lt.1; omega, fun j hj => by have := (WB'.out.lt.2 j hj).2; omega, fun j hj => by have := (OB'.out.lt j hj).2; omega⟩
      have hc1 := conv_str (W := w3) (ho3.bs hTl)
      have hc2 := conv_str (W := w3) (owned_sl O3.out)
      clear hq3 ho3 hb3 WB' OB' XB
      go_wp2_with fail
      refine (len_any _ _ _ _ _ W3.out).mono ?_
      rintro e w4 ⟨rfl, rfl⟩
      clear hc1 hc2
      go_wp2_with fail
      go_loopw [75] (fun i wr => ∃ (k : Nat) (L : List UInt8), k ≤ T.length ∧ i = .int .i64 k ∧ L.length = T.length ∧ Own wr q3 L ∧ IsWr wr w.heap.size b row T ∧ wr.ownsRow w.heap.size 5 1 (.slice ao T.length co) T.length (T.map bv) ∧ Below w.heap.size w wr) (fun i _ => T.length - (intOf i).toNat)
      case atStart => exact ⟨0, T, by omega, rfl, rfl, Q3.out.1, W3.out, O3.out, X3.out⟩
      case round =>
        obtain ⟨k, L, hk, rfl, hL, hq, hwr, hown, hbel⟩ := hrel
        have XB : Hid (Below w.heap.size w wr) := hbel
        have WB : Hid (IsWr wr w.heap.size b row T) := hwr
        have OB : Hid (wr.ownsRow w.heap.size 5 1 (.slice ao T.length co) T.length (T.map bv)) := hown
        have HL : Hid (L.length = T.length) := hL
        clear hbel hwr hown hL X3 W3 O3
        by_cases hlt : k < T.length
        · have hkL : k < L.length := by rw [HL.out]; exact hlt
          have hcb := hq.cell k _ (map_bv_at L k hkL)
          have hfr := hq.frozen k
          have HS : Hid (∀ y : UInt8, Own (wr.setCell ⟨q3, k, none⟩ (bv y)) q3 (L.set k y)) := fun y => hq.set k y
          clear hq
          generalize L[k] = y at *
          have hyl := y.toNat_lt
          go_wp2
          go_roundw
          case rel =>
            have e : ∀ z, z = ((y.toNat : Int) + 1) % 256 → Value.int .u8 z = bv (y + 1) := by
              intro z hz
              rw [hz]
              simp [bv, UInt8.toNat_add]
            rw [e _ (by first | rfl | omega)]
            have hne : ∀ j, j < q3 → j ≠ q3 := fun j h => by omega
            refine ⟨k + 1, L.set k (y + 1), by omega, by go_num, by rw [List.length_set]; exact HL.out, HS.out _, ?_, ?_, XB.out.setCell (by exact Q3.out.2.1) _⟩
            · exact WB.out.kept (Below.heap_setCell _ _ _ _ (hne _ Q3.out.2.2.1)) (fun j hj => Below.heap_setCell _ _ _ _ (hne _ (Q3.out.2.2.2.1 j hj)))
            · exact owns_kept OB.out (fun j hj => Below.heap_setCell _ _ _ _ (hne _ (Q3.out.2.2.2.2 j hj)))
          case measure => simp [intOf]; omega
        · clear hq
          have hc0 := conv_str (W := wr.drew) (owned_sl (OB.out.drew))
          have HB : Hid (Calls Try.prog 26 #[.pointer (some ⟨b, 0, none⟩)] wr.drew fun e w' => ∃ q, e = .returned (.slice (some ⟨q, 0, none⟩) T.length T.length) ∧ Below wr.heap.size wr w' ∧ (convert 22 9 (.slice (some ⟨q, 0, none⟩) T.length T.length)).run Try.prog w' = .ok (.string (str T)) w' ∧ (convert 22 9 (.slice ao T.length co)).run Try.prog w' = .ok (.string (str T)) w') := by
            have hW : IsWr wr.drew w.heap.size b row T := WB.out.kept rfl (fun _ _ => rfl)
            refine Calls.mono (bytes_any w.heap.size b row T wr.drew hW hTl) ?_
            rintro e w5 ⟨q, rfl, _, ho5, hb5⟩
            have hb5' : Below wr.heap.size wr w5 := (Below.refl _ _).drew.trans hb5
            exact ⟨q, rfl, hb5', conv_str (ho5.bs hTl), conv_str (owned_sl (owns_kept OB.out (fun j hj => hb5'.block j (OB.out.lt j hj).2)))⟩
          go_wp2
          go_region_with (go_at_call 26; refine HB.out.mono ?_; rintro e w5 ⟨q5, rfl, hb5, hc5, hc6⟩; have X5 : Hid (Below w.heap.size w w5) := XB.out.trans (hb5.mono XB.out.size); clear hb5)
          all_goals
            go_wp2
            go_ret
            exact ⟨rfl, X5.out⟩

end Go.Proofs.Ytjbgfgpclkabjaa
