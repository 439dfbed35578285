/-
  Two objects upon each other: mathematics; what Blocks answers in a drawn region.
-/
import Derived.Test.YtkckbeekehecnaaGreatCBlks
import Derived.Test.YtkckbeekehecnaaGreatLCase
namespace Go.Proofs.YtkckbeekehecnaaGreat
open Go.RowKit
set_option linter.unusedVariables false

theorem xorL_four (a b x y : List UInt8) : xorL (xorL a b) (xorL x y) = xorL (xorL a x) (xorL b y) := by
  rw [xorL_assoc, ← xorL_assoc b x y, xorL_comm b x, xorL_assoc x b y, ← xorL_assoc]
theorem getD_xor (a b : List UInt8) (h : b.length = a.length) (k : Nat) : (xorL a b).getD k 0 = a.getD k 0 ^^^ b.getD k 0 := by
  by_cases hk : k < a.length
  · exact getD_xorL h k hk
  · have e : (xorL a b)[k]? = none := List.getElem?_eq_none (by rw [xorL_length h]; omega)
    simp only [List.getD, e, List.getElem?_eq_none (show a.length ≤ k by omega), List.getElem?_eq_none (show b.length ≤ k by omega)]
    rfl
theorem blkAt_xor (B : Nat) {l m : List UInt8} (h : m.length = l.length) (i : Nat) : blkAt B (xorL l m) i = xorL (blkAt B l i) (blkAt B m i) := by
  unfold blkAt
  apply List.ext_getElem?
  intro k
  unfold xorL
  rw [List.getElem?_zipWith]
  simp only [List.getElem?_map]
  by_cases hk : k < B
  · rw [List.getElem?_range hk]
    simp only [Option.map_some]
    rw [← getD_xor _ _ h]
    rfl
  · rw [List.getElem?_eq_none (by simp; omega)]
    rfl
/-- Two rows of blocks, each upon its other one. -/
def xorR (L M : List (List UInt8)) : List (List UInt8) := List.zipWith xorL L M
theorem xorR_at {L M : List (List UInt8)} (h : M.length = L.length) (i : Nat) : (xorR L M).getD i [] = xorL (L.getD i []) (M.getD i []) := by
  unfold xorR
  simp only [List.getD, List.getElem?_zipWith]
  by_cases hk : i < L.length
  · rw [List.getElem?_eq_getElem hk, List.getElem?_eq_getElem (show i < M.length by omega)]
    rfl
  · rw [List.getElem?_eq_none (show L.length ≤ i by omega), List.getElem?_eq_none (show M.length ≤ i by omega)]
    rfl
theorem xorAll_two (ls ms : List (List UInt8)) (a b : List UInt8) : ms.length = ls.length → xorAll (xorL a b) (List.zipWith xorL ls ms) = xorL (xorAll a ls) (xorAll b ms) := by
  induction ls generalizing ms a b with
  | nil => intro h; cases ms with
    | nil => rfl
    | cons _ _ => cases h
  | cons x ls ih =>
    intro h
    cases ms with
    | nil => cases h
    | cons y ms =>
      show xorAll (xorL (xorL a b) (xorL x y)) (List.zipWith xorL ls ms) = xorL (xorAll (xorL a x) ls) (xorAll (xorL b y) ms)
      rw [xorL_four]
      exact ih ms _ _ (by simpa using h)
theorem chkD_two {L M : List (List UInt8)} (h : M.length = L.length) (n : Nat) (r : List Int) : chkD n (xorR L M) r = xorL (chkD n L r) (chkD n M r) := by
  unfold chkD
  have e1 : pkD (xorR L M) r = List.zipWith xorL (pkD L r) (pkD M r) := by
    unfold pkD
    rw [List.zipWith_map, List.zipWith_self]
    exact List.map_congr_left fun i _ => xorR_at h i.toNat
  have e2 : zeros n = xorL (zeros n) (zeros n) := by rw [xorL_self, zeros_length]
  rw [e1]
  conv => lhs; rw [e2]
  exact xorAll_two _ _ _ _ (by rw [pkD_length, pkD_length])
theorem split_two (N B : Nat) {l m : List UInt8} (h : m.length = l.length) : splitD N B (xorL l m) = xorR (splitD N B l) (splitD N B m) := by
  unfold splitD xorR
  rw [List.zipWith_map, List.zipWith_self]
  exact List.map_congr_left fun i _ => blkAt_xor B h i
/-- THE BLOCKS OF BOTH ARE BOTH BLOCKS. -/
theorem comp_two_at (N B : Nat) (rows : List (List Int)) {l m : List UInt8} (h : m.length = l.length) {i : Nat} {x y : List UInt8} (hx : (compD N B rows l)[i]? = some x) (hy : (compD N B rows m)[i]? = some y) : (compD N B rows (xorL l m))[i]? = some (xorL x y) := by
  unfold compD at *
  by_cases hi : i < N
  · rw [List.getElem?_append_left (by rw [splitD_length]; exact hi)] at hx hy ⊢
    rw [split_two N B h]
    unfold xorR
    rw [List.getElem?_zipWith, hx, hy]
  · rw [List.getElem?_append_right (by rw [splitD_length]; omega), List.getElem?_map, splitD_length] at hx hy ⊢
    cases hr : rows[i - N]? with
    | none => rw [hr] at hx; cases hx
    | some r =>
      rw [hr] at hx hy
      obtain rfl := Option.some.inj hx
      obtain rfl := Option.some.inj hy
      show some _ = some _
      rw [split_two N B h, chkD_two (by rw [splitD_length, splitD_length])]

/-- What Blocks answers, and its blocks. -/
def IsBt (K : Nat) (D : List (List UInt8)) : Value → World → Prop := fun v W => ∃ a c vs, v = .tuple #[.slice a K c, .int .i64 0] ∧ Sl 1 W (.slice a K c) vs.length vs ∧ Parts W vs D
theorem stays_bt (K : Nat) (D : List (List UInt8)) : Stays (IsBt K D) := fun _ _ _ hb ⟨a, c, vs, h1, h2, h3⟩ => ⟨a, c, vs, h1, h2.below hb, h3.below hb⟩
def IsBv (K : Nat) (D : List (List UInt8)) : Value → World → Prop := fun v W => ∃ a c vs, v = .slice a K c ∧ Sl 1 W (.slice a K c) vs.length vs ∧ Parts W vs D
theorem stays_bv (K : Nat) (D : List (List UInt8)) : Stays (IsBv K D) := fun _ _ _ hb ⟨a, c, vs, h1, h2, h3⟩ => ⟨a, c, vs, h1, h2.below hb, h3.below hb⟩
theorem row_sl {W : World} {us : List Value} {v : Value} (h : IsRow us v W) (hl : us.length ≤ 1000) : Sl 1 W v us.length us := by
  obtain ⟨p, rfl, hc⟩ := h
  exact ⟨by simp, _, _, rfl, Nat.le_refl _, by unfold maxLen; omega, fun h => by simp at h, .inr ⟨p, 0, rfl, fun j u hj => by rw [Nat.zero_add]; exact hc j u hj⟩⟩
/-- A block of a row, as it lies. -/
theorem Sl.at_addr {w : World} {a : Option Addr} {n c i : Nat} {us : List Value} (h : Sl 1 w (.slice a n c) n us) (hi : i < n) : ∃ b off, a = some ⟨b, off, none⟩ ∧ ∃ u, us[i]? = some u ∧ w.cell? ⟨b, off + i, none⟩ = some u := by
  obtain ⟨hl, a', c', hv, _, _, _, h5⟩ := h
  injection hv with e1 e2 e3
  subst e1
  rcases h5 with h0 | ⟨b, off, e, hc⟩
  · omega
  · have hu : i < us.length := by omega
    exact ⟨b, off, e, us[i], List.getElem?_eq_getElem hu, hc i _ (List.getElem?_eq_getElem hu)⟩

end Go.Proofs.YtkckbeekehecnaaGreat
