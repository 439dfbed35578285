/-
  The walk of the document's own Parse.
-/
import Derived.Test.YtecohgmllmddhaaFrH
import Derived.Deep.RegionLaw
namespace Go.Proofs.Ytecohgmllmddhaa
open Go.RowKit
set_option linter.unusedVariables false

/-- The packet that a frame's bytes are, its payload in block q, with room k. -/
def packW (l : List UInt8) (q k : Nat) : Array Value := #[.int .u64 (num l 3 8), .int .i64 (num l 11 4), .int .i64 (num l 15 2), .int .i64 (num l 17 1), .int .i64 (num l 18 2), .int .i64 (num l 20 2), .int .i64 (asInt (num l 22 8)), .int .u64 (num l 30 8), .slice (some ⟨q, 0, none⟩) (num l 15 2) k]

/-- What the document's Parse answers. -/
def RP (l : List UInt8) (r : Array Value) (W : World) : Prop :=
  (parseE l ≠ 0 ∧ r = #[.int .u64 0, .int .i64 0, .int .i64 0, .int .i64 0, .int .i64 0, .int .i64 0, .int .i64 0, .int .u64 0, .slice none 0 0]) ∨ (parseE l = 0 ∧ ∃ q k, r = packW l q k ∧ Bs W (.slice (some ⟨q, 0, none⟩) (num l 15 2) k) (payB l))

theorem num_one (l : List UInt8) (a : Nat) (h : a < l.length) : num l a 1 = (l[a]).toNat := by
  unfold num
  rw [List.drop_eq_getElem_cons h, List.take_succ_cons, List.take_zero]
  have := (l[a]).toNat_lt
  show (0 * 256 + (l[a]).toNat) % 18446744073709551616 = _
  omega

theorem ret_rp {l : List UInt8} {n : Int} {r : Array Value} {W w : World} (h : parseE l = n) (hr : RP l r W) (hb : Below w.heap.size w W) :
    ∃ r', Ending.returned (.tuple #[.agg r, .int .i64 n]) = .returned (.tuple #[.agg r', .int .i64 (parseE l)]) ∧ RP l r' W ∧ Below w.heap.size w W := ⟨r, by rw [h], hr, hb⟩

theorem rp_no {l : List UInt8} {n : Int} {W : World} (h : parseE l = n) (hn : n ≠ 0) : RP l #[.int .u64 0, .int .i64 0, .int .i64 0, .int .i64 0, .int .i64 0, .int .i64 0, .int .i64 0, .int .u64 0, .slice none 0 0] W := .inl ⟨by rw [h]; exact hn, rfl⟩

theorem pe_short {l : List UInt8} (h : l.length < 42) : parseE l = 4 := by unfold parseE; rw [if_pos h]
theorem pe_head {l : List UInt8} (h : ¬ l.length < 42) (hh : headE l ≠ 0) : parseE l = headE l := by unfold parseE; rw [if_neg h, if_pos hh]
theorem pe_len {l : List UInt8} (h : ¬ l.length < 42) (hh : headE l = 0) (hl : l.length ≠ 42 + num l 15 2) : parseE l = 7 := by unfold parseE; rw [if_neg h, if_neg (by rw [hh]; simp), if_pos hl]
theorem pe_sum {l : List UInt8} (h : ¬ l.length < 42) (hh : headE l = 0) (hl : l.length = 42 + num l 15 2) (hr : rightB l = false) : parseE l = 8 := by unfold parseE; rw [if_neg h, if_neg (by rw [hh]; simp), if_neg (by rw [← hl]; simp), if_pos hr]
theorem pe_ok {l : List UInt8} (h : ¬ l.length < 42) (hh : headE l = 0) (hl : l.length = 42 + num l 15 2) (hr : rightB l = true) : parseE l = 0 := by unfold parseE; rw [if_neg h, if_neg (by rw [hh]; simp), if_neg (by rw [← hl]; simp), if_neg (by rw [hr]; simp)]

theorem rp_end {w W W' : World} {T : List UInt8} {z0 z1 z2 z3 z4 z5 z7 : Nat} {z6 : Int} {qq kk : Nat} (NW : Nine W' w.heap.size 0 0 0 0 0 0 0 0 (.slice none 0 0)) (hX : Below w.heap.size w W') (hlt : w.heap.size < W.heap.size) (hown : IsOwn W.heap.size (payB T) (.slice (some ⟨qq, 0, none⟩) (payB T).length kk) W') (PE : parseE T = 0)
    (PW : packW T = fun q k => #[.int .u64 (z0 : Nat), .int .i64 (z1 : Nat), .int .i64 (z2 : Nat), .int .i64 (z3 : Nat), .int .i64 (z4 : Nat), .int .i64 (z5 : Nat), .int .i64 z6, .int .u64 (z7 : Nat), .slice (some ⟨q, 0, none⟩) z2 k]) (PL : (payB T).length = z2) (HZ2 : num T 15 2 = z2) :
    ∃ r', Ending.returned (.tuple #[.agg #[.int .u64 (z0 : Nat), .int .i64 (z1 : Nat), .int .i64 (z2 : Nat), .int .i64 (z3 : Nat), .int .i64 (z4 : Nat), .int .i64 (z5 : Nat), .int .i64 z6, .int .u64 (z7 : Nat), (.slice (some ⟨qq, 0, none⟩) (payB T).length kk)], .int .i64 0]) = .returned (.tuple #[.agg r', .int .i64 (parseE T)]) ∧ RP T r' (((((((((W'.setCell ⟨w.heap.size, 0, none⟩ (.int .u64 (z0 : Nat))).setCell ⟨w.heap.size, 1, none⟩ (.int .i64 (z1 : Nat))).setCell ⟨w.heap.size, 2, none⟩ (.int .i64 (z2 : Nat))).setCell ⟨w.heap.size, 3, none⟩ (.int .i64 (z3 : Nat))).setCell ⟨w.heap.size, 4, none⟩ (.int .i64 (z4 : Nat))).setCell ⟨w.heap.size, 5, none⟩ (.int .i64 (z5 : Nat))).setCell ⟨w.heap.size, 6, none⟩ (.int .i64 z6)).setCell ⟨w.heap.size, 7, none⟩ (.int .u64 (z7 : Nat))).setCell ⟨w.heap.size, 8, none⟩ (.slice (some ⟨qq, 0, none⟩) (payB T).length kk)) ∧ Below w.heap.size w (((((((((W'.setCell ⟨w.heap.size, 0, none⟩ (.int .u64 (z0 : Nat))).setCell ⟨w.heap.size, 1, none⟩ (.int .i64 (z1 : Nat))).setCell ⟨w.heap.size, 2, none⟩ (.int .i64 (z2 : Nat))).setCell ⟨w.heap.size, 3, none⟩ (.int .i64 (z3 : Nat))).setCell ⟨w.heap.size, 4, none⟩ (.int .i64 (z4 : Nat))).setCell ⟨w.heap.size, 5, none⟩ (.int .i64 (z5 : Nat))).setCell ⟨w.heap.size, 6, none⟩ (.int .i64 z6)).setCell ⟨w.heap.size, 7, none⟩ (.int .u64 (z7 : Nat))).setCell ⟨w.heap.size, 8, none⟩ (.slice (some ⟨qq, 0, none⟩) (payB T).length kk)) := by
  obtain ⟨q2, k2, post, e2, hq2, hbl, hle, hcm, hcap⟩ := hown
  injection e2 with e2 _ e4
  injection e2 with e2
  injection e2 with e2 _ _
  subst e2; subst e4
  refine ⟨packW T qq kk, by rw [PW, PE, PL], .inr ⟨PE, qq, kk, rfl, ?_⟩, below9 hX (Nat.le_refl _) _ _ _ _ _ _ _ _ _⟩
  have hne : qq ≠ w.heap.size := by omega
  have hk : ∀ (W : World) (i : Nat) (u : Value), (W.setCell ⟨w.heap.size, i, none⟩ u).heap[qq]? = W.heap[qq]? := fun W i u => Below.heap_setCell W ⟨w.heap.size, i, none⟩ u _ hne
  refine (hbl.kept ?_).bs0 _ _ (by rw [HZ2, PL]) (by omega) hcm
  rw [hk, hk, hk, hk, hk, hk, hk, hk, hk]

end Go.Proofs.Ytecohgmllmddhaa
