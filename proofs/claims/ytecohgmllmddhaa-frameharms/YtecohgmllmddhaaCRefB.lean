/-
  The walks of the document's own answers for wire: Put.
-/
import Derived.Test.YtecohgmllmddhaaWireM
namespace Go.Proofs.Ytecohgmllmddhaa
open Go.RowKit
set_option linter.unusedVariables false

/-- The bytes of a number, as they are filled from the last one on. -/
def tailed (n s k : Nat) : List Value := List.replicate (s - k) (.int .u8 0) ++ ((be n s).drop (s - k)).map bv

theorem tailed_zero (n s : Nat) : tailed n s 0 = List.replicate s (.int .u8 0) := by
  simp [tailed, be]

theorem tailed_all (n s : Nat) : tailed n s s = (be n s).map bv := by simp [tailed]

theorem tailed_set (n s k : Nat) (h : k < s) : (tailed n s k).set (s - 1 - k) (bv (UInt8.ofNat (n / 2 ^ (8 * k)))) = tailed n s (k + 1) := by
  have e1 : s - k = (s - 1 - k) + 1 := by omega
  have e2 : s - (k + 1) = s - 1 - k := by omega
  have hl : s - 1 - k < (be n s).length := by rw [be_length]; omega
  have hb : (be n s)[s - 1 - k] = UInt8.ofNat (n / 2 ^ (8 * k)) := by
    have e3 : s - 1 - (s - 1 - k) = k := by omega
    simp [be, e3]
  unfold tailed
  rw [e2, List.drop_eq_getElem_cons hl, hb, e1]
  rw [List.replicate_succ', List.append_assoc, List.set_append_right _ _ (by simp)]
  simp

set_option maxRecDepth 100000 in
set_option maxHeartbeats 1000000 in
/-- The document's Put. -/
theorem rput_any (v : Value) (l : List UInt8) (n s : Nat) (w : World) (hl : Bs w v l) (hl2 : l.length ≤ 1000000) (hn : n < 18446744073709551616) (h1 : 1 ≤ s) (h8 : s ≤ 8) :
    Calls Try.prog 38 #[v, .int .u64 n, .int .i64 s] w fun e w' => ∃ a c, e = .returned (.slice a (l.length + s) c) ∧ w'.ownsRow w.heap.size 5 1 (.slice a (l.length + s) c) (l.length + s) ((l ++ be n s).map bv) ∧ Below w.heap.size w w' ∧ l.length + s ≤ c ∧ c ≤ maxLen := by
  obtain ⟨i0, hi, hz0, hz1, hz2⟩ := info_parts Try.info5
  have H0 : Hid (Bs w v l) := hl
  obtain ⟨hll, a0, c0, rfl, hc0, hm0, _, hcell⟩ := hl
  clear hll hcell
  unfold maxLen at hm0
  go_enter Try.func38, Try.ntmps38
  go_wp2_with (at_make; refine wpList_make_full _ rfl _ _ 27 rfl w.heap.size 5 i0 (.int .u8 0) 1 Try.underlying27 hi hz0 hz1 _ _ _ _ s rfl rfl rfl rfl (by rw [hz2]; omega) (by unfold maxLen; omega) (Nat.le_refl _) ?_; intro w2 ho hgrow)
  have X2 : Hid (Below w.heap.size w w2) := (Below.refl _ _).grown hgrow (Nat.le_refl _) (by intro k hk; cases hk)
  have O2 : Hid (w2.ownsRow w.heap.size 5 1 (.slice (some ⟨w.heap.size, 0, none⟩) s s) s (tailed n s 0)) := by
    rw [tailed_zero]
    simp only [Value.cells, Nat.mul_one, toList_madeCells_one] at ho
    exact ho
  clear hgrow ho
  go_loopw [1, 8] (fun x i wr => ∃ (k m : Nat), k ≤ s ∧ i = .int .i64 ((s : Int) - 1 - (k : Int)) ∧ x = .int .u64 m ∧ m < 18446744073709551616 ∧ m = n / 2 ^ (8 * k) ∧ wr.ownsRow w.heap.size 5 1 (.slice (some ⟨w.heap.size, 0, none⟩) s s) s (tailed n s k) ∧ Below w.heap.size w wr) (fun _ i _ => ((intOf i) + 1).toNat)
  case atStart => exact ⟨0, n, by omega, by go_num, rfl, hn, by simp, O2.out, X2.out⟩
  case round =>
    obtain ⟨k, m, hk, rfl, rfl, hm, he, hown, hbel⟩ := hrel
    have H : Hid (m = n / 2 ^ (8 * k)) := he
    have XB : Hid (Below w.heap.size w wr) := hbel
    clear he hbel
    by_cases hlt : k < s
    · obtain ⟨d, hd⟩ : ∃ d : Nat, (s : Int) - 1 - (k : Int) = (d : Int) := ⟨s - 1 - k, by omega⟩
      have Hd : Hid (d = s - 1 - k) := by unfold Hid; omega
      have hds : d < s := by omega
      rw [hd]
      have hxl : (tailed n s k).length = s := by have := hown.1; simpa using this
      have hcl := hown.cellAt d (by omega)
      obtain ⟨u, hu⟩ : ∃ u, (tailed n s k)[d]? = some u := ⟨_, List.getElem?_eq_getElem (by omega)⟩
      rw [hu] at hcl
      have hfr := hown.frozenAt d
      have HO : Hid (∀ u, (wr.setCell ⟨w.heap.size, d, none⟩ u).ownsRow w.heap.size 5 1 (.slice (some ⟨w.heap.size, 0, none⟩) s s) s ((tailed n s k).set d u)) := fun u => (hown.stored d u).1
      have HD2 : Hid ((d : Int) - 1 = (s : Int) - 1 - ((k + 1 : Nat) : Int)) := by unfold Hid; omega
      clear hu hxl hown hd
      go_wp2
      go_roundw
      case rel =>
        refine ⟨k + 1, m / 256, by omega, int_val HD2.out, int_val (by omega), by omega, by rw [H.out, Nat.div_div_eq_div_mul, show 8 * (k + 1) = 8 * k + 8 by omega, Nat.pow_add], ?_, XB.out.setCell (Nat.le_refl _) _⟩
        have e : Value.int .u8 ((m : Int) % 256) = bv (UInt8.ofNat (n / 2 ^ (8 * k))) := by rw [← H.out]; simp [bv]
        have ht := tailed_set n s k hlt
        rw [← Hd.out] at ht
        rw [e, ← ht]
        exact HO.out _
      case measure => simp [intOf]
    · have hks : k = s := by omega
      subst hks
      rw [tailed_all] at hown
      have hneg : ¬ (0 : Int) ≤ (k : Int) - 1 - (k : Int) := by omega
      have X3 : Hid (Below w.heap.size w (wr.alloc (.cells #[] 5))) := XB.out.alloc XB.out.size _
      have OS : Hid (Bs wr (.slice (some ⟨w.heap.size, 0, none⟩) k k) (be n k)) := by
        have h := owned_sl hown
        unfold Hid Bs
        rw [be_length]
        exact h
      have hO1 : (wr.alloc (.cells #[] 5)).ownsRow w.heap.size 5 1 (.slice (some ⟨wr.heap.size, 0, none⟩) 0 0) 0 [] := World.ownsRow_lit wr #[] 0 XB.out.size (by simp [maxLen]) rfl
      have HB1 : Hid (Bs (wr.alloc (.cells #[] 5)) (.slice a0 l.length c0) l) := H0.out.below X3.out
      have hwl : w.heap.size < wr.heap.size := (hown.lt _ rfl).2
      have HW : Hid (w.heap.size < wr.heap.size) := hwl
      clear hown O2 X2 hwl
      go_wp2_with (first
        | (at_builtin; (refine wpList_app _ rfl (.tmp 25) (.tmp 26) 27 rfl w.heap.size 5 i0 (.int .u8 0) 1 1 Try.underlying27 hi hz0 hz1 hz2 rfl (by decide) _ _ _ rfl hO1 _ _ _ rfl HB1.out (bv_oneCell _) (by unfold maxLen; omega) (by omega) X3.out.size ?_); intro a3 c3 w3 ho hgrow hat hne2 hnc2 hcm2; simp only [Nat.zero_add, List.nil_append] at ho hat hnc2; have X4 : Hid (Below w.heap.size w w3) := X3.out.grown hgrow X3.out.size (fun j hj => (hO1.lt j hj).1); have OS3 : Hid (Bs w3 (.slice (some ⟨w.heap.size, 0, none⟩) k k) (be n k)) := OS.out.carry (fun p u hp => (World.cell?_of_block (hgrow.block p.block (by have := cell_block_lt hp; simp; omega) (by intro e; injection e with e; have := cell_block_lt hp; have e' : p.block = wr.heap.size := e; omega))).trans ((World.cell?_alloc_lt _ _ _ (cell_block_lt hp)).trans hp)); clear hgrow hat)
        | (at_builtin; (refine wpList_app _ rfl (.tmp 27) (.tmp 28) 27 rfl w.heap.size 5 i0 (.int .u8 0) 1 1 Try.underlying27 hi hz0 hz1 hz2 rfl (by decide) (.slice a3 l.length c3) l.length (l.map bv) rfl ho (.slice (some ⟨w.heap.size, 0, none⟩) k k) k ((be n k).map bv) rfl (by have h := OS3.out; unfold Bs at h; rw [be_length] at h; exact h) (bv_oneCell _) (by unfold maxLen; omega) (by omega) X4.out.size ?_); intro a5 c5 w5 ho5 hgrow5 hat5 hne5 hnc5 hcm5; have X5 : Hid (Below w.heap.size w w5) := X4.out.grown hgrow5 X4.out.size (fun j hj => (ho.lt j hj).1)))
      go_ret
      exact ⟨a5, c5, rfl, by first | exact ho5 | (rw [List.map_append]; exact ho5), X5.out, hnc5, hcm5⟩

end Go.Proofs.Ytecohgmllmddhaa
