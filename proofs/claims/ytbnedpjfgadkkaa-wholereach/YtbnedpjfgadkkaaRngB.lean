/-
  rng: New and the document's Seed.
-/
import Derived.Test.YtbnedpjfgadkkaaRngA
namespace Go.Proofs.Ytbnedpjfgadkkaa
open Go.RowKit
set_option linter.unusedVariables false

set_option maxRecDepth 100000 in
set_option maxHeartbeats 1000000 in
theorem rnew_some (b off cap : Nat) (l : List Nat) (w : World) (hlt : ∀ x ∈ l, x < 18446744073709551616) (hnc : l.length ≤ cap) (hcm : cap ≤ maxLen)
    (hcell : ∀ j u, (l.map uv)[j]? = some u → w.cell? ⟨b, off + j, none⟩ = some u) :
    Calls Try.prog 26 #[.slice (some ⟨b, off, none⟩) l.length cap] w fun e w' => e = .returned (.pointer (some ⟨w.heap.size, 0, none⟩)) ∧ IsRand w' w.heap.size (seedTo 0 l) ∧ Below w.heap.size w w' ∧ w'.heap.size = w.heap.size + 1 := by
  unfold maxLen at hcm
  obtain ⟨n, hn⟩ : ∃ n, l.length = n := ⟨_, rfl⟩
  have Hn : Hid (l.length = n) := hn
  have HC : Hid (∀ j u, (l.map uv)[j]? = some u → w.cell? ⟨b, off + j, none⟩ = some u) := hcell
  have HL : Hid (∀ x ∈ l, x < 18446744073709551616) := hlt
  rw [hn] at hnc ⊢
  clear hn hcell hlt
  go_enter Try.func26, Try.ntmps26
  go_wp2
  go_loopw [10] (fun i wr => ∃ (k : Nat), k ≤ n ∧ i = .int .i64 k ∧ IsRand wr w.heap.size (seedTo 0 (l.take k)) ∧ Below w.heap.size w wr ∧ wr.heap.size = w.heap.size + 1) (fun i _ => n - (intOf i).toNat)
  case atStart => exact ⟨0, by omega, rfl, rand_new _ _, below_alloc _ _, by simp⟩
  case round =>
    obtain ⟨k, hk, rfl, hr, hb, hs⟩ := hrel
    have HB : Hid (Below w.heap.size w wr ∧ wr.heap.size = w.heap.size + 1) := ⟨hb, hs⟩
    have HR : Hid (IsRand wr w.heap.size (seedTo 0 (l.take k))) := hr
    clear hr hb hs
    by_cases hlt : k < n
    · have hkl : k < l.length := by rw [Hn.out]; exact hlt
      obtain ⟨x, hx⟩ : ∃ x, l[k] = x := ⟨_, rfl⟩
      have hc0 := HC.out k _ (map_uv_at l k hkl)
      rw [hx] at hc0
      have hc := (HB.out.1.cell (cell_block_lt hc0)).trans hc0
      have hxl : Hid (x < 18446744073709551616) := HL.out x (hx ▸ List.getElem_mem hkl)
      have HN : Hid (seedTo 0 (l.take (k + 1)) = seedStep (seedTo 0 (l.take k)) x) := seed_next hkl hx
      have hcr := HR.out.cell
      have hfr := HR.out.fz
      have HS : Hid (∀ t : Nat, t < 18446744073709551616 → IsRand (wr.setCell ⟨w.heap.size, 0, none⟩ (.int .u64 (t : Int))) w.heap.size t) := fun t ht => HR.out.set ht
      clear hc0 hx HR
      generalize seedTo 0 (l.take k) = s at *
      have a1 := addS_wrap s
      have a2 := seed_xor s x hxl.out
      have HM : Hid (∀ W, Calls Try.prog 38 #[.int .u64 (addS s ^^^ x : Nat)] W fun e w' => e = .returned (.int .u64 (seedStep s x : Nat)) ∧ w' = W) := fun W => mix_any _ (seed_xor_lt s x hxl.out) W
      have HT : Hid (seedStep s x < 18446744073709551616) := mix_lt
      generalize seedStep s x = t at *
      generalize addS s ^^^ x = y at *
      generalize addS s = z at *
      go_wp2_with fail
      refine (HM.out _).mono ?_
      rintro e w1 ⟨rfl, rfl⟩
      go_wp2
      go_roundw
      case rel => exact ⟨k + 1, by omega, by go_num, by rw [HN.out]; exact HS.out t HT.out, HB.out.1.setCell (Nat.le_refl _) _, by simpa [World.setCell] using HB.out.2⟩
      case measure => simp [intOf]; omega
    · have hk2 : l.take k = l := List.take_of_length_le (by rw [Hn.out]; omega)
      rw [hk2] at HR
      go_wp2
      go_ret
      exact ⟨rfl, HR.out, HB.out⟩

set_option maxRecDepth 100000 in
set_option maxHeartbeats 1000000 in
theorem rnew_none (ao : Option Addr) (cap : Nat) (w : World) :
    Calls Try.prog 26 #[.slice ao 0 cap] w fun e w' => e = .returned (.pointer (some ⟨w.heap.size, 0, none⟩)) ∧ IsRand w' w.heap.size 0 ∧ Below w.heap.size w w' ∧ w'.heap.size = w.heap.size + 1 := by
  go_enter Try.func26, Try.ntmps26
  go_wp2
  go_loopw [10] (fun i wr => i = .int .i64 0 ∧ IsRand wr w.heap.size 0 ∧ Below w.heap.size w wr ∧ wr.heap.size = w.heap.size + 1) (fun i _ => 0)
  case atStart => exact ⟨rfl, rand_new _ _, below_alloc _ _, by simp⟩
  case round =>
    obtain ⟨rfl, hr, hb, hs⟩ := hrel
    have HR : Hid (IsRand wr w.heap.size 0 ∧ Below w.heap.size w wr ∧ wr.heap.size = w.heap.size + 1) := ⟨hr, hb, hs⟩
    clear hr hb hs
    go_wp2
    go_ret
    exact ⟨rfl, HR.out⟩

/-- NEW: of any seeds. -/
theorem rnew_any (v : Value) (l : List Nat) (w : World) (h : Us w v l) :
    Calls Try.prog 26 #[v] w fun e w' => e = .returned (.pointer (some ⟨w.heap.size, 0, none⟩)) ∧ IsRand w' w.heap.size (seedTo 0 l) ∧ Below w.heap.size w w' ∧ w'.heap.size = w.heap.size + 1 := by
  obtain ⟨⟨_, ao, cap, hv, h2, h3, _, h5⟩, hl⟩ := h
  subst hv
  rcases h5 with h0 | ⟨b, off, rfl, hc⟩
  · obtain rfl : l = [] := List.eq_nil_of_length_eq_zero h0
    exact rnew_none _ _ _
  · exact rnew_some b off cap l w hl h2 h3 hc

set_option maxRecDepth 100000 in
set_option maxHeartbeats 1000000 in
theorem rseed_some (b off cap : Nat) (l : List Nat) (w : World) (hlt : ∀ x ∈ l, x < 18446744073709551616) (hnc : l.length ≤ cap) (hcm : cap ≤ maxLen)
    (hcell : ∀ j u, (l.map uv)[j]? = some u → w.cell? ⟨b, off + j, none⟩ = some u) :
    Calls Try.prog 31 #[.slice (some ⟨b, off, none⟩) l.length cap] w fun e w' => e = .returned (.int .u64 (seedTo 0 l : Nat)) ∧ w' = w := by
  unfold maxLen at hcm
  obtain ⟨n, hn⟩ : ∃ n, l.length = n := ⟨_, rfl⟩
  have Hn : Hid (l.length = n) := hn
  have HC : Hid (∀ j u, (l.map uv)[j]? = some u → w.cell? ⟨b, off + j, none⟩ = some u) := hcell
  have HL : Hid (∀ x ∈ l, x < 18446744073709551616) := hlt
  rw [hn] at hnc ⊢
  clear hn hcell hlt
  go_enter Try.func31, Try.ntmps31
  go_wp2
  go_loop [3, 4] (fun s i => ∃ (k : Nat), k ≤ n ∧ i = .int .i64 k ∧ s = .int .u64 (seedTo 0 (l.take k) : Nat)) (fun _ i => n - (intOf i).toNat)
  case atStart => exact ⟨0, by omega, rfl, rfl⟩
  case round =>
    obtain ⟨k, hk, rfl, rfl⟩ := hrel
    by_cases hlt : k < n
    · have hkl : k < l.length := by rw [Hn.out]; exact hlt
      obtain ⟨x, hx⟩ : ∃ x, l[k] = x := ⟨_, rfl⟩
      have hc := HC.out k _ (map_uv_at l k hkl)
      rw [hx] at hc
      have hxl : Hid (x < 18446744073709551616) := HL.out x (hx ▸ List.getElem_mem hkl)
      have HN : Hid (seedTo 0 (l.take (k + 1)) = seedStep (seedTo 0 (l.take k)) x) := seed_next hkl hx
      clear hx
      generalize seedTo 0 (l.take k) = s at *
      have a1 := addS_wrap s
      have a2 := seed_xor s x hxl.out
      have HM : Hid (∀ W, Calls Try.prog 44 #[.int .u64 (addS s ^^^ x : Nat)] W fun e w' => e = .returned (.int .u64 (seedStep s x : Nat)) ∧ w' = W) := fun W => rmix_any _ (seed_xor_lt s x hxl.out) W
      generalize seedStep s x = t at *
      generalize addS s ^^^ x = y at *
      generalize addS s = z at *
      go_wp2_with fail
      refine (HM.out _).mono ?_
      rintro e w1 ⟨rfl, rfl⟩
      go_wp2
      go_round
      case rel => exact ⟨k + 1, by omega, by go_num, by rw [HN.out]⟩
      case measure => simp [intOf]; omega
    · have hk2 : l.take k = l := List.take_of_length_le (by rw [Hn.out]; omega)
      rw [hk2]
      go_wp2
      go_ret
      exact ⟨rfl, rfl⟩

set_option maxRecDepth 100000 in
set_option maxHeartbeats 1000000 in
theorem rseed_none (ao : Option Addr) (cap : Nat) (w : World) :
    Calls Try.prog 31 #[.slice ao 0 cap] w fun e w' => e = .returned (.int .u64 0) ∧ w' = w := by
  go_enter Try.func31, Try.ntmps31
  go_wp2
  go_loop [3, 4] (fun s i => i = .int .i64 0 ∧ s = .int .u64 0) (fun _ _ => 0)
  case atStart => exact ⟨rfl, rfl⟩
  case round =>
    obtain ⟨rfl, rfl⟩ := hrel
    go_wp2
    go_ret
    exact ⟨rfl, rfl⟩

/-- The document's Seed. -/
theorem rseed_any (v : Value) (l : List Nat) (w : World) (h : Us w v l) :
    Calls Try.prog 31 #[v] w fun e w' => e = .returned (.int .u64 (seedTo 0 l : Nat)) ∧ w' = w := by
  obtain ⟨⟨_, ao, cap, hv, h2, h3, _, h5⟩, hl⟩ := h
  subst hv
  rcases h5 with h0 | ⟨b, off, rfl, hc⟩
  · obtain rfl : l = [] := List.eq_nil_of_length_eq_zero h0
    exact rseed_none _ _ _
  · exact rseed_some b off cap l w hl h2 h3 hc

end Go.Proofs.Ytbnedpjfgadkkaa
