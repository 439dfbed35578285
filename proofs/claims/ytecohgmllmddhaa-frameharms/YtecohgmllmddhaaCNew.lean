/-
  The walk of crc.New: a new block that holds the remainders of all bytes.
-/
import Derived.Test.YtecohgmllmddhaaCTab
import Derived.Deep.RegionWith
import Derived.Deep.CutRange
namespace Go.Proofs.Ytecohgmllmddhaa
open Go.RowKit

theorem wrap_u8_lt (k : Nat) (h : k < 256) : IntKind.u8.wrap (k : Int) = (k : Int) := by rw [IntKind.wrap_u8']; omega

theorem tab_step (k : Nat) : (tab k).setIfInBounds k (.int .u32 (rem8 k)) = tab (k + 1) := by
  apply Array.ext
  · simp [tab]
  · intro i h1 h2
    have hi : i < 256 := by simpa [tab] using h2
    rw [Array.getElem_setIfInBounds (by simpa using h1)]
    by_cases e : k = i
    · subst e
      simp [tab]
    · rw [if_neg e]
      simp only [tab, Array.getElem_map, Array.getElem_range]
      by_cases h3 : i < k
      · rw [if_pos h3, if_pos (by omega)]
      · rw [if_neg h3, if_neg (by omega)]

theorem tab_set (w : World) (k n : Nat) : ((w.alloc (Obj.cells (tab k) 111)).drewN (n + 1)).setCell { block := w.heap.size, off := k } (Value.int IntKind.u32 ↑(MathA.Ln 8 (BitVec.ofNat 32 (k * 16777216))).toNat) = (w.alloc (Obj.cells (tab (k + 1)) 111)).drewN (n + 1) := by
  rw [← tab_step k]
  show ((w.alloc (Obj.cells (tab k) 111)).setCell { block := w.heap.size, off := k } (.int .u32 (rem8 k))).drewN (n + 1) = _
  rw [World.setCell_alloc_new]

set_option maxRecDepth 100000 in
set_option maxHeartbeats 400000 in
theorem new_any (w : World) :
    Calls Try.prog 40 #[] w fun e w' => e = .returned (.pointer (some ⟨w.heap.size, 0, none⟩)) ∧ ∃ n, w' = (w.alloc (.cells (tab 256) 111)).drewN n := by
  have hz := zeroT
  go_enter Try.func40, Try.ntmps40
  go_wp2
  clear hz
  go_loopw [5] (fun i wr => ∃ k n : Nat, k ≤ 256 ∧ i = .int .i64 k ∧ wr = (w.alloc (.cells (tab k) 111)).drewN n) (fun i _ => 256 - (intOf i).toNat)
  case atStart => exact ⟨0, 0, by omega, rfl, rfl⟩
  case round =>
    obtain ⟨k, n, hk, rfl, rfl⟩ := hrel
    by_cases hlt : k < 256
    · have hsz : k < (tab k).size := by simp [tab]; omega
      go_wp2
      go_region_with (go_at_call 56; rw [wrap_u8_lt k hlt]; refine (remainder_any k hlt _).mono ?_; rintro e w' ⟨rfl, rfl⟩)
      go_wp2
      go_roundw
      case rel => exact ⟨k + 1, n + 1, by omega, by go_num, tab_set w k n⟩
      case measure => simp [intOf]; omega
    · go_wp2
      go_ret
      have : k = 256 := by omega
      subst this
      exact ⟨rfl, n, rfl⟩

end Go.Proofs.Ytecohgmllmddhaa
