/-
  A new table; a literal's bytes.
-/
import Derived.Test.YtecohgmllmddhaaCSeal
import Derived.Test.YtecohgmllmddhaaCNew
import Derived.Lib.SlBytesConst
namespace Go.Proofs.Ytecohgmllmddhaa
open Go.RowKit
set_option linter.unusedVariables false

theorem tab_at (i : Nat) (h : i < 256) : (tab 256)[i]? = some (.int .u32 (rem8 i)) := by
  simp [tab, h]

/-- NEW: a new table; nothing old is turned. -/
theorem new_c (w : World) : Calls Try.prog 40 #[] w fun e w' => e = .returned (.pointer (some ⟨w.heap.size, 0, none⟩)) ∧ IsTab w' w.heap.size ∧ Below w.heap.size w w' ∧ w'.heap.size = w.heap.size + 1 := by
  refine (new_any w).mono ?_
  rintro e w' ⟨rfl, n, rfl⟩
  refine ⟨rfl, ?_, below_drewN ((Below.refl _ _).alloc (Nat.le_refl _) _) n, by simp⟩
  intro i hi
  rw [World.cell?_drewN, World.cell?_alloc_new]
  exact tab_at i hi

theorem conv_const (w : World) (C : Array Value) (n c b : Nat) (hb : b = w.heap.size) :
    (convert 27 27 (.slice (some ⟨b, 0, none⟩) n c)).run Try.prog (w.alloc (.cells C 5)) = .ok (.slice (some ⟨b, 0, none⟩) n c) (w.alloc (.cells C 5 (C.size, C.size + 1))) := by
  subst hb
  exact Lib.run_convert_bytes_const (P := Try.prog) w 27 5 C n c Try.underlying27 Try.underlying5

end Go.Proofs.Ytecohgmllmddhaa
