/-
  says: true is said of a number by the law's own function.
-/
import Derived.Test.YtkcijbejngnalaaQL
import Derived.Defers
import Derived.Recover
namespace Go.Proofs.Ytkcijbejngnalaa
open Go.RowKit
set_option linter.unusedVariables false

theorem quiet (w : World) : CallsD Try.prog 83 #[] .returning w fun e u' w' => e = .returned (.tuple #[]) ∧ u' = .returning ∧ w' = w := by
  refine callsD_of_wpS Try.func83 rfl fun c₀ cs hu => ?_
  apply wpS_region
  simp [wpOpsS, go_sem, recoverD, hu, Try.ntmps83, bodyPostS, results, Try.results83]
  cases c₀
  simp_all

set_option maxRecDepth 100000 in
theorem holds1_any (n : Int) (b : Nat) (kv : Value) (l : List Int) (w : World) (hc : w.cell? ⟨b, 0, none⟩ = some kv) (hk : Zs w kv l) :
    Calls Try.prog 28 #[.int .i64 n, .pointer (some ⟨b, 0, none⟩)] w fun e w' => e = .returned (.bool (decide (n ∈ l))) ∧ w' = w := by
  have HK : Hid (Zs w kv l) := hk
  obtain ⟨ka, kc, rfl, -, -⟩ := zs_shape hk
  clear hk
  go_enter Try.func28, Try.ntmps28
  go_wp2_with fail
  refine (rhas_any n _ l w HK.out).mono ?_
  rintro e w' ⟨rfl, rfl⟩
  go_wp2
  go_ret
  exact ⟨rfl, rfl⟩

set_option maxRecDepth 100000 in
theorem says_any (n : Int) (b : Nat) (kv : Value) (l : List Int) (w : World) (hc : w.cell? ⟨b, 0, none⟩ = some kv) (hk : Zs w kv l) :
    Calls Try.prog 58 #[.func (.func 28) #[] #[.pointer (some ⟨b, 0, none⟩)], .int .i64 n] w fun e w' => e = .returned (.bool (decide (n ∈ l))) ∧ w' = w := by
  go_enter_defers Try.func58, Try.ntmps58
  go_wp2_with fail
  refine (holds1_any n b kv l w hc hk).mono ?_
  rintro e w' ⟨rfl, rfl⟩
  go_wp2
  refine leaves_cons (f := 83) (args := #[]) (by simp) (by simp [go_sem]) ?_
  refine (quiet _).mono ?_
  rintro e u' w'' ⟨rfl, rfl, rfl⟩
  simp [Leaves, settle, results, Try.results58, go_sem]

end Go.Proofs.Ytkcijbejngnalaa
