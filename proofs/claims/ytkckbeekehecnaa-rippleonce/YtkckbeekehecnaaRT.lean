/-
  ripple: the law's example; its acts.
-/
import Derived.Test.YtkckbeekehecnaaRS
import Derived.Test.YtkckbeekehecnaaZQ
import Derived.BigQuiet
namespace Go.Proofs.Ytkckbeekehecnaa
open Go.RowKit Go.Maps Go.ChangeShapes Go.WideShapes Go.ChangeAt
set_option linter.unusedVariables false
set_option maxRecDepth 100000

theorem Qu.fresh {W : World} {p : Nat} {s : QuS} (h : Qu W p s) {g n c : Nat} (hg : W.heap.size ≤ g) : ∀ b, (Value.slice (some ⟨g, 0, none⟩) n c).ownBlock = some b → ¬ s.own p b := fun b hb ho => by
  have := (h.lt b ho).2
  have := Option.some.inj hb
  simp at this
  omega

set_option maxHeartbeats 1000000 in
/-- The law's example. -/
theorem speaks18_any (w : World) : Calls Try.prog 19 #[] w fun e w' => e = .returned (.bool true) ∧ Below w.heap.size w w' := by
  have Q0 : Hid (Qu (w.alloc (.cells #[.map none, .slice none 0 0] 51)) w.heap.size ⟨.map none, .slice none 0 0, [], []⟩) := Qu.new w
  have B0 : Hid (Below w.heap.size w (w.alloc (.cells #[.map none, .slice none 0 0] 51))) := below_alloc _ _
  go_enter Try.func19, Try.ntmps19
  go_upto_region 2 with fail
  generalize w.alloc (.cells #[.map none, .slice none 0 0] 51) = w0 at *
  have Q1 : Hid (Qu (w0.alloc (.cells #[.int .i64 3, .int .i64 3, .int .i64 5] 3)) w.heap.size ⟨.map none, .slice none 0 0, [], []⟩) := Q0.out.below (below_alloc _ _)
  have Z1 := zs_lit3 w0 3 3 5 3 _ rfl
  have N1 : ∀ b, (Value.slice (some ⟨w0.heap.size, 0, none⟩) 3 3).ownBlock = some b → ¬ (⟨.map none, .slice none 0 0, [], []⟩ : QuS).own w.heap.size b := Qu.fresh Q0.out (Nat.le_refl _)
  have B1 : Hid (Below w.heap.size w (w0.alloc (.cells #[.int .i64 3, .int .i64 3, .int .i64 5] 3))) := on_below B0.out (below_alloc _ _)
  go_wp2_with fail
  refine (qupush_any _ _ _ [3, 3, 5] _ Q1.out Z1 (fun _ => N1) (by decide) (by decide) (by decide)).mono ?_
  rintro e w2 ⟨rfl, s2, q2, e2, r2, k2, o2⟩
  have Q2 : Hid (Qu w2 w.heap.size s2) := q2
  have E2 : Hid (s2.ever = [3, 5] ∧ s2.row = [3, 5]) := ⟨e2, r2⟩
  have B2 : Hid (Below w.heap.size w w2) := B1.out.trans (k2.below B1.out.size (fun k hk => (Q1.out.lt k hk).1))
  have P2 := qupop_any w.heap.size s2 w2 q2 (by rw [r2]; decide)
  clear q2 e2 r2 k2 o2 Q0 Q1 B0 B1 Z1 N1
  go_upto_region 3 with fail
  go_wp2_with fail
  refine P2.mono ?_
  rintro e w3 ⟨-, h3⟩
  obtain ⟨rfl, v3, q3, -, k3⟩ := h3 3 [5] E2.out.2
  have Q3 : Hid (Qu w3 w.heap.size ⟨s2.mv, v3, s2.ever, [5]⟩) := q3
  have B3 : Hid (Below w.heap.size w w3) := B2.out.trans (k3.below B2.out.size (fun k hk => (Q2.out.lt k hk).1))
  clear h3 q3 k3 P2 B2 Q2
  go_upto_region 4 with fail
  have Q4 : Hid (Qu (w3.alloc (.cells #[.int .i64 3] 3)) w.heap.size ⟨s2.mv, v3, s2.ever, [5]⟩) := Q3.out.below (below_alloc _ _)
  have Z4 := zs_lit1 w3 3 3 _ rfl
  have N4 : ∀ b, (Value.slice (some ⟨w3.heap.size, 0, none⟩) 1 1).ownBlock = some b → ¬ (⟨s2.mv, v3, s2.ever, [5]⟩ : QuS).own w.heap.size b := Qu.fresh Q3.out (Nat.le_refl _)
  have B4 : Hid (Below w.heap.size w (w3.alloc (.cells #[.int .i64 3] 3))) := on_below B3.out (below_alloc _ _)
  go_wp2_with fail
  refine (qupush_any _ _ _ [3] _ Q4.out Z4 (fun _ => N4) (by decide) (by rw [E2.out.1]; decide) (by show 1 + 1 ≤ 1000000; omega)).mono ?_
  rintro e w5 ⟨rfl, s5, q5, e5, r5, k5, o5⟩
  have e5' : s5.ever = [3, 5] := by rw [e5]; show pushI s2.ever [3] = _; rw [E2.out.1]; decide
  have r5' : s5.row = [5] := by rw [r5]; show [5] ++ (pushI s2.ever [3]).drop s2.ever.length = _; rw [E2.out.1]; decide
  have hn : (((pushI (⟨s2.mv, v3, s2.ever, [5]⟩ : QuS).ever [3]).length : Int) - ((⟨s2.mv, v3, s2.ever, [5]⟩ : QuS).ever.length : Int)) = 0 := by show ((pushI s2.ever [3]).length : Int) - (s2.ever.length : Int) = 0; rw [E2.out.1]; decide
  rw [hn]
  have B5 : Hid (Below w.heap.size w w5) := B4.out.trans (k5.below B4.out.size (fun k hk => (Q4.out.lt k hk).1))
  have L5 := qulen_any w.heap.size s5 w5 q5
  have V5 := quever_any w.heap.size s5 5 w5 q5 (by decide)
  have V4 := quever_any w.heap.size s5 4 w5 q5 (by decide)
  rw [r5'] at L5
  rw [e5'] at V4 V5
  have d5 : @decide ((5 : Int) ∈ [(3 : Int), 5]) (List.instDecidableMemOfLawfulBEq _ _) = true := by simp
  have d4 : @decide ((4 : Int) ∈ [(3 : Int), 5]) (List.instDecidableMemOfLawfulBEq _ _) = false := by simp
  rw [d5] at V5
  rw [d4] at V4
  clear q5 e5 r5 k5 o5 e5' r5' hn Q3 Q4 Z4 N4 B3 B4 d4 d5
  go_wp2_with fail
  refine L5.mono ?_
  rintro e w6 ⟨rfl, rfl⟩
  go_wp2_with fail
  refine V5.mono ?_
  rintro e w7 ⟨rfl, rfl⟩
  go_wp2_with fail
  refine V4.mono ?_
  rintro e w8 ⟨rfl, rfl⟩
  go_wp2
  go_ret
  exact ⟨rfl, B5.out⟩

end Go.Proofs.Ytkckbeekehecnaa
