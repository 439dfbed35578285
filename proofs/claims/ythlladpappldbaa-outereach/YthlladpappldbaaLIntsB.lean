/-
  Slices of whole numbers in regions that draw their order: 'append', 'make'.
-/
import Derived.Test.YthlladpappldbaaLInts
import Derived.Test.YthlladpappldbaaLFd
namespace Go.Proofs.Ythlladpappldbaa
open Go.RowKit
set_option linter.unusedVariables false

theorem step_addZ (w : World) {ops : Array Oper} {o : Oper} {a : Act} {K : Act → World → Prop} {Q : Exit → Act → World → Prop} {E : Prop} (hgd : o.guard = none) (s x : Operand)
    (ho : o.op = .call { callee := .builtin .append, args := #[s, x], argTypes := #[28, 28] })
    (B : Nat) (v : Value) (n : Nat) (l : List Int) (hs : a.eval s = v) (hown : OwnZ B w v n l)
    (xv : Value) (m : Nat) (news : List Int) (hx : a.eval x = xv) (hsrc : Sl 1 w xv m (news.map (Value.int .i64)))
    (hlen : n + m ≤ 1000000000) (hbase : B ≤ w.heap.size)
    (h : ∀ ao cap w', OwnZ B w' (.slice ao (n + m) cap) (n + m) (l ++ news) → w.grownBy w' v.ownBlock → ((Value.slice ao (n + m) cap).ownBlock = v.ownBlock ∨ (Value.slice ao (n + m) cap).ownBlock = some w.heap.size) → n + m ≤ cap → cap ≤ maxLen → K (a.put o.dst (.slice ao (n + m) cap)) w') :
    if Region.wanted o (yielded ops a.tmps) = true then Oper.wp Try.prog o a w K Q else E := by
  obtain ⟨i, hi, hz, h1, h8⟩ := infoZ_parts
  refine step_app w hgd s x 28 ho B 3 i (.int .i64 0) 1 8 Try.underlying28 hi hz h1 h8 rfl (by decide) v n _ hs hown xv m _ hx hsrc (z_oneCell _) (by unfold maxLen; omega) (by omega) hbase ?_
  intro ao cap w' h2 h3 h4 h5 h6 h7
  refine h ao cap w' ?_ h3 h4 h6 h7
  unfold OwnZ
  rw [List.map_append]
  exact h2

theorem step_make {P : Program} (w : World) {ops : Array Oper} {o : Oper} {a : Act} {K : Act → World → Prop} {Q : Exit → Act → World → Prop} {E : Prop}
    (hgd : o.guard = none) (l c : Operand) (t : TypeId) (hop : o.op = Op.makeSlice t l c)
    (base : Nat) (e : TypeId) (i : TypeInfo) (z : Value) (size : Nat) (h1 : P.underlying t = some (.slice e)) (h2 : P.info? e = some i) (h3 : i.zero = some z) (h4 : i.size = size)
    (kl kc : IntKind) (n : Nat) (hl : a.eval l = .int kl (n : Int)) (hc : a.eval c = .int kc (n : Int)) (b2 : i.bytes * n ≤ 281474976710656) (b3 : n ≤ maxLen) (b4 : base ≤ w.heap.size)
    (hK : ∀ w', w'.ownsRow base e size (.slice (some ⟨w.heap.size, 0, none⟩) n n) n (madeCells z.cells (n * size)).toList → w.grownBy w' none → K (a.put o.dst (.slice (some ⟨w.heap.size, 0, none⟩) n n)) w') :
    if Region.wanted o (yielded ops a.tmps) = true then Oper.wp P o a w K Q else E := by
  have hw : Region.wanted o (yielded ops a.tmps) = true := by simp [Region.wanted, hgd]
  rw [if_pos hw]
  obtain ⟨w', hrun, r1, r2⟩ := run_make_full (P := P) w base t e i z size h1 h2 h3 h4 kl kc n b2 b3 b4
  unfold Oper.wp
  simp [execOp, hop, hl, hc, hrun, Result.andThen]
  exact hK w' r1 r2

def IsZ1 (x : Int) : Value → World → Prop := fun v W => Sl 1 W v 1 ([x].map (Value.int .i64))
theorem stays_z1 (x : Int) : Stays (IsZ1 x) := fun _ _ _ hb h => Sl.below h hb

theorem Fe.not {listed : Array Bool} {xv : Nat → Value} {W : World} {i : Nat} {p : Value → World → Prop} (h : listed.getD i false = false) : Fe listed xv W i p := by
  intro a
  rw [h] at a
  cases a

end Go.Proofs.Ythlladpappldbaa
