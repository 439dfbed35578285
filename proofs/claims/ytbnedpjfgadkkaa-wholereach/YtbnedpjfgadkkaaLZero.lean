/-
  'append(x, make([]byte, n)...)': noughts behind bytes of one's own.
-/
import Derived.Test.YtbnedpjfgadkkaaLCopy
namespace Go.Proofs.Ytbnedpjfgadkkaa
open Go.RowKit
set_option linter.unusedVariables false

theorem toList_zeroCells (m : Nat) : (Builtin.zeroCells (Value.int .u8 0).cells m).toList = (zeros m).map bv := by
  apply List.ext_getElem
  · simp [Builtin.zeroCells, Value.cells, zeros]
  · intro i h1 h2
    simp [Builtin.zeroCells, Value.cells, zeros, bv, Nat.mod_one]

theorem run_appZ (W : World) (p : Nat) (l : List UInt8) (post : List Value) (m : Nat) (ty : TypeId) (hB : Blk W p [] l post) (hm : l.length + post.length ≤ maxLen) (hm2 : m < 256) (hsz : l.length ≤ 1000000) (n cap : Nat) (hn : n = l.length) (hcap : cap = l.length + post.length) :
    ∃ q cap' post' W', (Builtin.append_ #[40, 5] ty #[.slice (some ⟨p, 0, none⟩) n cap, .int .u8 m]).run Try.prog W = .ok (.slice (some ⟨q, 0, none⟩) (l.length + m) cap') W' ∧ Blk W' q [] (l ++ zeros m) post' ∧ cap' = l.length + m + post'.length ∧ cap' ≤ maxLen ∧
      ((q = p ∧ m ≤ post.length ∧ W.grownBy W' (some p) ∧ W'.heap.size = W.heap.size) ∨ (q = W.heap.size ∧ post.length < m ∧ Below W.heap.size W W' ∧ W'.heap.size = W.heap.size + 1)) := by
  subst hn; subst hcap
  obtain ⟨i0, hi, hz0, hz1, hz2⟩ := info_parts Try.infoByte
  have hw : IntKind.i64.wrap (m : Int) = (m : Int) := by simp [IntKind.wrap, IntKind.bits, IntKind.signed]; omega
  have h0 : ¬ ((m : Int) < 0) := by omega
  have hai : ∀ V, (asInt (.int .u8 (m : Int))).run Try.prog V = .ok (m : Int) V := fun V => by simp [asInt, asIntOf]
  have h48 : ¬ ((281474976710656 : Int) < (m : Int)) := by omega
  by_cases hz : m = 0
  · subst hz
    refine ⟨p, l.length + post.length, post, W, ?_, by simpa [zeros] using hB, by simp, hm, .inl ⟨rfl, Nat.zero_le _, World.grownBy.refl _ _, rfl⟩⟩
    simp [Builtin.append_, run_underlying Try.underlying40, run_underlying Try.underlying5, sizeOf, typeInfo, hi, hz2, asInt, asIntOf, storeCells, show IntKind.i64.wrap 0 = 0 from rfl]
  by_cases hroom : m ≤ post.length
  · have hst := run_storeCells_at Try.prog p l.length 5 ((zeros m).map bv) 0 (l.map bv ++ post).toArray W hB (by simp [zeros]; omega) (bv_oneCell _)
    have e1 : List.take l.length (List.map bv l ++ post) = List.map bv l := by simp
    have e2 : List.drop (l.length + (List.map bv (zeros m)).length) (List.map bv l ++ post) = post.drop m := by simp [zeros_length, List.drop_append]
    simp only [Nat.add_zero, e1, e2] at hst
    refine ⟨p, l.length + post.length, post.drop m, W.setRow p (l.map bv ++ (zeros m).map bv ++ post.drop m).toArray, ?_, ?_, by simp; omega, hm, .inl ⟨rfl, hroom, ?_, ?_⟩⟩
    · simp [Builtin.append_, run_underlying Try.underlying40, run_underlying Try.underlying5, sizeOf, typeInfo, zeroValue, hi, hz0, hz1, hz2, hai, hw, h0, h48, hroom, hz, toList_zeroCells, Addr.add_lit, hst]
    · unfold Blk
      rw [setRow_heap W p _ _ 5 (0, 0) hB]
      simp
    · exact ⟨rfl, rfl, rfl, by simp [World.setRow], fun k _ hk => setRow_other W p k _ (fun e => hk (by rw [e]))⟩
    · simp [World.setRow]
  · have hap : ¬ (l.length + m ≤ l.length + post.length) := by omega
    have hfo := run_firstCells_some (P := Try.prog) W.drew 1 l.length ⟨p, 0, none⟩ l.length (l.length + post.length) (l.map bv) (by simp) (by intro j u hj; rw [Addr.add_lit]; have := hB.cell j u hj; simpa using this)
    have h63' : ¬ ((9223372036854775807 : Int) < (l.length : Int) + (m : Int)) := by omega
    have hnx : ¬ (281474976710656 < Builtin.nextslicecap (l.length + m) (l.length + post.length)) := by
      have := nextslicecap_le (show l.length + post.length < l.length + m by omega)
      omega
    have hm0 : m ≠ 0 := by omega
    refine ⟨W.heap.size, grownCap W (l.length + m) (l.length + post.length) 5, (Builtin.zeroCells (Value.int .u8 0).cells (grownCap W (l.length + m) (l.length + post.length) 5 - (l.length + m))).toList, W.drew.alloc (.cells ((l.map bv).toArray ++ (Builtin.zeroCells (Value.int .u8 0).cells m) ++ Builtin.zeroCells (Value.int .u8 0).cells (grownCap W (l.length + m) (l.length + post.length) 5 - (l.length + m))) 5), ?_, ?_, ?_, ?_, .inr ⟨rfl, by omega, ?_, ?_⟩⟩
    · simp [Builtin.append_, run_underlying Try.underlying40, run_underlying Try.underlying5, sizeOf, typeInfo, zeroValue, hi, hz0, hz1, hz2, hai, hw, h0, h48, hroom, h63', hnx, hm0, Question.forced, hfo, newRow, grownCap]
    · unfold Blk
      show (W.heap.push _)[W.heap.size]? = _
      simp [toList_zeroCells]
    · have h1 := grownCap_ge W (l.length + m) (l.length + post.length) 5
      have h2 := size_zeroCells (Value.int .u8 0).cells (grownCap W (l.length + m) (l.length + post.length) 5 - (l.length + m))
      rw [← Array.length_toList] at h2
      rw [h2]
      simp only [Value.cells, List.size_toArray, List.length_cons, List.length_nil]
      omega
    · exact grownCap_le_maxLen _ _ _ _ (by unfold maxLen; omega)
    · exact (Below.refl _ _).drew.alloc (Nat.le_refl _) _
    · simp

/-- In a plain region. -/
theorem wpList_appZ (W : World) {ops : Array Oper} {rest : List Oper} {o : Oper} {a : Act} {Q : Exit → Act → World → Prop} (hgd : o.guard = none) (s x : Operand)
    (ho : o.op = .call { callee := .builtin .append, args := #[s, x], argTypes := #[40, 5] }) (p : Nat) (l : List UInt8) (post : List Value) (m n cap : Nat)
    (hs : a.eval s = .slice (some ⟨p, 0, none⟩) n cap) (hx : a.eval x = .int .u8 m) (hB : Blk W p [] l post) (hm : l.length + post.length ≤ maxLen) (hm2 : m < 256) (hsz : l.length ≤ 1000000) (hn : n = l.length) (hcap : cap = l.length + post.length)
    (h : ∀ q cap' post' W', Blk W' q [] (l ++ zeros m) post' → cap' = l.length + m + post'.length → cap' ≤ maxLen →
      ((q = p ∧ m ≤ post.length ∧ W.grownBy W' (some p) ∧ W'.heap.size = W.heap.size) ∨ (q = W.heap.size ∧ post.length < m ∧ Below W.heap.size W W' ∧ W'.heap.size = W.heap.size + 1)) →
      wpList Try.prog ops Q rest (a.put o.dst (.slice (some ⟨q, 0, none⟩) (l.length + m) cap')) W') : wpList Try.prog ops Q (o :: rest) a W := by
  refine wpList_plain hgd fun K hK => ?_
  obtain ⟨q, cap', post', W', hr, h1, h2, h3, h4⟩ := run_appZ W p l post m o.type hB hm hm2 hsz n cap hn hcap
  unfold Oper.wp execOp
  simp only [ho, resolve, invoke, builtin, Sem.run_bind, Sem.run_pure, Result.andThen_ok, List.map_toArray, List.map_cons, List.map_nil, hs, hx, hr]
  exact hK _ _ (h q cap' post' W' h1 h2 h3 h4)

end Go.Proofs.Ytbnedpjfgadkkaa
