/-
  The builtins clear and copy on whole blocks of bytes.
-/
import Derived.Test.YtbnedpjfgadkkaaLZero
import Derived.Laws.CopyOwn
namespace Go.Proofs.Ytbnedpjfgadkkaa
open Go.RowKit
set_option linter.unusedVariables false

theorem run_clearB (W : World) (q n cap : Nat) (l : List UInt8) (ty : TypeId) (hB : Blk W q [] l []) (hn : n = l.length) :
    ∃ W', (Builtin.clear_ #[40] ty #[.slice (some ⟨q, 0, none⟩) n cap]).run Try.prog W = .ok (.tuple #[]) W' ∧ Blk W' q [] (zeros n) [] ∧ W.grownBy W' (some q) ∧ W'.heap.size = W.heap.size := by
  subst hn
  obtain ⟨i0, hi, hz0, hz1, hz2⟩ := info_parts Try.infoByte
  by_cases h0 : l.length = 0
  · have : l = [] := List.eq_nil_of_length_eq_zero h0
    subst this
    refine ⟨W, ?_, by simpa [zeros] using hB, World.grownBy.refl _ _, rfl⟩
    simp [Builtin.clear_, run_underlying Try.underlying40]
  · obtain ⟨k, hk⟩ : ∃ k, l.length = k + 1 := ⟨l.length - 1, by omega⟩
    have hst := run_storeCells_at Try.prog q 0 5 ((zeros l.length).map bv) 0 (l.map bv).toArray W (by have h := hB; unfold Blk at h; simpa using h) (by simp [zeros]) (bv_oneCell _)
    have e2 : List.drop (List.map bv (zeros l.length)).length (List.map bv l) = [] := by simp [zeros_length]
    simp only [Nat.add_zero, Nat.zero_add, List.take_zero, e2, List.nil_append, List.append_nil] at hst
    refine ⟨W.setRow q ((zeros l.length).map bv).toArray, ?_, ?_, ?_, ?_⟩
    · rw [hk] at hst ⊢
      simp [Builtin.clear_, run_underlying Try.underlying40, zeroValue, typeInfo, hi, hz0, toList_zeroCells, hst]
    · unfold Blk
      rw [setRow_heap W q _ _ 5 (0, 0) hB]
      simp
    · exact ⟨rfl, rfl, rfl, by simp [World.setRow], fun k _ hk => setRow_other W q k _ (fun e => hk (by rw [e]))⟩
    · simp [World.setRow]

theorem wpList_clearB (W : World) {ops : Array Oper} {rest : List Oper} {o : Oper} {a : Act} {Q : Exit → Act → World → Prop} (hgd : o.guard = none) (s : Operand)
    (ho : o.op = .call { callee := .builtin .clear, args := #[s], argTypes := #[40] }) (q n cap : Nat) (l : List UInt8) (hs : a.eval s = .slice (some ⟨q, 0, none⟩) n cap) (hB : Blk W q [] l []) (hn : n = l.length)
    (h : ∀ W', Blk W' q [] (zeros n) [] → W.grownBy W' (some q) → W'.heap.size = W.heap.size → wpList Try.prog ops Q rest (a.put o.dst (.tuple #[])) W') : wpList Try.prog ops Q (o :: rest) a W := by
  refine wpList_plain hgd fun K hK => ?_
  obtain ⟨W', hr, h1, h2, h3⟩ := run_clearB W q n cap l o.type hB hn
  unfold Oper.wp execOp
  simp only [ho, resolve, invoke, builtin, Sem.run_bind, Sem.run_pure, Result.andThen_ok, List.map_toArray, List.map_cons, List.map_nil, hs, hr]
  exact hK _ _ (h W' h1 h2 h3)

theorem infoSize : Option.map (fun x => x.size) (Try.prog.info? 5) = some 1 := by kernel_rfl

theorem splice_all (cur cs : List Value) (h : cs.length = cur.length) : splice cur 0 cs = cs := by
  simp [splice, ← h]

/-- 'copy(dst, src)', both whole and as long, dst a new block. -/
theorem wpList_copyB (W : World) {ops : Array Oper} {rest : List Oper} {o : Oper} {a : Act} {Q : Exit → Act → World → Prop} (hgd : o.guard = none) (d s : Operand)
    (ho : o.op = .call { callee := .builtin .copy, args := #[d, s], argTypes := #[40, 40] }) (q n c : Nat) (l b : List UInt8) (v : Value) (hd : a.eval d = .slice (some ⟨q, 0, none⟩) n c) (hs : a.eval s = v) (hB : Blk W q [] l []) (hb : Bs W v b) (hn : n = l.length) (hlen : b.length = l.length)
    (B : Nat) (w0 : World) (hbel : Below B w0 W) (hBq : B ≤ q)
    (h : ∀ W', Blk W' q [] b [] → Below B w0 W' → wpList Try.prog ops Q rest (a.put o.dst (.int .i64 b.length)) W') : wpList Try.prog ops Q (o :: rest) a W := by
  obtain ⟨hl, ao, cap, rfl, hnc, hcm, hn0, hc⟩ := hb
  have hg : W.heap[q]? = some (.cells (l.map bv).toArray 5) := by have h := hB; unfold Blk at h; simpa using h
  refine wpList_copy_splice hgd d s 40 40 ho 5 Try.underlying40 infoSize (some ⟨q, 0, none⟩) ao n c b.length cap hd hs q 0 (l.map bv) 5 hg (b.map bv) (by simp [hn, hlen]) ?_ (by simp [hlen]) (bv_oneCell _) B w0 hbel hBq ?_
  · intro hpos
    refine ⟨rfl, ?_⟩
    rcases hc with h0 | ⟨b', off, rfl, hc⟩
    · simp at hpos; omega
    · exact ⟨_, rfl, fun j u hj => by rw [Addr.add_lit]; exact hc j u hj⟩
  · intro W' hW hb'
    rw [splice_all _ _ (by simp [hlen])] at hW
    have := h W' (by unfold Blk; simpa using hW.out) hb'
    simpa [goInt] using this

end Go.Proofs.Ytbnedpjfgadkkaa
