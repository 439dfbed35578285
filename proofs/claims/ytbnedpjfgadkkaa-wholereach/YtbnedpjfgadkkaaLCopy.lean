/-
  'append([]byte{}, x...)': a copy of bytes in new memory, in regions that draw their order, too; which of two values lie apart.
-/
import Derived.Test.YtbnedpjfgadkkaaBlkA
import Derived.Test.YtbnedpjfgadkkaaLOrd
namespace Go.Proofs.Ytbnedpjfgadkkaa
open Go.RowKit
set_option linter.unusedVariables false
set_option maxRecDepth 100000

/-- A row of bytes of its own, from block B on. -/
def IsOwn (B : Nat) (l : List UInt8) : Value → World → Prop := fun v W => ∃ q cap post, v = .slice (some ⟨q, 0, none⟩) l.length cap ∧ B ≤ q ∧ Blk W q [] l post ∧ l.length ≤ cap ∧ cap ≤ maxLen ∧ cap = l.length + post.length

theorem stays_own (B : Nat) (l : List UInt8) : Stays (IsOwn B l) := fun _ _ _ hb ⟨q, cap, post, h1, h2, h3, h4⟩ => ⟨q, cap, post, h1, h2, h3.below hb, h4⟩

/-- A row of bytes of its own, with no room at all. -/
def IsNone (B : Nat) : Value → World → Prop := fun v W => ∃ q, v = .slice (some ⟨q, 0, none⟩) 0 0 ∧ B ≤ q ∧ Blk W q [] [] []
theorem stays_none (B : Nat) : Stays (IsNone B) := fun _ _ _ hb ⟨q, h1, h2, h3⟩ => ⟨q, h1, h2, h3.below hb⟩

theorem IsOwn.lt {B : Nat} {l : List UInt8} {v : Value} {W : World} (h : IsOwn B l v W) : ∃ q, v.ownBlock = some q ∧ q < W.heap.size := by
  obtain ⟨q, cap, post, rfl, _, h3, _⟩ := h
  exact ⟨q, rfl, h3.lt⟩
theorem IsNone.lt {B : Nat} {v : Value} {W : World} (h : IsNone B v W) : ∃ q, v.ownBlock = some q ∧ q < W.heap.size := by
  obtain ⟨q, rfl, _, h3⟩ := h
  exact ⟨q, rfl, h3.lt⟩

/-- Two values that lie in blocks apart, once both are there. -/
def Ap (listed : Array Bool) (xv : Nat → Value) (a b : Nat) : Prop := listed.getD a false = true → listed.getD b false = true → (xv a).ownBlock ≠ (xv b).ownBlock

theorem Ap.start (n : Nat) (xv : Nat → Value) (a b : Nat) : Ap (Array.replicate n false) xv a b := by
  intro h
  exfalso
  rw [Array.getD_eq_getD_getElem?, Array.getElem?_replicate] at h
  split at h <;> simp at h

theorem getD_set_ne {listed : Array Bool} {i j : Nat} (h : j ≠ i) : (listed.setIfInBounds i true).getD j false = listed.getD j false := by
  rw [Array.getD_eq_getD_getElem?, Array.getD_eq_getD_getElem?, Array.getElem?_setIfInBounds_ne (Ne.symm h)]

theorem Ap.skip {listed : Array Bool} {xv : Nat → Value} {a b i : Nat} {v : Value} (h : Ap listed xv a b) (ha : a ≠ i) (hb : b ≠ i) : Ap (listed.setIfInBounds i true) (updV xv i v) a b := by
  intro h1 h2
  rw [getD_set_ne ha] at h1
  rw [getD_set_ne hb] at h2
  simp only [updV, if_neg ha, if_neg hb]
  exact h h1 h2

theorem Ap.left {listed : Array Bool} {xv : Nat → Value} {a b : Nat} {v : Value} (hab : b ≠ a) (h : listed.getD b false = true → v.ownBlock ≠ (xv b).ownBlock) : Ap (listed.setIfInBounds a true) (updV xv a v) a b := by
  intro h1 h2
  rw [getD_set_ne hab] at h2
  simp only [updV, if_neg hab, if_true]
  exact h h2

theorem Ap.right {listed : Array Bool} {xv : Nat → Value} {a b : Nat} {v : Value} (hab : a ≠ b) (h : listed.getD a false = true → (xv a).ownBlock ≠ v.ownBlock) : Ap (listed.setIfInBounds b true) (updV xv b v) a b := by
  intro h1 h2
  rw [getD_set_ne hab] at h1
  simp only [updV, if_neg hab, if_true]
  exact h h1

/-- What is new lies apart from what was there. -/
theorem new_apart {W : World} {k n c : Nat} {u : Value} (hk : k = W.heap.size) (h : ∃ q, u.ownBlock = some q ∧ q < W.heap.size) : (Value.slice (some ⟨k, 0, none⟩) n c).ownBlock ≠ u.ownBlock := by
  obtain ⟨q, h1, h2⟩ := h
  rw [h1]
  show some k ≠ some q
  intro e
  injection e with e
  omega

theorem Blk.owns {w : World} {p : Nat} {l : List UInt8} {post : List Value} (h : Blk w p [] l post) (hm : l.length + post.length ≤ maxLen) : w.ownsRow 0 5 1 (.slice (some ⟨p, 0, none⟩) l.length (l.length + post.length)) l.length (l.map bv) := by
  refine ⟨by simp, .inr ⟨p, l.length + post.length, (l.map bv ++ post).toArray, rfl, Nat.zero_le _, h, by omega, hm, by simp, by simp⟩⟩

/-- 'append(x, v...)' onto bytes of one's own: in place where there is room, else as a new block. -/
theorem run_appB (W : World) (p : Nat) (l b : List UInt8) (post : List Value) (v : Value) (ty : TypeId) (hB : Blk W p [] l post) (hb : Bs W v b) (hm : l.length + post.length ≤ maxLen) (hsz : l.length + b.length ≤ 70368744177664) (n cap : Nat) (hn : n = l.length) (hcap : cap = l.length + post.length) :
    ∃ q cap' post' W', (Builtin.append_ #[40, 40] ty #[.slice (some ⟨p, 0, none⟩) n cap, v]).run Try.prog W = .ok (.slice (some ⟨q, 0, none⟩) (l.length + b.length) cap') W' ∧ Blk W' q [] (l ++ b) post' ∧ cap' = l.length + b.length + post'.length ∧ cap' ≤ maxLen ∧
      ((q = p ∧ b.length ≤ post.length ∧ post' = post.drop b.length ∧ W.grownBy W' (some p) ∧ W'.heap.size = W.heap.size) ∨ (q = W.heap.size ∧ post.length < b.length ∧ Below W.heap.size W W' ∧ W'.heap.size = W.heap.size + 1)) := by
  subst hn; subst hcap
  obtain ⟨i0, hi, hz0, hz1, hz2⟩ := info_parts Try.infoByte
  obtain ⟨hll, ao, cap0, rfl, hnc, hcm, hn0, hc⟩ := hb
  cases ao with
  | none =>
    have h0 := hn0 rfl
    subst h0
    obtain rfl : b = [] := List.eq_nil_of_length_eq_zero (by omega)
    refine ⟨p, l.length + post.length, post, W, ?_, by simpa using hB, by simp, hm, .inl ⟨rfl, by simp, by simp, World.grownBy.refl _ _, rfl⟩⟩
    have h := run_append_owned_none (P := Try.prog) W 0 40 ty 5 i0 1 Try.underlying40 hi _ _ _ (hB.owns hm)
    simpa using h
  | some a =>
    have hcl : ∀ j u, (b.map bv)[j]? = some u → W.cell? (a.add j) = some u := by
      intro j u hj
      rcases hc with hz | ⟨b', off, e, hc⟩
      · have := (List.getElem?_eq_some_iff.1 hj).1
        simp at this
        omega
      · obtain rfl := Option.some.inj e
        rw [Addr.add_lit]
        exact hc j u hj
    by_cases hroom : b.length ≤ post.length
    · have hrun := run_append_room (P := Try.prog) W 40 ty 5 i0 Try.underlying40 hi p l.length (l.length + post.length) (l.map bv ++ post).toArray hB a b.length cap0 (b.map bv) (by rw [hz1]; simp) hcl (bv_oneCell _) (by omega) (by rw [hz1]; simp; omega)
      refine ⟨p, l.length + post.length, post.drop b.length, _, hrun, ?_, by simp; omega, hm, .inl ⟨rfl, hroom, rfl, ?_, ?_⟩⟩
      · unfold Blk
        rw [setRow_heap W p _ _ 5 (0, 0) hB, hz1]
        congr 2
        simp [List.drop_append]
      · exact ⟨rfl, rfl, rfl, by simp [World.setRow], fun k _ hk => setRow_other W p k _ (fun e => hk (by rw [e]))⟩
      · simp [World.setRow]
    · have hrun := run_append_grow (P := Try.prog) W 40 ty 5 i0 (.int .u8 0) Try.underlying40 hi hz0 ⟨p, 0, none⟩ l.length (l.length + post.length) (l.map bv) (by rw [hz1]; simp) (by intro j u hj; rw [Addr.add_lit]; exact hB.cell j u hj) a b.length cap0 (b.map bv) (by rw [hz1]; simp) hcl (by omega) (by omega) (by rw [hz2]; have := nextslicecap_le (show l.length + post.length < l.length + b.length by omega); omega)
      refine ⟨W.heap.size, grownCap W (l.length + b.length) (l.length + post.length) 5, (Builtin.zeroCells (Value.int .u8 0).cells (grownCap W (l.length + b.length) (l.length + post.length) 5 - (l.length + b.length))).toList, _, hrun, ?_, ?_, ?_, .inr ⟨rfl, by omega, ?_, ?_⟩⟩
      · unfold Blk
        show (W.heap.push _)[W.heap.size]? = _
        simp
      · have h1 := grownCap_ge W (l.length + b.length) (l.length + post.length) 5
        have h2 := size_zeroCells (Value.int .u8 0).cells (grownCap W (l.length + b.length) (l.length + post.length) 5 - (l.length + b.length))
        rw [← Array.length_toList] at h2
        rw [h2]
        simp only [Value.cells, List.size_toArray, List.length_cons, List.length_nil]
        omega
      · exact grownCap_le_maxLen _ _ _ _ (by unfold maxLen; omega)
      · exact (Below.refl _ _).drew.alloc (Nat.le_refl _) _
      · simp

/-- At the operation. -/
theorem wp_appB (W : World) {o : Oper} {a : Act} {K : Act → World → Prop} {Q : Exit → Act → World → Prop} (s x : Operand)
    (ho : o.op = .call { callee := .builtin .append, args := #[s, x], argTypes := #[40, 40] }) (p : Nat) (l b : List UInt8) (post : List Value) (n cap : Nat) (v : Value)
    (hs : a.eval s = .slice (some ⟨p, 0, none⟩) n cap) (hx : a.eval x = v) (hB : Blk W p [] l post) (hb : Bs W v b) (hm : l.length + post.length ≤ maxLen) (hsz : l.length + b.length ≤ 70368744177664) (hn : n = l.length) (hcap : cap = l.length + post.length)
    (h : ∀ q cap' post' W', Blk W' q [] (l ++ b) post' → cap' = l.length + b.length + post'.length → cap' ≤ maxLen →
      ((q = p ∧ b.length ≤ post.length ∧ post' = post.drop b.length ∧ W.grownBy W' (some p) ∧ W'.heap.size = W.heap.size) ∨ (q = W.heap.size ∧ post.length < b.length ∧ Below W.heap.size W W' ∧ W'.heap.size = W.heap.size + 1)) →
      K (a.put o.dst (.slice (some ⟨q, 0, none⟩) (l.length + b.length) cap')) W') : o.wp Try.prog a W K Q := by
  obtain ⟨q, cap', post', W', hr, h1, h2, h3, h4⟩ := run_appB W p l b post v o.type hB hb hm hsz n cap hn hcap
  unfold Oper.wp execOp
  simp only [ho, resolve, invoke, builtin, Sem.run_bind, Sem.run_pure, Result.andThen_ok, List.map_toArray, List.map_cons, List.map_nil, hs, hx, hr]
  exact h q cap' post' W' h1 h2 h3 h4

/-- In a plain region. -/
theorem wpList_appB (W : World) {ops : Array Oper} {rest : List Oper} {o : Oper} {a : Act} {Q : Exit → Act → World → Prop} (hgd : o.guard = none) (s x : Operand)
    (ho : o.op = .call { callee := .builtin .append, args := #[s, x], argTypes := #[40, 40] }) (p : Nat) (l b : List UInt8) (post : List Value) (n cap : Nat) (v : Value)
    (hs : a.eval s = .slice (some ⟨p, 0, none⟩) n cap) (hx : a.eval x = v) (hB : Blk W p [] l post) (hb : Bs W v b) (hm : l.length + post.length ≤ maxLen) (hsz : l.length + b.length ≤ 70368744177664) (hn : n = l.length) (hcap : cap = l.length + post.length)
    (h : ∀ q cap' post' W', Blk W' q [] (l ++ b) post' → cap' = l.length + b.length + post'.length → cap' ≤ maxLen →
      ((q = p ∧ b.length ≤ post.length ∧ post' = post.drop b.length ∧ W.grownBy W' (some p) ∧ W'.heap.size = W.heap.size) ∨ (q = W.heap.size ∧ post.length < b.length ∧ Below W.heap.size W W' ∧ W'.heap.size = W.heap.size + 1)) →
      wpList Try.prog ops Q rest (a.put o.dst (.slice (some ⟨q, 0, none⟩) (l.length + b.length) cap')) W') : wpList Try.prog ops Q (o :: rest) a W :=
  wpList_plain hgd fun _ hK => wp_appB W s x ho p l b post n cap v hs hx hB hb hm hsz hn hcap fun q cap' post' W' h1 h2 h3 h4 => hK _ _ (h q cap' post' W' h1 h2 h3 h4)

/-- In a region that draws its order. -/
theorem step_appB (W : World) {ops : Array Oper} {o : Oper} {a : Act} {K : Act → World → Prop} {Q : Exit → Act → World → Prop} {E : Prop} (hgd : o.guard = none) (s x : Operand)
    (ho : o.op = .call { callee := .builtin .append, args := #[s, x], argTypes := #[40, 40] }) (p : Nat) (l b : List UInt8) (post : List Value) (n cap : Nat) (v : Value)
    (hs : a.eval s = .slice (some ⟨p, 0, none⟩) n cap) (hx : a.eval x = v) (hB : Blk W p [] l post) (hb : Bs W v b) (hm : l.length + post.length ≤ maxLen) (hsz : l.length + b.length ≤ 70368744177664) (hn : n = l.length) (hcap : cap = l.length + post.length)
    (h : ∀ q cap' post' W', Blk W' q [] (l ++ b) post' → cap' = l.length + b.length + post'.length → cap' ≤ maxLen →
      ((q = p ∧ b.length ≤ post.length ∧ post' = post.drop b.length ∧ W.grownBy W' (some p) ∧ W'.heap.size = W.heap.size) ∨ (q = W.heap.size ∧ post.length < b.length ∧ Below W.heap.size W W' ∧ W'.heap.size = W.heap.size + 1)) →
      K (a.put o.dst (.slice (some ⟨q, 0, none⟩) (l.length + b.length) cap')) W') :
    if Region.wanted o (yielded ops a.tmps) = true then Oper.wp Try.prog o a W K Q else E := by
  have hw : Region.wanted o (yielded ops a.tmps) = true := by simp [Region.wanted, hgd]
  rw [if_pos hw]
  exact wp_appB W s x ho p l b post n cap v hs hx hB hb hm hsz hn hcap h

/-- Of an empty literal: a copy. -/
theorem wp_copy (W : World) {o : Oper} {a : Act} {K : Act → World → Prop} {Q : Exit → Act → World → Prop} (s x : Operand)
    (ho : o.op = .call { callee := .builtin .append, args := #[s, x], argTypes := #[40, 40] }) (p B : Nat) (b : List UInt8) (v : Value)
    (hs : a.eval s = .slice (some ⟨p, 0, none⟩) 0 0) (hx : a.eval x = v) (hB : Blk W p [] [] []) (hb : Bs W v b) (hsz : b.length ≤ 70368744177664) (hBp : B ≤ p) (hBW : B ≤ W.heap.size)
    (h : ∀ q cap' W', IsOwn B b (.slice (some ⟨q, 0, none⟩) b.length cap') W' → ((q = p ∧ W.heap.size = W'.heap.size) ∨ q = W.heap.size) → Below W.heap.size W W' → K (a.put o.dst (.slice (some ⟨q, 0, none⟩) b.length cap')) W') :
    o.wp Try.prog a W K Q := by
  refine wp_appB W s x ho p [] b [] 0 0 v hs hx hB hb (by simp [maxLen]) (by simpa using hsz) rfl rfl ?_
  intro q cap' post' W' h1 h2 h3 h4
  simp only [List.length_nil, Nat.zero_add, List.nil_append] at h1 h2 ⊢
  refine h q cap' W' ⟨q, cap', post', rfl, ?_, h1, by omega, h3, h2⟩ ?_ ?_
  · rcases h4 with ⟨rfl, _⟩ | ⟨rfl, _⟩
    · exact hBp
    · exact hBW
  · rcases h4 with ⟨rfl, _, _, _, h5⟩ | ⟨rfl, _⟩
    · exact .inl ⟨rfl, h5.symm⟩
    · exact .inr rfl
  · rcases h4 with ⟨rfl, h5, rfl, h6, h7⟩ | ⟨rfl, _, h6, _⟩
    · have hb0 : b = [] := List.eq_nil_of_length_eq_zero (by simpa using h5)
      subst hb0
      refine ⟨h6.os, h6.tape, h6.output, h6.size, fun k hk => ?_⟩
      by_cases hkq : k = q
      · subst hkq
        unfold Blk at h1 hB
        rw [h1, hB]
        simp
      · exact h6.block k hk (fun e => hkq (Option.some.inj e))
    · exact h6

theorem step_copy (W : World) {ops : Array Oper} {o : Oper} {a : Act} {K : Act → World → Prop} {Q : Exit → Act → World → Prop} {E : Prop} (hgd : o.guard = none) (s x : Operand)
    (ho : o.op = .call { callee := .builtin .append, args := #[s, x], argTypes := #[40, 40] }) (p B : Nat) (b : List UInt8) (v : Value)
    (hs : a.eval s = .slice (some ⟨p, 0, none⟩) 0 0) (hx : a.eval x = v) (hB : Blk W p [] [] []) (hb : Bs W v b) (hsz : b.length ≤ 70368744177664) (hBp : B ≤ p) (hBW : B ≤ W.heap.size)
    (h : ∀ q cap' W', IsOwn B b (.slice (some ⟨q, 0, none⟩) b.length cap') W' → ((q = p ∧ W.heap.size = W'.heap.size) ∨ q = W.heap.size) → Below W.heap.size W W' → K (a.put o.dst (.slice (some ⟨q, 0, none⟩) b.length cap')) W') :
    if Region.wanted o (yielded ops a.tmps) = true then Oper.wp Try.prog o a W K Q else E := by
  have hw : Region.wanted o (yielded ops a.tmps) = true := by simp [Region.wanted, hgd]
  rw [if_pos hw]
  exact wp_copy W s x ho p B b v hs hx hB hb hsz hBp hBW h

/-- In a plain region, behind the empty literal. -/
theorem wpList_copy (W : World) {ops : Array Oper} {rest : List Oper} {o : Oper} {a : Act} {Q : Exit → Act → World → Prop} (hgd : o.guard = none) (s x : Operand)
    (ho : o.op = .call { callee := .builtin .append, args := #[s, x], argTypes := #[40, 40] }) (b : List UInt8) (v : Value) (p : Nat) (hp : p = W.heap.size)
    (hs : a.eval s = .slice (some ⟨p, 0, none⟩) 0 0) (hx : a.eval x = v) (hb : Bs W v b) (hsz : b.length ≤ 70368744177664)
    (h : ∀ q cap' W', IsOwn W.heap.size b (.slice (some ⟨q, 0, none⟩) b.length cap') W' → Below W.heap.size W W' → wpList Try.prog ops Q rest (a.put o.dst (.slice (some ⟨q, 0, none⟩) b.length cap')) W') :
    wpList Try.prog ops Q (o :: rest) a (W.alloc (.cells #[] 5)) :=
  wpList_plain hgd fun _ hK => wp_copy _ s x ho p W.heap.size b v hs hx (by rw [hp]; exact Blk.lit W _ [] _ rfl rfl) (hb.below (below_alloc _ _)) hsz (by omega) (by simp) fun q cap' W' h1 _ h2 => hK _ _ (h q cap' W' h1 ((below_alloc _ _).trans (h2.mono (by simp))))

end Go.Proofs.Ytbnedpjfgadkkaa
