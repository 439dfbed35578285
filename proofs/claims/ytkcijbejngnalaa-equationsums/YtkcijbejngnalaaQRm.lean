/-
  Add, in one form; in which order equations are put upon each other is of no matter.
-/
import Derived.Test.YtkcijbejngnalaaQQ
namespace Go.Proofs.Ytkcijbejngnalaa
open Go.RowKit
set_option linter.unusedVariables false

/-- What Add answers. -/
def addB (n : Nat) (es : List Qe) : Bool := fitB n (vasQ es)
def addL (n : Nat) (es : List Qe) : List Int := if addB n es then oddD (ofsQ es) else []
def addX (n : Nat) (es : List Qe) : List UInt8 := if addB n es then xorAll (zeros n) (vasQ es) else []

theorem fitB_perm {n : Nat} {l m : List (List UInt8)} (h : l.Perm m) : fitB n l = fitB n m := by
  rw [Bool.eq_iff_iff]
  exact ⟨fun k => fitB_of fun x hx => fitB_mem k (h.mem_iff.2 hx), fun k => fitB_of fun x hx => fitB_mem k (h.mem_iff.1 hx)⟩
theorem addB_perm {n : Nat} {es fs : List Qe} (h : es.Perm fs) : addB n es = addB n fs := fitB_perm (h.map _)
theorem addL_perm {n : Nat} {es fs : List Qe} (h : es.Perm fs) : addL n es = addL n fs := by
  unfold addL
  rw [addB_perm h, oddD_perm (show (ofsQ es).Perm (ofsQ fs) from (h.map _).flatten)]
theorem addX_perm {n : Nat} {es fs : List Qe} (h : es.Perm fs) : addX n es = addX n fs := by
  unfold addX
  rw [addB_perm h, xorAll_perm _ (show (vasQ es).Perm (vasQ fs) from h.map _)]
theorem twice_perm (x : Qe) (es : List Qe) : ([x] ++ es ++ [x]).Perm (x :: x :: es) := by
  simp only [List.cons_append]
  refine List.Perm.cons _ ?_
  exact (List.perm_append_comm (l₁ := es) (l₂ := [x])).trans (by simp)
theorem addB_two (n : Nat) (x : Qe) (es : List Qe) : addB n (x :: x :: es) = (addB n es && decide (x.va.length = n)) := by
  show fitB n (x.va :: x.va :: vasQ es) = _
  rw [fitB_cons, fitB_cons]
  unfold addB
  by_cases h : x.va.length = n
  · simp [h]
  · simp [h]
theorem addB_twice (n : Nat) (x : Qe) (es : List Qe) : addB n ([x] ++ es ++ [x]) = (addB n es && decide (x.va.length = n)) := (addB_perm (twice_perm x es)).trans (addB_two n x es)
theorem addL_twice {n : Nat} {x : Qe} {es : List Qe} (h : addB n ([x] ++ es ++ [x]) = true) : addL n ([x] ++ es ++ [x]) = addL n es := by
  have h2 := (addB_twice n x es).symm.trans h
  rw [Bool.and_eq_true] at h2
  unfold addL
  rw [h, h2.1]
  have h3 : ofsQ ([x] ++ es ++ [x]) = x.of ++ (ofsQ es ++ x.of) := by simp [ofsQ]
  rw [h3, oddD_twice]
theorem addX_twice {n : Nat} {x : Qe} {es : List Qe} (h : addB n ([x] ++ es ++ [x]) = true) : addX n ([x] ++ es ++ [x]) = addX n es := by
  have h2 := (addB_twice n x es).symm.trans h
  rw [Bool.and_eq_true, decide_eq_true_eq] at h2
  unfold addX
  rw [h, h2.1]
  have h3 : xorAll (zeros n) (vasQ ([x] ++ es ++ [x])) = xorAll (zeros n) (x.va :: x.va :: vasQ es) := xorAll_perm _ (show (vasQ ([x] ++ es ++ [x])).Perm (vasQ (x :: x :: es)) from (twice_perm x es).map _)
  rw [h3]
  show xorAll (xorL (xorL (zeros n) x.va) x.va) (vasQ es) = xorAll (zeros n) (vasQ es)
  rw [xorL_twice (by rw [zeros_length]; exact h2.2)]
theorem addX_length {n : Nat} {es : List Qe} (h : addB n es = true) : (addX n es).length = n := by
  unfold addX
  rw [h]
  show (xorAll (zeros n) (vasQ es)).length = n
  rw [xorAll_length (by rw [zeros_length]; intro y hy; exact fitB_mem h hy), zeros_length]

/-- ADD in one form. -/
theorem qadd_uni (n : Nat) (pv : Value) (es : List Qe) (w : World) (hn0 : n ≤ 16777216) (hp : Qs w pv es) (hm : (ofsQ es).length ≤ 100000000) (hn : es.length ≤ 1000000) :
    Calls Try.prog 20 #[.int .i64 (n : Int), pv] w fun e w' => ∃ ov vv, e = .returned (.tuple #[.agg #[ov, vv], .bool (addB n es)]) ∧ QeP w' ⟨ov, vv, addL n es, addX n es⟩ ∧ Below w.heap.size w w' := by
  refine (qadd_any n pv es w hp hm hn).mono ?_
  rintro e w' ⟨h, hb⟩
  rcases h with ⟨hok, a, m, c, q, rfl, ho, hk, hq⟩ | ⟨hno, rfl⟩
  · have hB : addB n es = true := by have := hok.2.2; rwa [Int.toNat_natCast] at this
    rw [Int.toNat_natCast] at hk ⊢
    refine ⟨_, _, by rw [hB], ⟨?_, ?_⟩, hb⟩
    · unfold addL
      rw [hB]
      exact ho.zs
    · have hl := addX_length hB
      unfold addX at hl ⊢
      rw [hB] at hl ⊢
      exact hk.bs0 n n hl.symm (Nat.le_refl _) (by unfold maxLen; omega)
  · have hB : addB n es = false := by
      cases h : addB n es with
      | false => rfl
      | true => exact absurd ⟨by omega, by omega, by rw [Int.toNat_natCast]; exact h⟩ hno
    refine ⟨_, _, by rw [hB], ⟨?_, ?_⟩, hb⟩
    · unfold addL
      rw [hB]
      exact (OwnZ.nil 0 w').zs
    · unfold addX
      rw [hB]
      exact ⟨rfl, none, 0, rfl, Nat.le_refl _, by simp [maxLen], fun _ => rfl, .inl rfl⟩

/-- Once i is listed, its value is a's. -/
def Rel4 (listed : Array Bool) (xv : Nat → Value) (i a : Nat) : Prop := listed.getD i false = true → xv i = xv a
theorem Rel4.start (n : Nat) (xv : Nat → Value) (i a : Nat) : Rel4 (Array.replicate n false) xv i a := by
  intro h
  exfalso
  rw [Array.getD_eq_getD_getElem?, Array.getElem?_replicate] at h
  split at h <;> simp at h
theorem Rel4.new {listed : Array Bool} {xv : Nat → Value} {i a : Nat} (h : i ≠ a) : Rel4 (listed.setIfInBounds i true) (updV xv i (xv a)) i a := by
  intro _
  unfold updV
  rw [if_pos rfl, if_neg (fun e => h e.symm)]
theorem Rel4.yet {listed : Array Bool} {xv : Nat → Value} {i a o : Nat} {v : Value} (h : listed.getD i false = false) (hi : i ≠ o) : Rel4 (listed.setIfInBounds o true) (updV xv o v) i a := by
  intro k
  rw [getD_set_other hi, h] at k
  cases k
theorem Rel4.step {listed : Array Bool} {xv : Nat → Value} {i a o : Nat} {v : Value} (h : Rel4 listed xv i a) (hi : i ≠ o) (ha : a ≠ o) : Rel4 (listed.setIfInBounds o true) (updV xv o v) i a := by
  intro k
  rw [getD_set_other hi] at k
  unfold updV
  rw [if_neg hi, if_neg ha]
  exact h k

/-- A value's block, if it has one, is no equation's. -/
def NotE (W : World) (v : Value) : Prop := ∀ q, v.ownBlock = some q → ∃ cs t fz, W.heap[q]? = some (.cells cs t fz) ∧ t ≠ 41
theorem NotE.below {W W' : World} {v : Value} (h : NotE W v) (hb : Below W.heap.size W W') : NotE W' v := by
  intro q hq
  obtain ⟨cs, t, fz, h1, h2⟩ := h q hq
  exact ⟨cs, t, fz, (hb.block q (Array.getElem?_eq_some_iff.1 h1).1).trans h1, h2⟩
theorem NotE.ne {W : World} {v : Value} (h : NotE W v) {b : Nat} {ov vv : Value} (hE : EqX W b ov vv) : v.ownBlock ≠ some b := by
  intro e
  obtain ⟨cs, t, fz, h1, h2⟩ := h b e
  rw [show W.heap[b]? = _ from hE] at h1
  injection h1 with h1
  injection h1 with _ h3 _
  exact h2 h3.symm
theorem NotE.set {W : World} {v : Value} (h : NotE W v) {b : Nat} {ov vv : Value} (hE : EqX W b ov vv) (j : Nat) (u : Value) : NotE (W.setCell ⟨b, j, none⟩ u) v := by
  intro q hq
  obtain ⟨cs, t, fz, h1, h2⟩ := h q hq
  refine ⟨cs, t, fz, ?_, h2⟩
  rw [Below.heap_setCell _ _ _ _ (fun e => h.ne hE (by rw [hq, e]))]
  exact h1
theorem sl_set {size n : Nat} {W : World} {v : Value} {cs : List Value} (h : Sl size W v n cs) {b : Nat} (hv : v.ownBlock ≠ some b) (j : Nat) (u : Value) : Sl size (W.setCell ⟨b, j, none⟩ u) v n cs := by
  obtain ⟨h1, ao, cap, rfl, h2, h3, h4, h5⟩ := h
  refine ⟨h1, ao, cap, rfl, h2, h3, h4, ?_⟩
  rcases h5 with h5 | ⟨b', off, rfl, hc⟩
  · exact .inl h5
  · refine .inr ⟨b', off, rfl, fun k x hx => ?_⟩
    rw [World.cell?_of_block (w := W) (Below.heap_setCell _ _ _ _ (fun e => hv (by show some b' = some b; rw [show b' = b from e])))]
    exact hc k x hx

/-- An equation that is read, in no equation's block. -/
def QeN (W : World) (e : Qe) : Prop := QeP W e ∧ NotE W e.ov ∧ NotE W e.vv
theorem QeN.below {W W' : World} {e : Qe} (h : QeN W e) (hb : Below W.heap.size W W') : QeN W' e := ⟨h.1.below hb, h.2.1.below hb, h.2.2.below hb⟩
theorem QeN.set {W : World} {e : Qe} (h : QeN W e) {b : Nat} {ov vv : Value} (hE : EqX W b ov vv) (j : Nat) (u : Value) : QeN (W.setCell ⟨b, j, none⟩ u) e :=
  ⟨⟨sl_set h.1.1 (h.2.1.ne hE) j u, sl_set h.1.2 (h.2.2.ne hE) j u⟩, h.2.1.set hE j u, h.2.2.set hE j u⟩

/-- ADD, in one form, and where its answer lies. -/
theorem qadd_typ (n : Nat) (pv : Value) (es : List Qe) (w : World) (hn0 : n ≤ 16777216) (hp : Qs w pv es) (hm : (ofsQ es).length ≤ 100000000) (hn : es.length ≤ 1000000) :
    Calls Try.prog 20 #[.int .i64 (n : Int), pv] w fun e w' => ∃ ov vv, e = .returned (.tuple #[.agg #[ov, vv], .bool (addB n es)]) ∧ QeN w' ⟨ov, vv, addL n es, addX n es⟩ ∧ Below w.heap.size w w' := by
  refine (qadd_any n pv es w hp hm hn).mono ?_
  rintro e w' ⟨h, hb⟩
  rcases h with ⟨hok, a, m, c, q, rfl, ho, hk, hq⟩ | ⟨hno, rfl⟩
  · have hB : addB n es = true := by have := hok.2.2; rwa [Int.toNat_natCast] at this
    rw [Int.toNat_natCast] at hk ⊢
    refine ⟨_, _, by rw [hB], ⟨⟨?_, ?_⟩, ?_, ?_⟩, hb⟩
    · unfold addL
      rw [hB]
      exact ho.zs
    · have hl := addX_length hB
      unfold addX at hl ⊢
      rw [hB] at hl ⊢
      exact hk.bs0 n n hl.symm (Nat.le_refl _) (by unfold maxLen; omega)
    · intro g hg
      obtain ⟨cur, h1⟩ := owns_type' ho g hg
      exact ⟨cur, _, _, h1, by decide⟩
    · intro g hg
      have e1 : q = g := Option.some.inj hg
      subst e1
      exact ⟨_, _, _, hk, by decide⟩
  · have hB : addB n es = false := by
      cases h : addB n es with
      | false => rfl
      | true => exact absurd ⟨by omega, by omega, by rw [Int.toNat_natCast]; exact h⟩ hno
    refine ⟨_, _, by rw [hB], ⟨⟨?_, ?_⟩, ?_, ?_⟩, hb⟩
    · unfold addL
      rw [hB]
      exact (OwnZ.nil 0 w').zs
    · unfold addX
      rw [hB]
      exact ⟨rfl, none, 0, rfl, Nat.le_refl _, by simp [maxLen], fun _ => rfl, .inl rfl⟩
    · intro g hg; cases hg
    · intro g hg; cases hg

/-- 'append' onto a row of one's own that isn't empty: what a box holds stays. -/
theorem run_keepE (w : World) (ty : TypeId) (B : Nat) (v : Value) (l : List Qe) (n : Nat) (hn : 0 < n) (hown : OwnE B w v n l) (xv : Value) (news : List Qe) (hsrc : Qs w xv news) (hlen : n + news.length ≤ 1000000000) (hbase : B ≤ w.heap.size) :
    ∃ ao cap w', (Builtin.append_ #[37, 37] ty #[v, xv]).run Try.prog w = .ok (.slice ao (n + news.length) cap) w' ∧ OwnE B w' (.slice ao (n + news.length) cap) (n + news.length) (l ++ news) ∧ w.grownBy w' v.ownBlock ∧ ∀ b ov vv, EqX w b ov vv → EqX w' b ov vv := by
  by_cases hfull : ∃ g, v = .slice (some ⟨g, 0, none⟩) n n
  · obtain ⟨ao, cap, w', hr, h2, h3⟩ := run_fullE w ty B v l n hown hfull xv news hsrc hlen hbase
    exact ⟨ao, cap, w', hr, h2, ⟨h3.os, h3.tape, h3.output, h3.size, fun k hk _ => h3.block k hk⟩, fun b ov vv h => h.below h3⟩
  · obtain ⟨i, hi, hz, h1, h8⟩ := infoE_parts
    obtain ⟨ao, cap, w', hr, h2, h3, -⟩ := run_app (P := Try.prog) w B 37 ty 41 i (.agg #[.slice none 0 0, .slice none 0 0]) 2 48 Try.underlying37 hi hz h1 h8 rfl (by decide) v n _ hown xv news.length _ hsrc.1 (e_oneCell hsrc.2) (by unfold maxLen; omega) (by omega) hbase
    refine ⟨ao, cap, w', hr, ?_, h3, fun b ov vv h => h.kept (h3.block b h.lt (fun e => ?_))⟩
    · unfold OwnE
      rw [List.flatMap_append]
      exact h2
    · rcases hown.2 with ⟨-, h0⟩ | ⟨g, c, cur, rfl, hg, hh, hnc, hcm, hcs, ht⟩
      · omega
      · have e1 : b = g := Option.some.inj e
        subst e1
        rw [show w.heap[b]? = _ from h] at hh
        injection hh with hh
        injection hh with hh _ _
        rw [← hh] at hcs
        simp at hcs
        have hc1 : c = n := by omega
        subst hc1
        exact hfull ⟨_, rfl⟩
theorem step_keepE (w : World) {ops : Array Oper} {o : Oper} {a : Act} {K : Act → World → Prop} {Q : Exit → Act → World → Prop} {E : Prop} (hgd : o.guard = none) (s x : Operand)
    (ho : o.op = .call { callee := .builtin .append, args := #[s, x], argTypes := #[37, 37] })
    (B : Nat) (v : Value) (n : Nat) (hn : 0 < n) (l : List Qe) (hs : a.eval s = v) (hown : OwnE B w v n l)
    (xv : Value) (news : List Qe) (hx : a.eval x = xv) (hsrc : Qs w xv news)
    (hlen : n + news.length ≤ 1000000000) (hbase : B ≤ w.heap.size)
    (h : ∀ ao cap w', OwnE B w' (.slice ao (n + news.length) cap) (n + news.length) (l ++ news) → w.grownBy w' v.ownBlock → (∀ b ov vv, EqX w b ov vv → EqX w' b ov vv) → K (a.put o.dst (.slice ao (n + news.length) cap)) w') :
    if Region.wanted o (yielded ops a.tmps) = true then Oper.wp Try.prog o a w K Q else E := by
  have hw : Region.wanted o (yielded ops a.tmps) = true := by simp [Region.wanted, hgd]
  rw [if_pos hw]
  obtain ⟨ao, cap, w', hr, h2, h3, h4⟩ := run_keepE w o.type B v l n hn hown xv news hsrc hlen hbase
  unfold Oper.wp execOp
  simp only [ho, resolve, invoke, builtin, Sem.run_bind, Sem.run_pure, Result.andThen_ok, List.map_toArray, List.map_cons, List.map_nil, hs, hx, hr]
  exact h ao cap w' h2 h3 h4

/-- What is in a drawn region's slots. -/
def IsX1 (B : Nat) (x : Qe) : Value → World → Prop := fun v W => OwnE B W v 1 [x] ∧ ∃ g, v = .slice (some ⟨g, 0, none⟩) 1 1
theorem stays_x1 (B : Nat) (x : Qe) : Stays (IsX1 B x) := fun _ _ _ hb h => ⟨h.1.below hb, h.2⟩
def IsOwE (B n : Nat) (l : List Qe) : Value → World → Prop := fun v W => OwnE B W v n l
theorem stays_owe (B n : Nat) (l : List Qe) : Stays (IsOwE B n l) := fun _ _ _ hb h => OwnE.below h hb
def IsAdd (r : Bool) (L : List Int) (X : List UInt8) : Value → World → Prop := fun v W => ∃ ov vv, v = .tuple #[.agg #[ov, vv], .bool r] ∧ QeN W ⟨ov, vv, L, X⟩
theorem stays_add (r : Bool) (L : List Int) (X : List UInt8) : Stays (IsAdd r L X) := fun _ _ _ hb ⟨a, b, h1, h2⟩ => ⟨a, b, h1, h2.below hb⟩
def IsEqN (L : List Int) (X : List UInt8) : Value → World → Prop := fun v W => ∃ ov vv, v = .agg #[ov, vv] ∧ QeN W ⟨ov, vv, L, X⟩
theorem stays_eqn (L : List Int) (X : List UInt8) : Stays (IsEqN L X) := fun _ _ _ hb ⟨a, b, h1, h2⟩ => ⟨a, b, h1, h2.below hb⟩
def IsBx0 (B : Nat) : Value → World → Prop := fun v W => ∃ q, v = .pointer (some ⟨q, 0, none⟩) ∧ B ≤ q ∧ EqX W q (.slice none 0 0) (.slice none 0 0)
theorem stays_bx0 (B : Nat) : Stays (IsBx0 B) := fun _ _ _ hb ⟨q, h1, h2, h3⟩ => ⟨q, h1, h2, h3.below hb⟩
def IsBxE (L : List Int) (X : List UInt8) : Value → World → Prop := fun v W => ∃ q ov vv, v = .pointer (some ⟨q, 0, none⟩) ∧ EqX W q ov vv ∧ QeP W ⟨ov, vv, L, X⟩
theorem bx0_keep {B : Nat} {v : Value} {W W' : World} (h : IsBx0 B v W) (hk : ∀ b ov vv, EqX W b ov vv → EqX W' b ov vv) : IsBx0 B v W' := by
  obtain ⟨q, h1, h2, h3⟩ := h
  exact ⟨q, h1, h2, hk _ _ _ h3⟩
theorem add_set {r : Bool} {L : List Int} {X : List UInt8} {v : Value} {W : World} (h : IsAdd r L X v W) {b : Nat} {ov vv : Value} (hE : EqX W b ov vv) (u u' : Value) : IsAdd r L X v ((W.setCell ⟨b, 0, none⟩ u).setCell ⟨b, 1, none⟩ u') := by
  obtain ⟨x, y, h1, h2⟩ := h
  exact ⟨x, y, h1, (h2.set hE 0 u).set (hE.set0 u) 1 u'⟩
theorem eqn_set {L : List Int} {X : List UInt8} {v : Value} {W : World} (h : IsEqN L X v W) {b : Nat} {ov vv : Value} (hE : EqX W b ov vv) (u u' : Value) : IsEqN L X v ((W.setCell ⟨b, 0, none⟩ u).setCell ⟨b, 1, none⟩ u') := by
  obtain ⟨x, y, h1, h2⟩ := h
  exact ⟨x, y, h1, (h2.set hE 0 u).set (hE.set0 u) 1 u'⟩
theorem stays_bxe (L : List Int) (X : List UInt8) : Stays (IsBxE L X) := fun _ _ _ hb ⟨q, a, b, h1, h2, h3⟩ => ⟨q, a, b, h1, h2.below hb, h3.below hb⟩

end Go.Proofs.Ytkcijbejngnalaa
