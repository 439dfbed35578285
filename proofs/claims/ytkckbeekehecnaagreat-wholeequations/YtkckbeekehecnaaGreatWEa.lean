/-
  WholeEquations: what is put upon each other holds; numbers that rise are few.
-/
import Derived.Test.YtkckbeekehecnaaGreatZKB
import Derived.Test.YtkckbeekehecnaaGreatEBlks
namespace Go.Proofs.YtkckbeekehecnaaGreat
open Go.RowKit
set_option linter.unusedVariables false
set_option maxRecDepth 100000

/-- An equation that is made of blocks, of any length. -/
def MadeW (n : Nat) (xs : List (List UInt8)) (e : Qe) : Prop := OkOf n xs e.of ∧ e.va = chkD n xs e.of
theorem mw_len {n : Nat} {xs : List (List UInt8)} {e : Qe} (h : MadeW n xs e) : e.va.length = n := by rw [h.2]; exact chkD_length h.1
theorem mw_fit {n : Nat} {xs : List (List UInt8)} {es : List Qe} (h : ∀ e ∈ es, MadeW n xs e) : addB n es = true := by
  unfold addB
  refine fitB_of fun x hx => ?_
  obtain ⟨e, he, rfl⟩ := List.mem_map.1 hx
  exact mw_len (h e he)
theorem mw_ok {n : Nat} {xs : List (List UInt8)} {es : List Qe} (h : ∀ e ∈ es, MadeW n xs e) : OkOf n xs (ofsQ es) := by
  intro i hi
  obtain ⟨l, hl, hi⟩ := List.mem_flatten.1 hi
  obtain ⟨e, he, rfl⟩ := List.mem_map.1 hl
  exact (h e he).1 i hi
theorem mw_sum {n : Nat} {xs : List (List UInt8)} : ∀ {es : List Qe}, (∀ e ∈ es, MadeW n xs e) → xorAll (zeros n) (vasQ es) = chkD n xs (ofsQ es)
  | [], _ => rfl
  | e :: es, h => by
    have h1 := mw_sum (es := es) (fun x hx => h x (List.mem_cons_of_mem _ hx))
    obtain ⟨h2, h3⟩ := h e (List.mem_cons_self ..)
    have h4 : ofsQ (e :: es) = e.of ++ ofsQ es := by simp [ofsQ]
    rw [h4, chkD_append h2, ← h1, ← h3]
    have h5 : e.va.length = n := by rw [h3]; exact chkD_length h2
    show xorAll (xorL (zeros n) e.va) (vasQ es) = _
    have h6 : xorL (zeros n) e.va = e.va := by rw [← h5]; exact xorL_zeros _
    rw [h6]
    exact xorAll_fromQ h5 _
theorem mw_holds {n : Nat} {xs : List (List UInt8)} {e : Qe} (h : MadeW n xs e) : HoldsP e.of e.va xs := by
  rw [holds_iff, mw_len h]
  exact ⟨h.1, h.2⟩
theorem mw_all {n : Nat} {xs : List (List UInt8)} {es : List Qe} (h : ∀ e ∈ es, MadeW n xs e) : HoldsP (addL n es) (addX n es) xs := by
  have h0 := mw_fit h
  have h1 : (addX n es).length = n := addX_length h0
  rw [holds_iff, h1]
  unfold addL addX
  rw [h0]
  refine ⟨odd_ok (mw_ok h), ?_⟩
  show xorAll (zeros n) (vasQ es) = chkD n xs (oddD (ofsQ es))
  rw [mw_sum h]
  unfold chkD
  rw [xor_odd (zeros_length n) (mw_ok h)]
theorem xorAll_again {z : List UInt8} {L : List (List UInt8)} (h : ∀ x ∈ L, x.length = z.length) : zeroB (xorAll (xorAll z L) L) = zeroB z := by
  induction L generalizing z with
  | nil => rfl
  | cons x L ih =>
    have hx : x.length = z.length := h x List.mem_cons_self
    have e1 : xorAll z (x :: L) = xorL (xorAll z L) x := by
      rw [← xorAll_perm z (List.perm_append_singleton x L), xorAll_append]
      rfl
    have hL : (xorAll z L).length = z.length := xorAll_length fun y hy => h y (List.mem_cons_of_mem _ hy)
    have e2 : xorAll (xorL (xorAll z L) x) (x :: L) = xorAll (xorL (xorL (xorAll z L) x) x) L := rfl
    rw [e1, e2, xorL_twice (by rw [hx, hL])]
    exact ih fun y hy => h y (List.mem_cons_of_mem _ hy)
/-- A block by its number, of a size in any case. -/
def atW (n : Nat) (D : List (List UInt8)) (z : Int) : List UInt8 := if (D.getD z.toNat []).length = n then D.getD z.toNat [] else zeros n
theorem atW_length (n : Nat) (D : List (List UInt8)) (z : Int) : (atW n D z).length = n := by
  unfold atW
  split
  · assumption
  · exact zeros_length n
theorem atW_pk {n : Nat} {D : List (List UInt8)} {of : List Int} (h : OkOf n D of) : of.map (atW n D) = pkD D of := by
  unfold pkD
  refine List.map_congr_left fun z hz => ?_
  obtain ⟨k, x, rfl, hx, hl⟩ := h z hz
  have e : D.getD (k : Int).toNat [] = x := by rw [List.getD_eq_getElem?_getD]; simp [hx]
  unfold atW
  rw [e, if_pos hl]
theorem mw_agree {n : Nat} {all : Int} {D : List (List UInt8)} {es : List Qe} (h : ∀ e ∈ es, MadeW n D e) : AgQ n ((fitQ all es).map pairQ) := by
  refine ⟨atW n D, atW_length n D, fun p hp _ => ?_⟩
  obtain ⟨e, he, rfl⟩ := List.mem_map.1 hp
  obtain ⟨h1, -⟩ := fitQ_mem.1 he
  obtain ⟨h2, h3⟩ := h e h1
  show zeroB (xorAll e.va (e.of.map (atW n D))) = true
  rw [atW_pk h2, h3]
  unfold chkD
  rw [xorAll_again (fun x hx => by rw [pkD_fit h2 x hx, zeros_length])]
  exact zeroB_zeros n
theorem outer_made {N B A j : Nat} {rows : List (List Int)} {l : List UInt8} {r : List Int} (hr : RwOk N A rows) (hj : rows[j]? = some r) : OkOf B (compD N B rows l) (r ++ [(N : Int) + (j : Int)]) ∧ zeros B = chkD B (compD N B rows l) (r ++ [(N : Int) + (j : Int)]) := by
  have hin := (hr.2 j r hj).2
  have hs : OkOf B (splitD N B l) r := split_ok hin
  have ht := compD_at (B := B) (N := N) (l := l) hj
  have e1 : (N : Int) + (j : Int) = ((N + j : Nat) : Int) := by omega
  have e2 : chkD B (compD N B rows l) r = chkD B (splitD N B l) r := by
    unfold chkD
    congr 1
    unfold pkD
    refine List.map_congr_left fun z hz => ?_
    have h0 := hin z hz
    unfold compD
    rw [List.getD_eq_getElem?_getD, List.getD_eq_getElem?_getD, List.getElem?_append_left (by rw [splitD_length]; omega)]
  constructor
  · intro i hi
    rcases List.mem_append.1 hi with h | h
    · obtain ⟨k, x, rfl, hx, hl⟩ := hs i h
      refine ⟨k, x, rfl, ?_, hl⟩
      unfold compD
      rw [List.getElem?_append_left (List.getElem?_eq_some_iff.1 hx).1]
      exact hx
    · rw [List.mem_singleton.1 h, e1]
      exact ⟨N + j, _, rfl, ht, chkD_length hs⟩
  · rw [e1, chkD_snoc, e2, List.getD_eq_getElem?_getD, ht]
    show zeros B = xorL (chkD B (splitD N B l) r) (chkD B (splitD N B l) r)
    rw [xorL_self, chkD_length hs]
theorem rise_few (b : Int) : ∀ (r : List Int) (a : Int), r.Pairwise (· < ·) → (∀ x ∈ r, a ≤ x ∧ x < b) → a ≤ b → (r.length : Int) ≤ b - a
  | [], a, _, _, h => by simp; omega
  | x :: r, a, hp, hx, h => by
    obtain ⟨h1, h2⟩ := List.pairwise_cons.1 hp
    have h3 := hx x List.mem_cons_self
    have h4 := rise_few b r (x + 1) h2 (fun y hy => ⟨by have := h1 y hy; omega, (hx y (List.mem_cons_of_mem _ hy)).2⟩) (by omega)
    rw [List.length_cons]
    omega
theorem reach_few {all : Nat} {ls : List (List Int)} {r : List Int} (hp : r.Pairwise (· < ·)) (h : ∀ x, x ∈ r ↔ Fol (fitF (all : Int) ls) x) : r.length ≤ all := by
  have h1 := rise_few (all : Int) r 0 hp (fun x hx => by
    obtain ⟨l, hl, hxl⟩ := ((h x).1 hx).ex
    exact ((fitF_mem.1 hl).2.2 x hxl)) (by omega)
  omega

theorem may_30 {N B Q E F : Int} {n q A : Nat} (h : PrOk N B Q E F n q A) (hN : N ≤ 30) : A ≤ 200 := by
  obtain ⟨h1, h2, h3, h4, h5, h6⟩ := h.may
  have r := share_range (N := N) (Q := Q) (E := E) ⟨h1.1, h1.2⟩ h3 h4
  have k1 : 55 * Q * E * N ≤ 440000 * 30 := Int.mul_le_mul r.1.2 hN (by omega) (by omega)
  have e := h.ea
  unfold aux at e
  omega

/-- What is in a drawn region's slots. -/
def IsOzW (k : Nat) (L : List Int) : Value → World → Prop := fun v W => ∃ a c, v = .slice a k c ∧ OwnZ 0 W v k L
theorem stays_ozw (k : Nat) (L : List Int) : Stays (IsOzW k L) := fun _ _ _ hb ⟨a, c, h1, h2⟩ => ⟨a, c, h1, h2.below hb⟩
def IsZbW (n : Nat) : Value → World → Prop := fun v W => ∃ q, v = .slice (some ⟨q, 0, none⟩) n n ∧ Blk W q [] (zeros n) []
theorem stays_zbw (n : Nat) : Stays (IsZbW n) := fun _ _ _ hb ⟨q, h1, h2⟩ => ⟨q, h1, h2.below hb⟩
def IsSrE (L : List Int) (X : List UInt8) : Value → World → Prop := fun v W => ∃ e : Qe, e.of = L ∧ e.va = X ∧ Sl 2 W v 1 ([e].flatMap Qe.cells) ∧ QeN W e
theorem stays_sre (L : List Int) (X : List UInt8) : Stays (IsSrE L X) := fun _ _ _ hb ⟨e, h1, h2, h3, h4⟩ => ⟨e, h1, h2, h3.below hb, h4.below hb⟩
def IsE3 (B n : Nat) (es : List Qe) (L : List Int) (X : List UInt8) : Value → World → Prop := fun v W => ∃ a c, ∃ e : Qe, v = .slice a (n + 1) c ∧ e.of = L ∧ e.va = X ∧ OwnE B W v (n + 1) (es ++ [e]) ∧ ∀ q ∈ es ++ [e], QeN W q
theorem stays_e3 (B n : Nat) (es : List Qe) (L : List Int) (X : List UInt8) : Stays (IsE3 B n es L X) := fun _ _ _ hb ⟨a, c, e, h1, h2, h3, h4, h5⟩ => ⟨a, c, e, h1, h2, h3, OwnE.below h4 hb, fun q hq => (h5 q hq).below hb⟩
theorem qen_made {W : World} {n k : Nat} {u v : Value} {L : List Int} (hu : IsOzW k L u W) (hv : IsZbW n v W) (hn : n ≤ 1000) : QeN W ⟨u, v, L, zeros n⟩ := by
  obtain ⟨a, c, rfl, ho⟩ := hu
  obtain ⟨q, rfl, hb⟩ := hv
  refine ⟨⟨ho.zs, hb.bs0 n n (zeros_length n).symm (Nat.le_refl _) (by unfold maxLen; omega)⟩, ?_, ?_⟩
  · intro g hg
    obtain ⟨cur, h1⟩ := owns_type' ho g hg
    exact ⟨cur, _, _, h1, by decide⟩
  · intro g hg
    have e1 : q = g := Option.some.inj hg
    subst e1
    exact ⟨_, _, _, hb, by decide⟩
theorem step_addW (w : World) {ops : Array Oper} {o : Oper} {a : Act} {K : Act → World → Prop} {Q : Exit → Act → World → Prop} {E : Prop} (hgd : o.guard = none) (s x : Operand)
    (ho : o.op = .call { callee := .builtin .append, args := #[s, x], argTypes := #[45, 45] })
    (B : Nat) (v : Value) (n : Nat) (l : List Qe) (hs : a.eval s = v) (hown : OwnE B w v n l)
    (xv : Value) (m : Nat) (news : List Qe) (hx : a.eval x = xv) (hsrc : Sl 2 w xv m (news.flatMap Qe.cells)) (hone : ∀ u ∈ news.flatMap Qe.cells, u.oneCell' = true)
    (hlen : n + m ≤ 1000000000) (hbase : B ≤ w.heap.size)
    (h : ∀ ao cap w', OwnE B w' (.slice ao (n + m) cap) (n + m) (l ++ news) → w.grownBy w' v.ownBlock → K (a.put o.dst (.slice ao (n + m) cap)) w') :
    if Region.wanted o (yielded ops a.tmps) = true then Oper.wp Tryz.prog o a w K Q else E := by
  obtain ⟨i, hi, hz, h1, h8⟩ := infoE_parts
  refine step_app w hgd s x 45 ho B 31 i (.agg #[.slice none 0 0, .slice none 0 0]) 2 48 Tryz.underlying45 hi hz h1 h8 rfl (by decide) v n _ hs hown xv m _ hx hsrc hone (by unfold maxLen; omega) (by omega) hbase ?_
  intro ao cap w' h2 h3 h4 h5 h6 h7
  refine h ao cap w' ?_ h3
  unfold OwnE
  rw [List.flatMap_append]
  exact h2

end Go.Proofs.YtkckbeekehecnaaGreat
