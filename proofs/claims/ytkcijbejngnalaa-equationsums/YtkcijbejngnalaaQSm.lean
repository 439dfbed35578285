/-
  Equations that hold of blocks, put upon each other, hold of them, too.
-/
import Derived.Test.YtkcijbejngnalaaQRm
namespace Go.Proofs.Ytkcijbejngnalaa
open Go.RowKit
set_option linter.unusedVariables false

theorem xorAll_xorLQ (a b : List UInt8) (ls : List (List UInt8)) : xorAll (xorL a b) ls = xorL a (xorAll b ls) := by
  induction ls generalizing b with
  | nil => rfl
  | cons x ls ih =>
    show xorAll (xorL (xorL a b) x) ls = xorL a (xorAll (xorL b x) ls)
    rw [xorL_assoc]
    exact ih _
theorem xorAll_fromQ {n : Nat} {a : List UInt8} (h : a.length = n) (ls : List (List UInt8)) : xorAll a ls = xorL a (xorAll (zeros n) ls) := by
  rw [← xorAll_xorLQ, xorL_zeros_right h]
/-- A check block, and all that it is made of: nothing. -/
theorem sum_chk {n : Nat} {D : List (List UInt8)} {of : List Int} {x : List UInt8} (hok : OkOf n D of) (hx : chkD n D of = x) : fitB n (x :: pkD D of) = true ∧ xorAll (zeros n) (x :: pkD D of) = zeros n := by
  have hl : x.length = n := by rw [← hx]; exact chkD_length hok
  refine ⟨fitB_of (by intro y hy; rcases List.mem_cons.1 hy with rfl | hy; exact hl; exact pkD_fit hok y hy), ?_⟩
  rw [xorAll_first hl, xorAll_fromQ hl]
  have : xorAll (zeros n) (pkD D of) = x := hx
  rw [this, xorL_self, hl]
theorem pkD_next {D : List (List UInt8)} {of : List Int} {j m : Nat} {y : List UInt8} (hj : j < of.length) (hm : of[j] = (m : Int)) (hy : D[m]? = some y) : pkD D (of.take (j + 1)) = pkD D (of.take j) ++ [y] := by
  unfold pkD
  rw [List.take_succ_eq_append_getElem hj, List.map_append]
  simp [hm, List.getD, hy]

theorem chkD_append {n : Nat} {xs : List (List UInt8)} {a b : List Int} (ha : OkOf n xs a) : chkD n xs (a ++ b) = xorL (chkD n xs a) (chkD n xs b) := by
  unfold chkD
  have h1 : pkD xs (a ++ b) = pkD xs a ++ pkD xs b := by simp [pkD]
  rw [h1, xorAll_append]
  exact xorAll_fromQ (chkD_length ha) _
/-- An equation that is made of blocks. -/
def MadeOf (n : Nat) (xs : List (List UInt8)) (e : Qe) : Prop := OkOf n xs e.of ∧ e.va = chkD n xs e.of ∧ e.of.length ≤ 20
theorem made_fit {n : Nat} {xs : List (List UInt8)} {es : List Qe} (h : ∀ e ∈ es, MadeOf n xs e) : addB n es = true := by
  unfold addB
  refine fitB_of fun x hx => ?_
  obtain ⟨e, he, rfl⟩ := List.mem_map.1 hx
  rw [(h e he).2.1]
  exact chkD_length (h e he).1
theorem made_ok {n : Nat} {xs : List (List UInt8)} {es : List Qe} (h : ∀ e ∈ es, MadeOf n xs e) : OkOf n xs (ofsQ es) := by
  intro i hi
  obtain ⟨l, hl, hi⟩ := List.mem_flatten.1 hi
  obtain ⟨e, he, rfl⟩ := List.mem_map.1 hl
  exact (h e he).1 i hi
theorem made_sum {n : Nat} {xs : List (List UInt8)} : ∀ {es : List Qe}, (∀ e ∈ es, MadeOf n xs e) → xorAll (zeros n) (vasQ es) = chkD n xs (ofsQ es)
  | [], _ => rfl
  | e :: es, h => by
    have h1 := made_sum (es := es) (fun x hx => h x (List.mem_cons_of_mem _ hx))
    obtain ⟨h2, h3, -⟩ := h e (List.mem_cons_self ..)
    have h4 : ofsQ (e :: es) = e.of ++ ofsQ es := by simp [ofsQ]
    rw [h4, chkD_append h2, ← h1, ← h3]
    have h5 : e.va.length = n := by rw [h3]; exact chkD_length h2
    show xorAll (xorL (zeros n) e.va) (vasQ es) = _
    have h6 : xorL (zeros n) e.va = e.va := by rw [← h5]; exact xorL_zeros _
    rw [h6]
    exact xorAll_fromQ h5 _
theorem made_len {n : Nat} {xs : List (List UInt8)} : ∀ {es : List Qe}, (∀ e ∈ es, MadeOf n xs e) → (ofsQ es).length ≤ es.length * 20
  | [], _ => by simp [ofsQ]
  | e :: es, h => by
    have h1 := made_len (es := es) (fun x hx => h x (List.mem_cons_of_mem _ hx))
    obtain ⟨-, -, h3⟩ := h e (List.mem_cons_self ..)
    have h4 : ofsQ (e :: es) = e.of ++ ofsQ es := by simp [ofsQ]
    rw [h4, List.length_append, List.length_cons]
    omega
theorem made_holds {n : Nat} {xs : List (List UInt8)} {e : Qe} (h : MadeOf n xs e) : HoldsP e.of e.va xs := by
  have h1 : e.va.length = n := by rw [h.2.1]; exact chkD_length h.1
  rw [holds_iff, h1]
  exact ⟨h.1, h.2.1⟩
theorem odd_ok {n : Nat} {xs : List (List UInt8)} {of : List Int} (h : OkOf n xs of) : OkOf n xs (oddD of) := fun i hi => h i (mem_oddD hi)
theorem made_all {n : Nat} {xs : List (List UInt8)} {es : List Qe} (h : ∀ e ∈ es, MadeOf n xs e) : HoldsP (addL n es) (addX n es) xs := by
  have h0 := made_fit h
  have h1 : (addX n es).length = n := addX_length h0
  rw [holds_iff, h1]
  unfold addL addX
  rw [h0]
  refine ⟨odd_ok (made_ok h), ?_⟩
  show xorAll (zeros n) (vasQ es) = chkD n xs (oddD (ofsQ es))
  rw [made_sum h]
  unfold chkD
  rw [xor_odd (zeros_length n) (made_ok h)]
theorem twiceL {n : Nat} {e : Qe} (h : e.va.length = n) : addB n [e, e] = true ∧ addL n [e, e] = [] ∧ addX n [e, e] = zeros n := by
  have h1 : addB n [e, e] = true := by
    unfold addB
    refine fitB_of fun x hx => ?_
    have : x = e.va := by simpa [vasQ] using hx
    rw [this]
    exact h
  have h2 : ofsQ [e, e] = e.of ++ e.of := by simp [ofsQ]
  refine ⟨h1, ?_, ?_⟩
  · unfold addL
    rw [h1, h2, oddD_both]
    rfl
  · unfold addX
    rw [h1]
    show xorL (xorL (zeros n) e.va) e.va = zeros n
    exact xorL_twice (by rw [zeros_length]; exact h)

/-- Those of some numbers that are numbers of blocks. -/
def inZ (M : Nat) (of : List Int) : List Int := of.filter fun x => decide (0 ≤ x) && decide (x < (M : Int))
theorem inZ_take {M : Nat} {of : List Int} {i : Nat} {z : Int} (h : of[i]? = some z) : inZ M (of.take (i + 1)) = inZ M (of.take i) ++ (if 0 ≤ z ∧ z < (M : Int) then [z] else []) := by
  obtain ⟨hi, e⟩ := List.getElem?_eq_some_iff.1 h
  unfold inZ
  rw [List.take_succ_eq_append_getElem hi, List.filter_append, e]
  by_cases hz : 0 ≤ z ∧ z < (M : Int)
  · simp [hz]
  · rw [if_neg hz]
    have : (decide (0 ≤ z) && decide (z < (M : Int))) = false := by
      rw [Bool.and_eq_false_iff]
      by_cases h0 : 0 ≤ z
      · right; simpa using fun h => hz ⟨h0, h⟩
      · left; simpa using h0
    simp [this]
theorem inZ_le (M : Nat) (of : List Int) (i : Nat) : (inZ M (of.take i)).length ≤ i := by
  unfold inZ
  have h1 := List.length_filter_le (fun x => decide (0 ≤ x) && decide (x < (M : Int))) (of.take i)
  have h2 := List.length_take_le i of
  omega
theorem inZ_mem {M : Nat} {of : List Int} {z : Int} (h : z ∈ inZ M of) : 0 ≤ z ∧ z < (M : Int) := by
  have := (List.mem_filter.1 h).2
  simpa using this
theorem inZ_ok {n M : Nat} {xs : List (List UInt8)} (hM : xs.length = M) (hn : ∀ x ∈ xs, x.length = n) (of : List Int) : OkOf n xs (inZ M of) := by
  intro z hz
  obtain ⟨h0, h1⟩ := inZ_mem hz
  obtain ⟨k, rfl⟩ := Int.eq_ofNat_of_zero_le h0
  have hk : k < xs.length := by omega
  exact ⟨k, xs[k], rfl, List.getElem?_eq_getElem hk, hn _ (List.getElem_mem hk)⟩

/-- Values that are blocks of their own. -/
def PartsB (B : Nat) (W : World) (us : List Value) (xs : List (List UInt8)) : Prop := us.length = xs.length ∧ ∀ (j : Nat) (u : Value) (x : List UInt8), us[j]? = some u → xs[j]? = some x → ∃ q, u = .slice (some ⟨q, 0, none⟩) x.length x.length ∧ Blk W q [] x [] ∧ x.length ≤ 1000 ∧ B ≤ q
theorem PartsB.kept {B : Nat} {W W' : World} {us : List Value} {xs : List (List UInt8)} (h : PartsB B W us xs) (hk : ∀ q x, Blk W q [] x [] → W'.heap[q]? = W.heap[q]?) : PartsB B W' us xs := by
  refine ⟨h.1, fun j u x hu hx => ?_⟩
  obtain ⟨q, h1, h2, h3, h4⟩ := h.2 j u x hu hx
  exact ⟨q, h1, h2.kept (hk q x h2), h3, h4⟩
theorem PartsB.below {B : Nat} {W W' : World} {us : List Value} {xs : List (List UInt8)} (h : PartsB B W us xs) (hb : Below W.heap.size W W') : PartsB B W' us xs := h.kept fun q x hB => hb.block q hB.lt
theorem PartsB.grownR {B B1 n : Nat} {w w' : World} {v : Value} {vs us : List Value} {xs : List (List UInt8)} (h : PartsB B w us xs) (ho : w.ownsRow B1 25 1 v n vs) (hg : w.grownBy w' v.ownBlock) : PartsB B w' us xs := h.kept fun q x hB => grown_kindR ho hg hB (by decide)
theorem PartsB.parts {B : Nat} {W : World} {us : List Value} {xs : List (List UInt8)} (h : PartsB B W us xs) : Parts W us xs := by
  refine ⟨h.1, fun j u x hu hx => ?_⟩
  obtain ⟨q, rfl, h2, h3, -⟩ := h.2 j u x hu hx
  exact h2.bs0 _ _ rfl (Nat.le_refl _) (by unfold maxLen; omega)
theorem PartsB.nil (B : Nat) (W : World) : PartsB B W [] [] := ⟨rfl, fun j u x hu => by simp at hu⟩
theorem PartsB.snoc {B : Nat} {W : World} {us : List Value} {xs : List (List UInt8)} (h : PartsB B W us xs) {q : Nat} {x : List UInt8} (hx : Blk W q [] x []) (hl : x.length ≤ 1000) (hq : B ≤ q) : PartsB B W (us ++ [.slice (some ⟨q, 0, none⟩) x.length x.length]) (xs ++ [x]) := by
  refine ⟨by rw [List.length_append, List.length_append, h.1]; rfl, fun j u y hu hy => ?_⟩
  by_cases hj : j < us.length
  · rw [List.getElem?_append_left hj] at hu
    rw [List.getElem?_append_left (by rw [← h.1]; exact hj)] at hy
    exact h.2 j u y hu hy
  · have hj' : j = us.length := by
      have := (List.getElem?_eq_some_iff.1 hu).1
      rw [List.length_append, List.length_singleton] at this
      omega
    subst hj'
    rw [List.getElem?_append_right (Nat.le_refl _)] at hu
    rw [List.getElem?_append_right (by rw [← h.1]; exact Nat.le_refl _), h.1] at hy
    simp at hu hy
    subst hu
    subst hy
    exact ⟨q, rfl, hx, hl, hq⟩

theorem grown_kindE {B n : Nat} {w w' : World} {v : Value} {l : List Qe} (ho : OwnE B w v n l) (hg : w.grownBy w' v.ownBlock) {q : Nat} {cs : Array Value} {t : TypeId} {fr : Nat × Nat} (hq : w.heap[q]? = some (.cells cs t fr)) (ht : t ≠ 41) : w'.heap[q]? = w.heap[q]? := by
  have hlt : q < w.heap.size := (Array.getElem?_eq_some_iff.1 hq).1
  refine hg.block q hlt (fun e => ?_)
  obtain ⟨c1, e1⟩ := owns_type' ho q e.symm
  rw [e1] at hq
  injection hq with hq
  injection hq with _ h2 _
  exact ht h2.symm
theorem sl_keptBlock {size n : Nat} {W W' : World} {v : Value} {cs : List Value} (h : Sl size W v n cs) (hk : ∀ q, v.ownBlock = some q → W'.heap[q]? = W.heap[q]?) : Sl size W' v n cs := by
  obtain ⟨h1, ao, cap, rfl, h2, h3, h4, h5⟩ := h
  refine ⟨h1, ao, cap, rfl, h2, h3, h4, ?_⟩
  rcases h5 with h5 | ⟨b', off, rfl, hc⟩
  · exact .inl h5
  · refine .inr ⟨b', off, rfl, fun k x hx => ?_⟩
    rw [World.cell?_of_block (w := W) (hk b' rfl)]
    exact hc k x hx
theorem QeN.grownE {B n : Nat} {w w' : World} {v : Value} {l : List Qe} {e : Qe} (h : QeN w e) (ho : OwnE B w v n l) (hg : w.grownBy w' v.ownBlock) : QeN w' e := by
  obtain ⟨⟨h1, h2⟩, h3, h4⟩ := h
  have k1 : ∀ q, e.ov.ownBlock = some q → w'.heap[q]? = w.heap[q]? := fun q hq => by
    obtain ⟨cs, t, fz, a1, a2⟩ := h3 q hq
    exact grown_kindE ho hg a1 a2
  have k2 : ∀ q, e.vv.ownBlock = some q → w'.heap[q]? = w.heap[q]? := fun q hq => by
    obtain ⟨cs, t, fz, a1, a2⟩ := h4 q hq
    exact grown_kindE ho hg a1 a2
  refine ⟨⟨sl_keptBlock h1 k1, sl_keptBlock h2 k2⟩, fun q hq => ?_, fun q hq => ?_⟩
  · obtain ⟨cs, t, fz, a1, a2⟩ := h3 q hq
    exact ⟨cs, t, fz, (k1 q hq).trans a1, a2⟩
  · obtain ⟨cs, t, fz, a1, a2⟩ := h4 q hq
    exact ⟨cs, t, fz, (k2 q hq).trans a1, a2⟩

end Go.Proofs.Ytkcijbejngnalaa
