/-
  Texts that lie together: KA KM KB KS KC KD KN KG KR KE.
-/
import Derived.Test.YtkckbeekehecnaaGreatZQ
import Derived.Maps.Own
import Derived.Maps.OwnOps
import Derived.Maps.Views
import Derived.BigQuiet
import Derived.RegionTactic
import Derived.Deep.Light
import Derived.Carry
namespace Go.Proofs.YtkckbeekehecnaaGreat

section
/-
  Maps from whole numbers to values.
-/
open Go.RowKit Go.Maps
set_option linter.unusedVariables false
set_option maxRecDepth 100000

/-- An element of whatever kind, as it is. -/
def heldR : Value → Option (DataW Value × List MemPlace) := fun v => some (.held v, [])
/-- The map at a block: which numbers have which values. -/
def MpO (w : World) (mb k : Nat) (f : Int → Option Value) : Prop :=
  ∃ D : DataW Value, w.ownsMap Tryz.prog 3 heldR mb k D ∧ IsMap D ∧ ∀ i : Int, (Lit.int .i64 i).wf = true → ∀ zd, D.atKey (.int .i64 i) zd = (match f i with | some v => .held v | none => zd)

theorem MpO.start (w : World) : MpO (w.alloc (.map #[] 0)) w.heap.size 0 (fun _ => none) := ⟨_, World.ownsMap_made _ _ _ _, isMap_empty, fun i _ zd => rfl⟩
theorem MpO.kept {w w' : World} {mb k : Nat} {f : Int → Option Value} (h : MpO w mb k f) (hk : w'.heap[mb]? = w.heap[mb]?) : MpO w' mb k f := by
  obtain ⟨D, ⟨es, clock, h1, h2⟩, h3, h4⟩ := h
  exact ⟨D, ⟨es, clock, hk.trans h1, h2⟩, h3, h4⟩
theorem MpO.lt {w : World} {mb k : Nat} {f : Int → Option Value} (h : MpO w mb k f) : mb < w.heap.size := by
  obtain ⟨D, h1, _⟩ := h
  exact h1.lt
theorem MpO.isMap {w : World} {mb k : Nat} {f : Int → Option Value} (h : MpO w mb k f) : ∃ es c, w.heap[mb]? = some (.map es c) := by
  obtain ⟨D, ⟨es, c, h1, _⟩, _⟩ := h
  exact ⟨es, c, h1⟩
theorem MpO.below {w w' : World} {mb k : Nat} {f : Int → Option Value} (h : MpO w mb k f) (hb : Below w.heap.size w w') : MpO w' mb k f := h.kept (hb.block mb h.lt)
theorem MpO.mono {w : World} {mb k k' : Nat} {f : Int → Option Value} (h : MpO w mb k f) (hk : k ≤ k') : MpO w mb k' f := by
  obtain ⟨D, h1, h2⟩ := h
  exact ⟨D, h1.mono hk, h2⟩

theorem Tryz.keyedI : Keyed Tryz.prog 3 := int_keyed Tryz.underlying3
theorem key_int {i : Int} (hi : (Lit.int .i64 i).wf = true) : keyOf Tryz.prog 3 (.int .i64 i) = some (.int .i64 i) := keyOf_int_mk Tryz.underlying3 hi

theorem MpO.look {w : World} {mb k : Nat} {f : Int → Option Value} (h : MpO w mb k f) {t e : TypeId} (ht : Tryz.prog.underlying t = some (.map 3 e)) {z : Value} (hz : (zeroValue e).run Tryz.prog w = .ok z w) {i : Int} (hi : (Lit.int .i64 i).wf = true) :
    (Instr.lookup t (.map (some mb)) (.int .i64 i) false).run Tryz.prog w = .ok ((f i).getD z) w := by
  obtain ⟨D, ⟨es, clock, hb, F, hs, rfl⟩, h2, h3⟩ := h
  rcases Maps.fit_look false Tryz.keyedI ht hz hb F (key_int hi) with ⟨hrun, _, hat⟩ | ⟨e0, y, _, _, hrun, hRv, hat, _⟩
  · have h4 := h3 i hi (.held (.bool true))
    have h5 := h3 i hi .nil
    rw [hat] at h4 h5
    cases hf : f i with
    | none => simpa using hrun
    | some v => rw [hf] at h5; cases h5
  · have h5 := h3 i hi .nil
    rw [hat] at h5
    injection hRv with hRv
    rw [← hRv] at h5
    cases hf : f i with
    | none => rw [hf] at h5; cases h5
    | some v =>
      rw [hf] at h5
      injection h5 with h5
      rw [← h5]
      simpa using hrun
theorem MpO.look2 {w : World} {mb k : Nat} {f : Int → Option Value} (h : MpO w mb k f) {t e : TypeId} (ht : Tryz.prog.underlying t = some (.map 3 e)) {z : Value} (hz : (zeroValue e).run Tryz.prog w = .ok z w) {i : Int} (hi : (Lit.int .i64 i).wf = true) :
    (Instr.lookup t (.map (some mb)) (.int .i64 i) true).run Tryz.prog w = .ok (.tuple #[(f i).getD z, .bool (f i).isSome]) w := by
  obtain ⟨D, ⟨es, clock, hb, F, hs, rfl⟩, h2, h3⟩ := h
  rcases Maps.fit_look true Tryz.keyedI ht hz hb F (key_int hi) with ⟨hrun, _, hat⟩ | ⟨e0, y, _, _, hrun, hRv, hat, _⟩
  · have h5 := h3 i hi .nil
    have h4 := h3 i hi (.held (.bool true))
    rw [hat] at h4 h5
    cases hf : f i with
    | none => simpa using hrun
    | some v => rw [hf] at h5; cases h5
  · have h5 := h3 i hi .nil
    rw [hat] at h5
    injection hRv with hRv
    rw [← hRv] at h5
    cases hf : f i with
    | none => rw [hf] at h5; cases h5
    | some v =>
      rw [hf] at h5
      injection h5 with h5
      rw [← h5]
      simpa using hrun

/-- One number's value is another one. -/
def setO (f : Int → Option Value) (i : Int) (v : Value) : Int → Option Value := fun a => if a = i then some v else f a
theorem setO_same (f : Int → Option Value) (i : Int) (v : Value) : setO f i v i = some v := by simp [setO]
theorem setO_other {f : Int → Option Value} {i a : Int} {v : Value} (h : a ≠ i) : setO f i v a = f a := by simp [setO, h]

theorem MpO.update {w : World} {mb k : Nat} {f : Int → Option Value} (h : MpO w mb k f) {t e : TypeId} (ht : Tryz.prog.underlying t = some (.map 3 e)) (hk : k ≤ 1000000000) {i : Int} (hi : (Lit.int .i64 i).wf = true) (v : Value) :
    ∃ w', (Instr.mapUpdate t (.map (some mb)) (.int .i64 i) v).run Tryz.prog w = .ok () w' ∧ MpO w' mb (k + 1) (setO f i v) ∧ w.grownBy w' (some mb) := by
  obtain ⟨D, h1, h2, h3⟩ := h
  obtain ⟨w', hrun, ho, hg⟩ := h1.update Tryz.keyedI ht (by unfold maxLen; omega) (key_int hi) (show heldR v = some (.held v, []) from rfl)
  refine ⟨w', hrun, ⟨_, ho, h2.put _ _, fun a ha zd => ?_⟩, hg⟩
  by_cases e : a = i
  · subst e
    rw [atKey_put_same h2 (by simp [WideAt.IsKeyLit]), setO_same]
  · rw [atKey_put_other (fun q => e (by injection q)), h3 a ha, setO_other e]

end

section
/-
  Which blocks follow of equations: what is reckoned.
-/
open Go.RowKit
set_option linter.unusedVariables false

/-- A table of m numbers. -/
def tabZ (m : Nat) (h : Nat → Int) : List Int := (List.range m).map h
theorem tab_length (m : Nat) (h : Nat → Int) : (tabZ m h).length = m := by simp [tabZ]
theorem tab_get {m e : Nat} (h : Nat → Int) (he : e < m) : (tabZ m h)[e]? = some (h e) := by simp [tabZ, he]
def updN (h : Nat → Int) (e : Nat) (v : Int) : Nat → Int := fun x => if x = e then v else h x
theorem updN_same (h : Nat → Int) (e : Nat) (v : Int) : updN h e v e = v := by simp [updN]
theorem updN_other {h : Nat → Int} {e x : Nat} {v : Int} (hx : x ≠ e) : updN h e v x = h x := by simp [updN, hx]
theorem tabZ_set (m : Nat) (h : Nat → Int) (e : Nat) (v : Int) : (tabZ m h).set e v = tabZ m (updN h e v) := by
  apply List.ext_getElem?
  intro i
  rw [List.getElem?_set]
  by_cases hi : i < m
  · rw [tab_get _ hi, tab_get _ hi, tab_length]
    by_cases he : e = i
    · subst he
      simp [hi, updN]
    · rw [if_neg he, updN_other (fun h => he h.symm)]
  · have h1 : (tabZ m h)[i]? = none := List.getElem?_eq_none (by rw [tab_length]; omega)
    have h2 : (tabZ m (updN h e v))[i]? = none := List.getElem?_eq_none (by rw [tab_length]; omega)
    rw [h1, h2, tab_length]
    split
    · rename_i h3
      subst h3
      simp [hi]
    · rfl
theorem tab_congr {m : Nat} {h g : Nat → Int} (hg : ∀ e, e < m → h e = g e) : tabZ m h = tabZ m g := by
  unfold tabZ
  exact List.map_congr_left fun e he => hg e (List.mem_range.1 he)

/-- Numbers, put upon each other bit by bit. -/
def xorN (l : List Int) : Nat := l.foldr (fun x n => x.toNat ^^^ n) 0
theorem xorN_cons (x : Int) (l : List Int) : xorN (x :: l) = x.toNat ^^^ xorN l := rfl
theorem xorN_append (a b : List Int) : xorN (a ++ b) = xorN a ^^^ xorN b := by
  induction a with
  | nil => simp [xorN]
  | cons x a ih => rw [List.cons_append, xorN_cons, xorN_cons, ih, Nat.xor_assoc]
theorem xorN_perm {a b : List Int} (h : a.Perm b) : xorN a = xorN b := by
  induction h with
  | nil => rfl
  | cons x _ ih => rw [xorN_cons, xorN_cons, ih]
  | swap x y l => rw [xorN_cons, xorN_cons, xorN_cons, xorN_cons, ← Nat.xor_assoc, ← Nat.xor_assoc, Nat.xor_comm y.toNat]
  | trans _ _ h1 h2 => rw [h1, h2]
theorem xorN_lt {l : List Int} (h : ∀ x ∈ l, x < 9223372036854775808) : xorN l < 2 ^ 63 := by
  induction l with
  | nil => simp [xorN]
  | cons x l ih =>
    rw [xorN_cons]
    have h1 := h x (List.mem_cons_self ..)
    exact Nat.xor_lt_two_pow (by omega) (ih fun y hy => h y (List.mem_cons_of_mem _ hy))
theorem i64_xor (a b : Nat) (ha : a < 2 ^ 63) (hb : b < 2 ^ 63) : bits BinOp.xor IntKind.i64 (a : Int) (b : Int) = ((a ^^^ b : Nat) : Int) := by
  have h1 : a ^^^ b < 2 ^ 63 := Nat.xor_lt_two_pow ha hb
  have oa : ∀ x : Nat, x < 2 ^ 63 → (BitVec.ofInt 64 (x : Int)).toNat = x := fun x hx => by
    rw [BitVec.toNat_ofInt]
    omega
  show IntKind.i64.wrap ((BitVec.ofInt 64 (a : Int) ^^^ BitVec.ofInt 64 (b : Int)).toNat : Int) = _
  rw [BitVec.toNat_xor, oa a ha, oa b hb, IntKind.wrap_i64]
  omega

/-- Numbers such as there are, rising. -/
def FitI (all : Int) (of : List Int) : Prop := of.Pairwise (· < ·) ∧ ∀ x ∈ of, 0 ≤ x ∧ x < all
theorem FitI.nodup {all : Int} {of : List Int} (h : FitI all of) : of.Nodup := h.1.imp (fun h => by omega)

theorem leftZ_mem {K l : List Int} {x : Int} : x ∈ leftZ K l ↔ x ∈ l ∧ x ∉ K := by simp [leftZ]
theorem leftZ_nil (l : List Int) : leftZ [] l = l := by simp [leftZ]
theorem leftZ_congr {K K' l : List Int} (h : ∀ x ∈ l, (x ∈ K ↔ x ∈ K')) : leftZ K l = leftZ K' l := by
  unfold leftZ
  refine List.filter_congr fun x hx => ?_
  have := h x hx
  by_cases hk : x ∈ K
  · simp [hk, this.1 hk]
  · have hk' : x ∉ K' := fun h => hk (this.2 h)
    simp [hk, hk']
theorem leftZ_step {K l : List Int} (hn : l.Nodup) {b : Int} (hb : b ∈ l) (hk : b ∉ K) : (leftZ K l).Perm (b :: leftZ (K ++ [b]) l) := by
  have hN : (leftZ K l).Nodup := hn.filter _
  have hN' : (leftZ (K ++ [b]) l).Nodup := hn.filter _
  rw [List.perm_ext_iff_of_nodup hN (List.nodup_cons.2 ⟨fun h => by have := (leftZ_mem.1 h).2; simp at this, hN'⟩)]
  intro x
  rw [List.mem_cons, leftZ_mem, leftZ_mem]
  by_cases hx : x = b
  · subst hx; simp [hb, hk]
  · simp [hx]
theorem leftZ_out {K l : List Int} {b : Int} (hb : b ∉ l) : leftZ (K ++ [b]) l = leftZ K l := leftZ_congr fun x hx => by
  have : x ≠ b := fun e => hb (e ▸ hx)
  simp [this]

/-- What follows of equations is among K, if what follows of K is. -/
def FolC (fl : List (List Int)) (K : Int → Prop) : Prop := ∀ (l : List Int) (x : Int), l ∈ fl → x ∈ l → (∀ y ∈ l, y ≠ x → K y) → K x
/-- A block follows of equations: it is in the least such K. -/
def Fol (fl : List (List Int)) (x : Int) : Prop := ∀ K : Int → Prop, FolC fl K → K x
theorem Fol.step {fl : List (List Int)} (l : List Int) (x : Int) (hl : l ∈ fl) (hx : x ∈ l) (ho : ∀ y ∈ l, y ≠ x → Fol fl y) : Fol fl x := fun K hK => hK l x hl hx fun y hy hne => ho y hy hne K hK
theorem Fol.mono {fl gl : List (List Int)} (h : ∀ l ∈ fl, l ∈ gl) {x : Int} (hx : Fol fl x) : Fol gl x := hx (Fol gl) fun l x hl hx ho => Fol.step l x (h l hl) hx ho
theorem Fol.ex {fl : List (List Int)} {x : Int} (h : Fol fl x) : ∃ l ∈ fl, x ∈ l := h (fun x => ∃ l ∈ fl, x ∈ l) fun l _ hl hx _ => ⟨l, hl, hx⟩

/-- Nothing more follows. -/
def Done (fl : List (List Int)) (K : List Int) : Prop := ∀ l ∈ fl, (leftZ K l).length ≠ 1
theorem done_fol {fl : List (List Int)} {K : List Int} (hn : ∀ l ∈ fl, l.Nodup) (hd : Done fl K) {x : Int} (h : Fol fl x) : x ∈ K := by
  refine h (fun x => x ∈ K) fun l x hl hx ih => ?_
  by_cases hk : x ∈ K
  · exact hk
  · exfalso
    refine hd l hl ?_
    have h1 := leftZ_step (hn l hl) hx hk
    have h2 : leftZ (K ++ [x]) l = [] := by
      rw [List.eq_nil_iff_forall_not_mem]
      intro y hy
      obtain ⟨h3, h4⟩ := leftZ_mem.1 hy
      have h5 : y ≠ x := fun e => h4 (by simp [e])
      exact h4 (List.mem_append_left _ (ih y h3 h5))
    rw [h1.length_eq, h2]
    rfl
/-- One block after another. -/
def Deriv (fl : List (List Int)) (ss : List (Nat × Int)) : Prop := ∀ (j e : Nat) (b : Int), ss[j]? = some (e, b) → ∃ l, fl[e]? = some l ∧ leftZ ((ss.take j).map Prod.snd) l = [b]
theorem Deriv.nil (fl : List (List Int)) : Deriv fl [] := fun j e b h => by simp at h
theorem Deriv.snoc {fl : List (List Int)} {ss : List (Nat × Int)} (h : Deriv fl ss) {e : Nat} {b : Int} {l : List Int} (hl : fl[e]? = some l) (hb : leftZ (ss.map Prod.snd) l = [b]) : Deriv fl (ss ++ [(e, b)]) := by
  intro j e' b' hj
  by_cases hlt : j < ss.length
  · rw [List.getElem?_append_left hlt] at hj
    obtain ⟨l', h1, h2⟩ := h j e' b' hj
    rw [List.take_append_of_le_length (by omega)]
    exact ⟨l', h1, h2⟩
  · have hj' : j = ss.length := by
      have := (List.getElem?_eq_some_iff.1 hj).1
      rw [List.length_append, List.length_singleton] at this
      omega
    subst hj'
    rw [List.getElem?_append_right (Nat.le_refl _)] at hj
    simp at hj
    obtain ⟨rfl, rfl⟩ := hj
    rw [List.take_left']
    · exact ⟨l, hl, hb⟩
    · rfl
theorem Deriv.fol {fl : List (List Int)} {ss : List (Nat × Int)} (h : Deriv fl ss) : ∀ (j e : Nat) (b : Int), ss[j]? = some (e, b) → Fol fl b := by
  intro j
  induction j using Nat.strongRecOn with
  | _ j ih =>
    intro e b hj
    obtain ⟨l, hl, hL⟩ := h j e b hj
    have hb : b ∈ leftZ ((ss.take j).map Prod.snd) l := by rw [hL]; simp
    refine Fol.step l b (List.mem_of_getElem? hl) (leftZ_mem.1 hb).1 fun y hy hne => ?_
    have hk : y ∈ (ss.take j).map Prod.snd := by
      by_cases hk : y ∈ (ss.take j).map Prod.snd
      · exact hk
      · have : y ∈ leftZ ((ss.take j).map Prod.snd) l := leftZ_mem.2 ⟨hy, hk⟩
        rw [hL] at this
        exact absurd (List.mem_singleton.1 this) hne
    obtain ⟨⟨e', b'⟩, h1, rfl⟩ := List.mem_map.1 hk
    obtain ⟨i, h2⟩ := List.mem_iff_getElem?.1 h1
    rw [List.getElem?_take] at h2
    split at h2
    · rename_i hlt
      exact ih i hlt e' b' h2
    · cases h2
theorem deriv_iff {fl : List (List Int)} {ss : List (Nat × Int)} (hn : ∀ l ∈ fl, l.Nodup) (h : Deriv fl ss) (hd : Done fl (ss.map Prod.snd)) (x : Int) : x ∈ ss.map Prod.snd ↔ Fol fl x := by
  refine ⟨fun hx => ?_, done_fol hn hd⟩
  obtain ⟨⟨e, b⟩, h1, rfl⟩ := List.mem_map.1 hx
  obtain ⟨i, h2⟩ := List.mem_iff_getElem?.1 h1
  exact h.fol i e b h2
theorem Deriv.nodup {fl : List (List Int)} {ss : List (Nat × Int)} (h : Deriv fl ss) : (ss.map Prod.snd).Nodup := by
  rw [List.nodup_iff_pairwise_ne, List.pairwise_iff_getElem]
  intro i j hi hj hij e
  have hj' : j < ss.length := by simpa using hj
  have hi' : i < ss.length := by simpa using hi
  obtain ⟨l, -, hL⟩ := h j (ss[j]).1 (ss[j]).2 (by rw [List.getElem?_eq_getElem hj'])
  have hb : (ss[j]).2 ∈ leftZ ((ss.take j).map Prod.snd) l := by rw [hL]; simp
  refine (leftZ_mem.1 hb).2 ?_
  rw [List.getElem_map, List.getElem_map] at e
  rw [← e]
  refine List.mem_map.2 ⟨ss[i], ?_, rfl⟩
  rw [List.mem_iff_getElem?]
  exact ⟨i, by rw [List.getElem?_take, if_pos hij, List.getElem?_eq_getElem hi']⟩

/-- The equations that a block is in. -/
def inAll (fl : List (List Int)) (b : Int) : List Int := ((List.range fl.length).filter fun e => decide (b ∈ fl.getD e [])).map fun (e : Nat) => (e : Int)
theorem inAll_mem {fl : List (List Int)} {b : Int} {e : Nat} {l : List Int} (hl : fl[e]? = some l) : (e : Int) ∈ inAll fl b ↔ b ∈ l := by
  unfold inAll
  have he := (List.getElem?_eq_some_iff.1 hl).1
  have hd : fl.getD e [] = l := by simp [List.getD, hl]
  constructor
  · intro h
    obtain ⟨e', h1, h2⟩ := List.mem_map.1 h
    have e1 : e' = e := by omega
    subst e1
    have := (List.mem_filter.1 h1).2
    rw [hd] at this
    simpa using this
  · intro h
    exact List.mem_map.2 ⟨e, List.mem_filter.2 ⟨List.mem_range.2 he, by rw [hd]; simpa using h⟩, rfl⟩
theorem inAll_nat {fl : List (List Int)} {b x : Int} (h : x ∈ inAll fl b) : ∃ e : Nat, x = e ∧ e < fl.length := by
  obtain ⟨e, h1, rfl⟩ := List.mem_map.1 h
  exact ⟨e, rfl, List.mem_range.1 (List.mem_filter.1 h1).1⟩
theorem inAll_nodup (fl : List (List Int)) (b : Int) : (inAll fl b).Nodup := by
  unfold inAll
  rw [List.nodup_iff_pairwise_ne, List.pairwise_map]
  refine List.Pairwise.imp (fun h e => h (by omega)) (List.nodup_iff_pairwise_ne.1 (List.nodup_range.filter _))

end

section
/-
  closure: Fits, Closed; the document's Fits and Left.
-/
open Go.RowKit
set_option linter.unusedVariables false

def lastI (l : List Int) : Int := l.getLast?.getD (-1)
theorem fit_snoc {all : Int} {l : List Int} {z : Int} : FitI all (l ++ [z]) ↔ FitI all l ∧ lastI l < z ∧ z < all := by
  unfold FitI lastI
  rw [List.pairwise_append]
  constructor
  · rintro ⟨⟨h1, -, h3⟩, h4⟩
    have hz := h4 z (by simp)
    refine ⟨⟨h1, fun x hx => h4 x (List.mem_append_left _ hx)⟩, ?_, hz.2⟩
    cases hl : l.getLast? with
    | none => simp; omega
    | some y => exact h3 y (List.mem_of_getLast? hl) z (by simp)
  · rintro ⟨⟨h1, h2⟩, h3, h4⟩
    have hle : ∀ x ∈ l, x ≤ l.getLast?.getD (-1) := by
      intro x hx
      rcases List.eq_nil_or_concat l with rfl | ⟨l', y, rfl⟩
      · cases hx
      · rw [List.concat_eq_append] at hx h1 ⊢
        rw [List.getLast?_append]
        simp only [List.getLast?_singleton, Option.some_or, Option.getD_some]
        rw [List.pairwise_append] at h1
        rcases List.mem_append.1 hx with hx | hx
        · exact Int.le_of_lt (h1.2.2 x hx y (by simp))
        · rw [List.mem_singleton.1 hx]; exact Int.le_refl _
    have h0 : -1 ≤ l.getLast?.getD (-1) := by
      cases hl : l.getLast? with
      | none => simp
      | some y => have := (h2 y (List.mem_of_getLast? hl)).1; simp; omega
    refine ⟨⟨h1, by simp, fun x hx y hy => ?_⟩, fun x hx => ?_⟩
    · rw [List.mem_singleton.1 hy]
      have := hle x hx
      omega
    · rcases List.mem_append.1 hx with hx | hx
      · exact h2 x hx
      · rw [List.mem_singleton.1 hx]; omega
theorem fit_take {all : Int} {l : List Int} (h : FitI all l) (i : Nat) : FitI all (l.take i) := ⟨h.1.sublist (List.take_sublist _ _), fun x hx => h.2 x (List.mem_of_mem_take hx)⟩
theorem fit_next {all : Int} {l : List Int} {i : Nat} {z : Int} (h : l[i]? = some z) : FitI all (l.take (i + 1)) ↔ FitI all (l.take i) ∧ lastI (l.take i) < z ∧ z < all := by
  obtain ⟨hi, e⟩ := List.getElem?_eq_some_iff.1 h
  rw [List.take_succ_eq_append_getElem hi, e]
  exact fit_snoc
theorem lastI_next {l : List Int} {i : Nat} {z : Int} (h : l[i]? = some z) : lastI (l.take (i + 1)) = z := by
  obtain ⟨hi, e⟩ := List.getElem?_eq_some_iff.1 h
  rw [List.take_succ_eq_append_getElem hi, e]
  simp [lastI]

set_option maxRecDepth 100000 in
set_option maxHeartbeats 1000000 in
/-- FITS. -/
theorem kfits_any (all : Int) (v : Value) (of : List Int) (w : World) (h : Zs w v of) :
    Calls Tryz.prog 39 #[.int .i64 all, v] w fun e w' => TellsP (FitI all of) e ∧ w' = w := by
  have HZ : Hid (Zs w v of) := h
  obtain ⟨ao, cap, rfl, h2, h3⟩ := zs_shape h
  obtain ⟨n, hn⟩ : ∃ n, of.length = n := ⟨_, rfl⟩
  rw [hn] at h2 HZ ⊢
  have Hn : Hid (of.length = n) := hn
  clear hn h
  go_enter Tryz.func39, Tryz.ntmps39
  go_wp2
  go_loop [5, 10] (fun lv iv => ∃ i : Nat, i ≤ n ∧ iv = .int .i64 i ∧ lv = .int .i64 (lastI (of.take i)) ∧ Hid (FitI all (of.take i))) (fun _ iv => n - (intOf iv).toNat)
  case atStart => exact ⟨0, by omega, rfl, by simp [lastI], by simp [Hid, FitI]⟩
  case round =>
    obtain ⟨i, hi, rfl, rfl, FF⟩ := hrel
    by_cases hlt : i < n
    · obtain ⟨z, hz⟩ : ∃ z, of[i]? = some z := ⟨_, List.getElem?_eq_getElem (by rw [Hn.out]; exact hlt)⟩
      have HZ' : Zs w (.slice ao n cap) of := HZ.out
      obtain ⟨b, off, rfl, hc⟩ := zs_at HZ' (Below.refl _ _) hz
      have NX : Hid (FitI all (of.take (i + 1)) ↔ FitI all (of.take i) ∧ lastI (of.take i) < z ∧ z < all) := fit_next hz
      have LX : Hid (lastI (of.take (i + 1)) = z) := lastI_next hz
      obtain ⟨y, hy⟩ : ∃ y, lastI (of.take i) = y := ⟨_, rfl⟩
      rw [hy] at NX ⊢
      clear hz HZ' hy
      by_cases hzy : z ≤ y
      · have NO : Hid (¬ FitI all of) := fun hF => by have := (NX.out.1 (fit_take hF _)).2.1; omega
        have d : decide (z ≤ y) = true := decide_eq_true hzy
        clear NX FF
        go_wp2
        go_ret
        exact ⟨tells_no rfl NO.out, rfl⟩
      · have d : decide (z ≤ y) = false := decide_eq_false hzy
        by_cases hza : z < all
        · have FN : Hid (FitI all (of.take (i + 1))) := NX.out.2 ⟨FF.out, by omega, hza⟩
          have d2 : decide (all ≤ z) = false := decide_eq_false (by omega)
          clear NX FF
          go_wp2
          go_round
          case rel => exact ⟨i + 1, by omega, by go_num, by rw [LX.out], FN⟩
          case measure => simp [intOf]; omega
        · have NO : Hid (¬ FitI all of) := fun hF => hza (NX.out.1 (fit_take hF _)).2.2
          have d2 : decide (all ≤ z) = true := decide_eq_true (by omega)
          clear NX FF
          go_wp2
          go_ret
          exact ⟨tells_no rfl NO.out, rfl⟩
    · obtain rfl : n = i := by omega
      have FN : Hid (FitI all of) := by have := FF.out; rwa [List.take_of_length_le (by rw [Hn.out]; exact Nat.le_refl _)] at this
      clear FF
      go_wp2
      go_ret
      exact ⟨tells_yes rfl FN.out, rfl⟩

theorem lastI_prev {l : List Int} {i : Nat} {y : Int} (h : l[i]? = some y) : lastI (l.take (i + 1)) = y := lastI_next h

end

section
/-
  What a spread is, in memory.
-/
open Go.RowKit
set_option linter.unusedVariables false

def stepCells (ss : List (Nat × Int)) : List Value := ss.flatMap fun s => [.int .i64 (s.1 : Int), .int .i64 s.2]
theorem stepCells_snoc (ss : List (Nat × Int)) (s : Nat × Int) : stepCells (ss ++ [s]) = stepCells ss ++ [.int .i64 (s.1 : Int), .int .i64 s.2] := by simp [stepCells]

/-- A spread: its map's block, its entries at most, the map, what it says, the two tables and what they hold, the list to be looked at, the steps, the function. -/
structure SpS where
  mb : Nat
  k : Nat
  f : Int → Option Value
  G : Int → List Int
  lb : Nat
  rb : Nat
  m : Nat
  h : Nat → Int
  r : Nat → Int
  fsv : Value
  FF : List Int
  ssv : Value
  ss : List (Nat × Int)
  fv : Value
def SpS.lv (s : SpS) : Value := .slice (some ⟨s.lb, 0, none⟩) s.m s.m
def SpS.rv (s : SpS) : Value := .slice (some ⟨s.rb, 0, none⟩) s.m s.m

structure Sp (B : Nat) (W : World) (p : Nat) (s : SpS) : Prop where
  box : W.heap[p]? = some (.cells #[.map (some s.mb), s.lv, s.rv, s.fv, s.fsv, .slice none 0 0, s.ssv] 95 (0, 0))
  map : MpO W s.mb s.k s.f
  rows : ∀ b v, s.f b = some v → OwnZ B W v (s.G b).length (s.G b)
  out : ∀ b, s.f b = none → s.G b = []
  left : OwnZ B W s.lv s.m (tabZ s.m s.h)
  rest : OwnZ B W s.rv s.m (tabZ s.m s.r)
  first : OwnZ B W s.fsv s.FF.length s.FF
  steps : W.ownsRow B 99 2 s.ssv s.ss.length (stepCells s.ss)
  bp : B ≤ p
  bm : B ≤ s.mb
  dlr : s.lb ≠ s.rb
  dfl : s.fsv.ownBlock ≠ some s.lb ∧ s.fsv.ownBlock ≠ some s.rb
  drow : ∀ b v, s.f b = some v → v.ownBlock ≠ some s.lb ∧ v.ownBlock ≠ some s.rb ∧ ∀ q, v.ownBlock = some q → s.fsv.ownBlock ≠ some q
  dtwo : ∀ b v b' v', s.f b = some v → s.f b' = some v' → b ≠ b' → ∀ q, v.ownBlock = some q → v'.ownBlock ≠ some q

theorem Sp.lt {B : Nat} {W : World} {p : Nat} {s : SpS} (h : Sp B W p s) : p < W.heap.size := (Array.getElem?_eq_some_iff.1 h.box).1
theorem Sp.lltB {B : Nat} {W : World} {p : Nat} {s : SpS} (h : Sp B W p s) : B ≤ s.lb ∧ s.lb < W.heap.size := h.left.lt s.lb rfl
theorem Sp.rltB {B : Nat} {W : World} {p : Nat} {s : SpS} (h : Sp B W p s) : B ≤ s.rb ∧ s.rb < W.heap.size := h.rest.lt s.rb rfl
/-- What is at a block that numbers of one's own lie in. -/
theorem OwnZ.kind {B n : Nat} {W : World} {v : Value} {l : List Int} (h : OwnZ B W v n l) {q : Nat} (hq : v.ownBlock = some q) : ∃ cs, W.heap[q]? = some (.cells cs 3) := owns_type' h q hq
theorem stepkind {B n : Nat} {W : World} {v : Value} {cs : List Value} (h : W.ownsRow B 99 2 v n cs) {q : Nat} (hq : v.ownBlock = some q) : ∃ cs, W.heap[q]? = some (.cells cs 99) := owns_type' h q hq

/-- All of a spread's blocks are as they were. -/
theorem Sp.kept {B : Nat} {W W' : World} {p : Nat} {s : SpS} (h : Sp B W p s) (hk : ∀ q, B ≤ q → q < W.heap.size → W'.heap[q]? = W.heap[q]?) : Sp B W' p s where
  box := (hk p h.bp h.lt).trans h.box
  map := h.map.kept (hk _ h.bm h.map.lt)
  rows b v hv := (h.rows b v hv).kept fun q hq => hk q ((h.rows b v hv).lt q hq).1 ((h.rows b v hv).lt q hq).2
  out := h.out
  left := h.left.kept fun q hq => hk q (h.left.lt q hq).1 (h.left.lt q hq).2
  rest := h.rest.kept fun q hq => hk q (h.rest.lt q hq).1 (h.rest.lt q hq).2
  first := h.first.kept fun q hq => hk q (h.first.lt q hq).1 (h.first.lt q hq).2
  steps := owns_kept h.steps fun q hq => hk q (World.ownsRow.lt h.steps q hq).1 (World.ownsRow.lt h.steps q hq).2
  bp := h.bp
  bm := h.bm
  dlr := h.dlr
  dfl := h.dfl
  drow := h.drow
  dtwo := h.dtwo
theorem Sp.below {B : Nat} {W W' : World} {p : Nat} {s : SpS} (h : Sp B W p s) (hb : Below W.heap.size W W') : Sp B W' p s := h.kept fun q _ hq => hb.block q hq

/-- One block of numbers, none of the others, is turned. -/
theorem heap_ne {W : World} {q q' : Nat} {cs cs' : Array Value} {t t' : TypeId} {fr fr' : Nat × Nat} (h : W.heap[q]? = some (.cells cs t fr)) (h' : W.heap[q']? = some (.cells cs' t' fr')) (ht : t ≠ t') : q ≠ q' := by
  intro e
  subst e
  rw [h] at h'
  injection h' with h'
  injection h' with _ h2 _
  exact ht h2
theorem heap_neM {W : World} {q q' : Nat} {cs : Array Value} {es : Array MapEntry} {c : Nat} {t : TypeId} {fr : Nat × Nat} (h : W.heap[q]? = some (.cells cs t fr)) (h' : W.heap[q']? = some (.map es c)) : q ≠ q' := by
  intro e
  subst e
  rw [h] at h'
  cases h'

theorem tab_set_own {B n : Nat} {W : World} {b : Nat} {h : Nat → Int} (ho : OwnZ B W (.slice (some ⟨b, 0, none⟩) n n) n (tabZ n h)) {e : Nat} (he : e < n) (v : Int) : OwnZ B (W.setCell ⟨b, e, none⟩ (.int .i64 v)) (.slice (some ⟨b, 0, none⟩) n n) n (tabZ n (updN h e v)) := by
  rcases ho.2 with ⟨h0, -⟩ | ⟨g, cap, cur, hv, hg, hh, hnc, hcm, hcs, ht⟩
  · cases h0
  · injection hv with e1 e2 e3
    injection e1 with e1
    injection e1 with e1 _ _
    subst e1
    subst e3
    refine ⟨by rw [List.length_map, tab_length, Nat.mul_one], .inr ⟨b, n, cur.set! e (.int .i64 v), rfl, hg, ?_, Nat.le_refl _, hcm, by simpa using hcs, ?_⟩⟩
    · simp [World.setCell, Array.getElem?_modify, hh]
    · rw [← tabZ_set, List.map_set]
      rw [Nat.mul_one] at ht hcs ⊢
      rw [Array.set!_eq_setIfInBounds, Array.toList_setIfInBounds]
      rw [List.take_of_length_le (by rw [List.length_set, Array.length_toList, hcs]; exact Nat.le_refl _)]
      rw [List.take_of_length_le (by rw [Array.length_toList, hcs]; exact Nat.le_refl _)] at ht
      rw [ht]
theorem heap_set_other (W : World) (b j : Nat) (u : Value) {q : Nat} (hq : q ≠ b) : (W.setCell ⟨b, j, none⟩ u).heap[q]? = W.heap[q]? := Below.heap_setCell W ⟨b, j, none⟩ u q hq

theorem Sp.setLeft {B : Nat} {W : World} {p : Nat} {s : SpS} (h : Sp B W p s) {e : Nat} (he : e < s.m) (v : Int) : Sp B (W.setCell ⟨s.lb, e, none⟩ (.int .i64 v)) p { s with h := updN s.h e v } := by
  obtain ⟨cl, hl⟩ := h.left.kind (q := s.lb) rfl
  have kp : p ≠ s.lb := heap_ne h.box hl (by decide)
  obtain ⟨es, c, hm⟩ := h.map.isMap
  have km : s.mb ≠ s.lb := fun e => heap_neM hl hm e.symm
  have K : ∀ q, q ≠ s.lb → (W.setCell ⟨s.lb, e, none⟩ (.int .i64 v)).heap[q]? = W.heap[q]? := fun q hq => heap_set_other _ _ _ _ hq
  exact
    { box := (K p kp).trans h.box
      map := h.map.kept (K _ km)
      rows := fun b v hv => (h.rows b v hv).kept fun q hq => K q (fun e => (h.drow b v hv).1 (by rw [hq, e]))
      out := h.out
      left := tab_set_own h.left he v
      rest := h.rest.kept fun q hq => K q (by have : s.rb = q := Option.some.inj hq; rw [← this]; exact fun e => h.dlr e.symm)
      first := h.first.kept fun q hq => K q (fun e => h.dfl.1 (by rw [hq, e]))
      steps := owns_kept h.steps fun q hq => K q (by obtain ⟨cs, hs⟩ := stepkind h.steps hq; exact heap_ne hs hl (by decide))
      bp := h.bp, bm := h.bm, dlr := h.dlr, dfl := h.dfl, drow := h.drow, dtwo := h.dtwo }
theorem Sp.setRest {B : Nat} {W : World} {p : Nat} {s : SpS} (h : Sp B W p s) {e : Nat} (he : e < s.m) (v : Int) : Sp B (W.setCell ⟨s.rb, e, none⟩ (.int .i64 v)) p { s with r := updN s.r e v } := by
  obtain ⟨cl, hl⟩ := h.rest.kind (q := s.rb) rfl
  have kp : p ≠ s.rb := heap_ne h.box hl (by decide)
  obtain ⟨es, c, hm⟩ := h.map.isMap
  have km : s.mb ≠ s.rb := fun e => heap_neM hl hm e.symm
  have K : ∀ q, q ≠ s.rb → (W.setCell ⟨s.rb, e, none⟩ (.int .i64 v)).heap[q]? = W.heap[q]? := fun q hq => heap_set_other _ _ _ _ hq
  exact
    { box := (K p kp).trans h.box
      map := h.map.kept (K _ km)
      rows := fun b v hv => (h.rows b v hv).kept fun q hq => K q (fun e => (h.drow b v hv).2.1 (by rw [hq, e]))
      out := h.out
      left := h.left.kept fun q hq => K q (by have : s.lb = q := Option.some.inj hq; rw [← this]; exact h.dlr)
      rest := tab_set_own h.rest he v
      first := h.first.kept fun q hq => K q (fun e => h.dfl.2 (by rw [hq, e]))
      steps := owns_kept h.steps fun q hq => K q (by obtain ⟨cs, hs⟩ := stepkind h.steps hq; exact heap_ne hs hl (by decide))
      bp := h.bp, bm := h.bm, dlr := h.dlr, dfl := h.dfl, drow := h.drow, dtwo := h.dtwo }

/-- A cell of the spread itself is turned. -/
theorem Sp.box_other {B : Nat} {W : World} {p : Nat} {s : SpS} (h : Sp B W p s) (j : Nat) (u : Value) : (∀ (q : Nat) (cs : Array Value) (t : TypeId) (fr : Nat × Nat), t ≠ 95 → W.heap[q]? = some (Obj.cells cs t fr) → (W.setCell ⟨p, j, none⟩ u).heap[q]? = W.heap[q]?) ∧ (W.setCell ⟨p, j, none⟩ u).heap[s.mb]? = W.heap[s.mb]? := by
  refine ⟨fun q cs t fr ht hq => heap_set_other _ _ _ _ (heap_ne hq h.box ht), ?_⟩
  obtain ⟨es, c, hm⟩ := h.map.isMap
  exact heap_set_other _ _ _ _ (fun e => heap_neM h.box hm e.symm)
theorem box_set {W : World} {p j : Nat} {cs : Array Value} {t : TypeId} (h : W.heap[p]? = some (.cells cs t (0, 0))) (u : Value) : (W.setCell ⟨p, j, none⟩ u).heap[p]? = some (.cells (cs.set! j u) t (0, 0)) := by
  simp [World.setCell, Array.getElem?_modify, h]

/-- The list to be looked at is another one. -/
theorem Sp.setFirst {B : Nat} {W : World} {p : Nat} {s : SpS} (h : Sp B W p s) {v : Value} {F : List Int} (hF : OwnZ B W v F.length F) (hv : v.ownBlock = s.fsv.ownBlock ∨ ∀ q, v.ownBlock = some q → q ≠ s.lb ∧ q ≠ s.rb ∧ ∀ b u, s.f b = some u → u.ownBlock ≠ some q) :
    Sp B (W.setCell ⟨p, 4, none⟩ v) p { s with fsv := v, FF := F } := by
  obtain ⟨K, Km⟩ := h.box_other 4 v
  exact
    { box := by
        have := box_set h.box (j := 4) v
        simpa [SpS.lv, SpS.rv] using this
      map := h.map.kept Km
      rows := fun b v hv => (h.rows b v hv).kept fun q hq => by obtain ⟨cs, hc⟩ := (h.rows b v hv).kind hq; exact K q cs _ _ (by decide) hc
      out := h.out
      left := h.left.kept fun q hq => by obtain ⟨cs, hc⟩ := h.left.kind hq; exact K q cs _ _ (by decide) hc
      rest := h.rest.kept fun q hq => by obtain ⟨cs, hc⟩ := h.rest.kind hq; exact K q cs _ _ (by decide) hc
      first := hF.kept fun q hq => by obtain ⟨cs, hc⟩ := hF.kind hq; exact K q cs _ _ (by decide) hc
      steps := owns_kept h.steps fun q hq => by obtain ⟨cs, hc⟩ := stepkind h.steps hq; exact K q cs _ _ (by decide) hc
      bp := h.bp, bm := h.bm, dlr := h.dlr
      dfl := by
        rcases hv with hv | hv
        · show v.ownBlock ≠ _ ∧ v.ownBlock ≠ _
          rw [hv]
          exact h.dfl
        · refine ⟨fun e => (hv _ e).1 rfl, fun e => (hv _ e).2.1 rfl⟩
      drow := fun b u hu => by
        obtain ⟨h1, h2, h3⟩ := h.drow b u hu
        refine ⟨h1, h2, fun q hq => ?_⟩
        show v.ownBlock ≠ some q
        rcases hv with hv | hv
        · rw [hv]; exact h3 q hq
        · intro e
          exact (hv q e).2.2 b u hu hq
      dtwo := h.dtwo }
/-- The steps are others. -/
theorem Sp.setSteps {B : Nat} {W : World} {p : Nat} {s : SpS} (h : Sp B W p s) {v : Value} {S : List (Nat × Int)} (hS : W.ownsRow B 99 2 v S.length (stepCells S)) :
    Sp B (W.setCell ⟨p, 6, none⟩ v) p { s with ssv := v, ss := S } := by
  obtain ⟨K, Km⟩ := h.box_other 6 v
  exact
    { box := by
        have := box_set h.box (j := 6) v
        simpa [SpS.lv, SpS.rv] using this
      map := h.map.kept Km
      rows := fun b v hv => (h.rows b v hv).kept fun q hq => by obtain ⟨cs, hc⟩ := (h.rows b v hv).kind hq; exact K q cs _ _ (by decide) hc
      out := h.out
      left := h.left.kept fun q hq => by obtain ⟨cs, hc⟩ := h.left.kind hq; exact K q cs _ _ (by decide) hc
      rest := h.rest.kept fun q hq => by obtain ⟨cs, hc⟩ := h.rest.kind hq; exact K q cs _ _ (by decide) hc
      first := h.first.kept fun q hq => by obtain ⟨cs, hc⟩ := h.first.kind hq; exact K q cs _ _ (by decide) hc
      steps := owns_kept hS fun q hq => by obtain ⟨cs, hc⟩ := stepkind hS hq; exact K q cs _ _ (by decide) hc
      bp := h.bp, bm := h.bm, dlr := h.dlr, dfl := h.dfl, drow := h.drow, dtwo := h.dtwo }
/-- Behind an 'append' onto the list. -/
theorem Sp.grownF {B : Nat} {W W' : World} {p : Nat} {s : SpS} (h : Sp B W p s) (hg : W.grownBy W' s.fsv.ownBlock) {v : Value} {F : List Int} (hF : OwnZ B W' v F.length F) (hv : v.ownBlock = s.fsv.ownBlock ∨ v.ownBlock = some W.heap.size) :
    Sp B (W'.setCell ⟨p, 4, none⟩ v) p { s with fsv := v, FF := F } := by
  have K : ∀ q, q < W.heap.size → s.fsv.ownBlock ≠ some q → W'.heap[q]? = W.heap[q]? := fun q hq hne => hg.block q hq (fun e => hne e.symm)
  have kp : s.fsv.ownBlock ≠ some p := fun e => by
    obtain ⟨cs, hc⟩ := h.first.kind e
    exact heap_ne hc h.box (by decide) rfl
  have km : s.fsv.ownBlock ≠ some s.mb := fun e => by
    obtain ⟨cs, hc⟩ := h.first.kind e
    obtain ⟨es, c, hm⟩ := h.map.isMap
    exact heap_neM hc hm rfl
  have ks : ∀ q, s.ssv.ownBlock = some q → s.fsv.ownBlock ≠ some q := fun q hq e => by
    obtain ⟨cs, hc⟩ := h.first.kind e
    obtain ⟨cs', hc'⟩ := stepkind h.steps hq
    exact heap_ne hc hc' (by decide) rfl
  have K2 : ∀ q, q < W.heap.size → s.fsv.ownBlock ≠ some q → q ≠ p → (W'.setCell ⟨p, 4, none⟩ v).heap[q]? = W.heap[q]? := fun q hq hne hp => (heap_set_other _ _ _ _ hp).trans (K q hq hne)
  have np : ∀ (q : Nat) (cs : Array Value) (t : TypeId), t ≠ 95 → W.heap[q]? = some (Obj.cells cs t (0, 0)) → q ≠ p := fun q cs t ht hq => heap_ne hq h.box ht
  obtain ⟨es, c, hm⟩ := h.map.isMap
  have mp : s.mb ≠ p := fun e => heap_neM h.box hm e.symm
  have hF' : ∀ q, v.ownBlock = some q → q ≠ p := fun q hq e => by
    obtain ⟨cs, hc⟩ := hF.kind hq
    have hp' : W'.heap[p]? = _ := (K p h.lt kp).trans h.box
    exact heap_ne hc hp' (by decide) e
  exact
    { box := by
        have := box_set ((K p h.lt kp).trans h.box) (j := 4) v
        simpa [SpS.lv, SpS.rv] using this
      map := h.map.kept (K2 _ h.map.lt km mp)
      rows := fun b u hu => (h.rows b u hu).kept fun q hq => by
        obtain ⟨cs, hc⟩ := (h.rows b u hu).kind hq
        exact K2 q ((h.rows b u hu).lt q hq).2 ((h.drow b u hu).2.2 q hq) (np q cs _ (by decide) hc)
      out := h.out
      left := h.left.kept fun q hq => by
        obtain ⟨cs, hc⟩ := h.left.kind hq
        have e1 : s.lb = q := Option.some.inj hq
        exact K2 q (h.left.lt q hq).2 (by rw [← e1]; exact h.dfl.1) (np q cs _ (by decide) hc)
      rest := h.rest.kept fun q hq => by
        obtain ⟨cs, hc⟩ := h.rest.kind hq
        have e1 : s.rb = q := Option.some.inj hq
        exact K2 q (h.rest.lt q hq).2 (by rw [← e1]; exact h.dfl.2) (np q cs _ (by decide) hc)
      first := hF.kept fun q hq => heap_set_other _ _ _ _ (hF' q hq)
      steps := owns_kept h.steps fun q hq => by
        obtain ⟨cs, hc⟩ := stepkind h.steps hq
        exact K2 q (World.ownsRow.lt h.steps q hq).2 (ks q hq) (np q cs _ (by decide) hc)
      bp := h.bp, bm := h.bm, dlr := h.dlr
      dfl := by
        show v.ownBlock ≠ _ ∧ v.ownBlock ≠ _
        rcases hv with hv | hv
        · rw [hv]; exact h.dfl
        · rw [hv]
          refine ⟨fun e => ?_, fun e => ?_⟩
          · have := h.lltB.2; have e2 : W.heap.size = s.lb := Option.some.inj e; omega
          · have := h.rltB.2; have e2 : W.heap.size = s.rb := Option.some.inj e; omega
      drow := fun b u hu => by
        obtain ⟨h1, h2, h3⟩ := h.drow b u hu
        refine ⟨h1, h2, fun q hq => ?_⟩
        show v.ownBlock ≠ some q
        rcases hv with hv | hv
        · rw [hv]; exact h3 q hq
        · rw [hv]
          intro e
          have := ((h.rows b u hu).lt q hq).2
          have := Option.some.inj e
          omega
      dtwo := h.dtwo }
/-- Behind an 'append' onto the steps. -/
theorem Sp.grownS {B : Nat} {W W' : World} {p : Nat} {s : SpS} (h : Sp B W p s) (hg : W.grownBy W' s.ssv.ownBlock) {v : Value} {S : List (Nat × Int)} (hS : W'.ownsRow B 99 2 v S.length (stepCells S)) :
    Sp B (W'.setCell ⟨p, 6, none⟩ v) p { s with ssv := v, ss := S } := by
  have K : ∀ (q : Nat) (cs : Array Value) (t : TypeId), t ≠ 99 → W.heap[q]? = some (Obj.cells cs t (0, 0)) → W'.heap[q]? = W.heap[q]? := fun q cs t ht hq => hg.block q (Array.getElem?_eq_some_iff.1 hq).1 (fun e => by
    obtain ⟨cs', hc'⟩ := stepkind h.steps e.symm
    exact heap_ne hq hc' ht rfl)
  obtain ⟨es, c, hm⟩ := h.map.isMap
  have Km : W'.heap[s.mb]? = W.heap[s.mb]? := hg.block _ h.map.lt (fun e => by
    obtain ⟨cs', hc'⟩ := stepkind h.steps e.symm
    exact heap_neM hc' hm rfl)
  have mp : s.mb ≠ p := fun e => heap_neM h.box hm e.symm
  have np : ∀ (q : Nat) (cs : Array Value) (t : TypeId), t ≠ 95 → W.heap[q]? = some (Obj.cells cs t (0, 0)) → q ≠ p := fun q cs t ht hq => heap_ne hq h.box ht
  have K2 : ∀ (q : Nat) (cs : Array Value), W.heap[q]? = some (Obj.cells cs 3 (0, 0)) → (W'.setCell ⟨p, 6, none⟩ v).heap[q]? = W.heap[q]? := fun q cs hq => (heap_set_other _ _ _ _ (np q cs _ (by decide) hq)).trans (K q cs _ (by decide) hq)
  have hp' : W'.heap[p]? = _ := (K p _ _ (by decide) h.box).trans h.box
  exact
    { box := by
        have := box_set hp' (j := 6) v
        simpa [SpS.lv, SpS.rv] using this
      map := h.map.kept ((heap_set_other _ _ _ _ mp).trans Km)
      rows := fun b u hu => (h.rows b u hu).kept fun q hq => by obtain ⟨cs, hc⟩ := (h.rows b u hu).kind hq; exact K2 q cs hc
      out := h.out
      left := h.left.kept fun q hq => by obtain ⟨cs, hc⟩ := h.left.kind hq; exact K2 q cs hc
      rest := h.rest.kept fun q hq => by obtain ⟨cs, hc⟩ := h.rest.kind hq; exact K2 q cs hc
      first := h.first.kept fun q hq => by obtain ⟨cs, hc⟩ := h.first.kind hq; exact K2 q cs hc
      steps := owns_kept hS fun q hq => heap_set_other _ _ _ _ (by obtain ⟨cs, hc⟩ := stepkind hS hq; exact heap_ne hc hp' (by decide))
      bp := h.bp, bm := h.bm, dlr := h.dlr, dfl := h.dfl, drow := h.drow, dtwo := h.dtwo }

/-- What the spread's cells hold. -/
theorem Sp.cells {B : Nat} {W : World} {p : Nat} {s : SpS} (h : Sp B W p s) : W.cell? ⟨p, 0, none⟩ = some (.map (some s.mb)) ∧ W.cell? ⟨p, 1, none⟩ = some s.lv ∧ W.cell? ⟨p, 2, none⟩ = some s.rv ∧ W.cell? ⟨p, 3, none⟩ = some s.fv ∧ W.cell? ⟨p, 4, none⟩ = some s.fsv ∧ W.cell? ⟨p, 5, none⟩ = some (.slice none 0 0) ∧ W.cell? ⟨p, 6, none⟩ = some s.ssv := by
  simp [World.cell?, h.box]
theorem Sp.frozen {B : Nat} {W : World} {p : Nat} {s : SpS} (h : Sp B W p s) (j : Nat) : W.frozen? ⟨p, j, none⟩ = false := by simp [World.frozen?, h.box]
theorem OwnZ.frozen {B n : Nat} {W : World} {b c : Nat} {l : List Int} (h : OwnZ B W (.slice (some ⟨b, 0, none⟩) n c) n l) (j : Nat) : W.frozen? ⟨b, j, none⟩ = false := by
  obtain ⟨cs, hc⟩ := h.kind (q := b) rfl
  simp [World.frozen?, hc]
theorem OwnZ.cell {B n : Nat} {W : World} {b c : Nat} {l : List Int} (h : OwnZ B W (.slice (some ⟨b, 0, none⟩) n c) n l) {e : Nat} {z : Int} (hz : l[e]? = some z) : W.cell? ⟨b, e, none⟩ = some (.int .i64 z) := by
  obtain ⟨b', off, eb, hc⟩ := zs_at h.zs (Below.refl _ _) hz
  injection eb with eb
  injection eb with e1 e2 _
  subst e1
  subst e2
  simpa using hc

end

section
/-
  spread: pop, next, leave.
-/
open Go.RowKit
set_option linter.unusedVariables false

/-- POP. -/
theorem pop_none (p j : Nat) (a : Option Addr) (c : Nat) (w : World) (hc : w.cell? ⟨p, j, none⟩ = some (.slice a 0 c)) :
    Calls Tryz.prog 82 #[.pointer (some ⟨p, j, none⟩)] w fun e w' => e = .returned (.tuple #[.int .i64 0, .bool false]) ∧ w' = w := by
  go_enter Tryz.func82, Tryz.ntmps82
  go_wp2
  go_ret2
  exact ⟨rfl, rfl⟩
theorem pop_some (p j : Nat) (a : Option Addr) (n c : Nat) (z : Int) (l : List Int) (w : World) (hc : w.cell? ⟨p, j, none⟩ = some (.slice a (n + 1) c)) (hf : w.frozen? ⟨p, j, none⟩ = false) (hz : Zs w (.slice a (n + 1) c) l) (hl : l[n]? = some z) :
    Calls Tryz.prog 82 #[.pointer (some ⟨p, j, none⟩)] w fun e w' => e = .returned (.tuple #[.int .i64 z, .bool true]) ∧ w' = w.setCell ⟨p, j, none⟩ (.slice a n c) := by
  obtain ⟨b, off, rfl, ci⟩ := zs_at hz (Below.refl _ _) hl
  obtain ⟨-, h2, h3⟩ := zs_len hz
  have sl : ∀ W, (Instr.slice 29 (.slice (some ⟨b, off, none⟩) (n + 1) c) none (some (.int .i64 (n : Int))) none).run Tryz.prog W = .ok (.slice (some ⟨b, off, none⟩) n c) W := fun W => slice_to_g (P := Tryz.prog) 29 (by kernel_rfl) 1 (by intro W; kernel_rfl) W (some ⟨b, off, none⟩) (n + 1) c n (by omega)
  have e1 : ((n + 1 : Nat) : Int) - 1 = (n : Int) := by omega
  have h0 : ¬ ((n : Int) < 0) := by omega
  clear hz hl
  go_enter Tryz.func82, Tryz.ntmps82
  go_wp2
  go_ret2
  exact ⟨rfl, rfl⟩

theorem fsv_shape {B n : Nat} {W : World} {v : Value} {l : List Int} (h : OwnZ B W v n l) : ∃ a c, v = .slice a n c := by
  obtain ⟨a, c, h1, -, -⟩ := owned_slice h
  exact ⟨a, c, h1⟩
/-- NEXT: there is none. -/
theorem next_none (B p : Nat) (s : SpS) (w : World) (hs : Sp B w p s) (hF : s.FF = []) :
    Calls Tryz.prog 67 #[.pointer (some ⟨p, 0, none⟩)] w fun e w' => e = .returned (.tuple #[.int .i64 0, .bool false]) ∧ w' = w := by
  obtain ⟨-, -, -, -, c4, c5, -⟩ := hs.cells
  have hf := hs.first
  rw [hF] at hf
  obtain ⟨a, c, e4⟩ := fsv_shape hf
  rw [e4] at c4
  go_enter Tryz.func67, Tryz.ntmps67
  go_wp2_with fail
  refine (pop_none p 4 a c w c4).mono ?_
  rintro e w' ⟨rfl, rfl⟩
  go_wp2_with fail
  refine (pop_none p 5 none 0 w' c5).mono ?_
  rintro e w' ⟨rfl, rfl⟩
  go_wp2
  go_ret2
  exact ⟨rfl, rfl⟩
/-- NEXT: the last one of the list. -/
theorem next_some (B p : Nat) (s : SpS) (w : World) (hs : Sp B w p s) (F : List Int) (z : Int) (hF : s.FF = F ++ [z]) :
    Calls Tryz.prog 67 #[.pointer (some ⟨p, 0, none⟩)] w fun e w' => e = .returned (.tuple #[.int .i64 z, .bool true]) ∧ (∃ v, Sp B w' p { s with fsv := v, FF := F }) ∧ Below B w w' := by
  obtain ⟨-, -, -, -, c4, -, -⟩ := hs.cells
  have hf := hs.first
  rw [hF, List.length_append, List.length_singleton] at hf
  obtain ⟨a, c, e4⟩ := fsv_shape hf
  have HS : Hid (Sp B w p s) := hs
  have HF : Hid (OwnZ B w (.slice a (F.length + 1) c) (F.length + 1) (F ++ [z])) := by rw [← e4]; exact hf
  have E4 : Hid (s.fsv = .slice a (F.length + 1) c) := e4
  rw [e4] at c4
  clear hf e4 hs hF
  go_enter Tryz.func67, Tryz.ntmps67
  go_wp2_with fail
  refine (pop_some p 4 a F.length c z (F ++ [z]) w c4 (HS.out.frozen 4) HF.out.zs (by simp)).mono ?_
  rintro e w' ⟨rfl, rfl⟩
  have R : Hid (Sp B (w.setCell ⟨p, 4, none⟩ (.slice a F.length c)) p { s with fsv := .slice a F.length c, FF := F }) := by
    refine HS.out.setFirst ?_ (.inl (by rw [E4.out]; cases a <;> rfl))
    have h1 := HF.out
    cases a with
    | none =>
      rcases h1.2 with ⟨-, h0⟩ | ⟨g, cap, cur, hv, -⟩
      · omega
      · cases hv
    | some ad =>
      have h2 : ad = ⟨ad.block, 0, none⟩ := by
        rcases h1.2 with ⟨h0, -⟩ | ⟨g, cap, cur, hv, -⟩
        · cases h0
        · injection hv with hv _ _
          injection hv with hv
          rw [hv]
      rw [h2] at h1 ⊢
      unfold OwnZ at h1 ⊢
      rw [List.map_append] at h1
      exact ownsRow_pop (by simp) h1
  have XB : Hid (Below B w (w.setCell ⟨p, 4, none⟩ (.slice a F.length c))) := (Below.refl B w).setCell HS.out.bp _
  clear HS HF E4 c4
  go_wp2
  go_ret2
  exact ⟨rfl, ⟨_, R.out⟩, XB.out⟩

set_option maxRecDepth 100000 in
set_option maxHeartbeats 1000000 in
/-- LEAVE: none is late. -/
theorem leave0 (Wb : World) (p m : Nat) (s : SpS) (e : Nat) (v : Int) (w : World) (hs : Sp Wb.heap.size w p s) (hb : Below Wb.heap.size Wb w) (hm : s.m = m) (he : e < m) (hfv : s.fv = .func (.func 41) #[] #[]) (hF : s.FF.length ≤ 1000000)
    (HL : ∀ (e : Nat) W, Below Wb.heap.size Wb W → e < m → Calls Tryz.prog 41 #[.int .i64 (e : Int)] W fun e w' => e = .returned (.bool false) ∧ Below W.heap.size W w') :
    Calls Tryz.prog 66 #[.pointer (some ⟨p, 0, none⟩), .int .i64 (e : Int), .int .i64 v] w fun e' w' => e' = .returned (.tuple #[]) ∧ (∃ u, Sp Wb.heap.size w' p { s with h := updN s.h e v, fsv := u, FF := if v = 1 then s.FF ++ [(e : Int)] else s.FF }) ∧ Below Wb.heap.size w w' := by
  have HS : Hid (Sp Wb.heap.size w p s) := hs
  have BB : Hid (Below Wb.heap.size Wb w) := hb
  have HM : Hid (s.m = m) := hm
  have HFV : Hid (s.fv = .func (.func 41) #[] #[]) := hfv
  have HFF : Hid (s.FF.length ≤ 1000000) := hF
  have LL : Hid (∀ (e : Nat) W, Below Wb.heap.size Wb W → e < m → Calls Tryz.prog 41 #[.int .i64 (e : Int)] W fun e w' => e = .returned (.bool false) ∧ Below W.heap.size W w') := HL
  obtain ⟨-, c1, -, -, -, -, -⟩ := hs.cells
  obtain ⟨lb, hlb⟩ : ∃ x, s.lb = x := ⟨_, rfl⟩
  have HB : Hid (s.lb = lb) := hlb
  have el : s.lv = .slice (some ⟨lb, 0, none⟩) m m := by rw [← hlb, ← hm]; rfl
  rw [el] at c1
  have ol := hs.left
  rw [el, hm] at ol
  have ce := ol.cell (tab_get s.h he)
  have fe := ol.frozen e
  have LB : Hid (Wb.heap.size ≤ lb) := (ol.lt lb rfl).1
  have S1 : Hid (Sp Wb.heap.size (w.setCell ⟨lb, e, none⟩ (.int .i64 v)) p { s with h := updN s.h e v }) := by rw [← hlb]; exact hs.setLeft (by rw [hm]; exact he) v
  have X1 : Hid (Below Wb.heap.size w (w.setCell ⟨lb, e, none⟩ (.int .i64 v))) := (Below.refl _ w).setCell LB.out _
  clear hs hb hm hfv hF HL ol el hlb
  go_enter Tryz.func66, Tryz.ntmps66
  go_upto_region 2 with fail
  obtain ⟨w1, hw1⟩ : ∃ x, w.setCell ⟨lb, e, none⟩ (.int .i64 v) = x := ⟨_, rfl⟩
  rw [hw1] at S1 X1 ⊢
  clear hw1 c1 ce fe
  by_cases hv1 : v = 1
  · subst hv1
    obtain ⟨-, -, -, c3, -, -, -⟩ := S1.out.cells
    have c3' : w1.cell? ⟨p, 3, none⟩ = some (.func (.func 41) #[] #[]) := by rw [c3]; exact congrArg some HFV.out
    clear c3
    go_wp2_with fail
    refine (LL.out e w1 (BB.out.trans X1.out) he).mono ?_
    rintro e' w2 ⟨rfl, hb⟩
    have S2 : Hid (Sp Wb.heap.size w2 p { s with h := updN s.h e 1 }) := S1.out.below hb
    have X2 : Hid (Below Wb.heap.size w w2) := X1.out.trans (hb.mono (BB.out.trans X1.out).size)
    have SB : Hid (Wb.heap.size ≤ w2.heap.size) := (BB.out.trans X2.out).size
    obtain ⟨-, -, -, -, c4, -, -⟩ := S2.out.cells
    have f4 := S2.out.frozen 4
    have c4' : w2.cell? ⟨p, 4, none⟩ = some s.fsv := c4
    have OA : Hid (OwnZ Wb.heap.size (w2.alloc (.cells #[.int .i64 (e : Int)] 3)) s.fsv s.FF.length s.FF) := S2.out.first.alloc _
    have SA : Hid (Wb.heap.size ≤ (w2.alloc (.cells #[.int .i64 (e : Int)] 3)).heap.size) := Nat.le_trans SB.out (below_alloc _ _).size
    have S3 : Hid (Sp Wb.heap.size (w2.alloc (.cells #[.int .i64 (e : Int)] 3)) p { s with h := updN s.h e 1 }) := S2.out.below (below_alloc _ _)
    have hFn : s.FF.length + 1 ≤ 1000000000 := by have := HFF.out; omega
    clear hb c4 S1 X1 c3'
    go_wp2_with (at_builtin; refine wpList_addZ _ rfl (.tmp 17) (.tmp 19) rfl Wb.heap.size s.fsv s.FF.length s.FF rfl OA.out _ 1 [(e : Int)] rfl (zs_one _ _ _) hFn SA.out ?_; intro a4 k4 w4 ho4 hg4 hat4 hnc4 hcm4; have kp4 : w4.cell? ⟨p, 4, none⟩ = some s.fsv ∧ w4.frozen? ⟨p, 4, none⟩ = false := (by
        have hblk : w4.heap[p]? = (w2.alloc (.cells #[.int .i64 (e : Int)] 3)).heap[p]? := hg4.block p S3.out.lt (fun e1 => by
          obtain ⟨cs, hc⟩ := S3.out.first.kind e1.symm
          exact heap_ne hc S3.out.box (by decide) rfl)
        exact ⟨(World.cell?_of_block (w := w2.alloc (.cells #[.int .i64 (e : Int)] 3)) hblk).trans S3.out.cells.2.2.2.2.1, (World.frozen?_of_block (w := w2.alloc (.cells #[.int .i64 (e : Int)] 3)) hblk).trans (S3.out.frozen 4)⟩); obtain ⟨k4a, k4b⟩ := kp4)
    have hF4 : OwnZ Wb.heap.size w4 (.slice a4 (s.FF.length + 1) k4) (s.FF ++ [(e : Int)]).length (s.FF ++ [(e : Int)]) := by
      rw [List.length_append, List.length_singleton]
      exact ho4
    have R : Hid (Sp Wb.heap.size (w4.setCell ⟨p, 4, none⟩ (.slice a4 (s.FF.length + 1) k4)) p { s with h := updN s.h e 1, fsv := .slice a4 (s.FF.length + 1) k4, FF := s.FF ++ [(e : Int)] }) := S3.out.grownF hg4 hF4 hat4
    have XE : Hid (Below Wb.heap.size w (w4.setCell ⟨p, 4, none⟩ (.slice a4 (s.FF.length + 1) k4))) := ((X2.out.alloc SB.out _).grown hg4 SA.out (fun k hk => (OA.out.lt k hk).1)).setCell HS.out.bp _
    first | go_ret | go_end0
    exact ⟨rfl, ⟨_, R.out⟩, XE.out⟩
  · have hv1' : (v == 1) = false := by simpa using hv1
    go_wp2
    first | go_ret | go_end0
    exact ⟨rfl, ⟨s.fsv, by first | exact S1.out | (rw [if_neg hv1]; exact S1.out)⟩, X1.out⟩

set_option maxRecDepth 100000 in
set_option maxHeartbeats 1000000 in
/-- LEAVE: none has another size. -/
theorem leave2 (p1 p2 : Value) (Wb : World) (p m : Nat) (s : SpS) (e : Nat) (v : Int) (w : World) (hs : Sp Wb.heap.size w p s) (hb : Below Wb.heap.size Wb w) (hm : s.m = m) (he : e < m) (hfv : s.fv = .func (.func 60) #[] #[p1, p2]) (hF : s.FF.length ≤ 1000000)
    (HL : ∀ (e : Nat) W, Below Wb.heap.size Wb W → e < m → Calls Tryz.prog 60 #[.int .i64 (e : Int), p1, p2] W fun e w' => e = .returned (.bool false) ∧ Below W.heap.size W w') :
    Calls Tryz.prog 66 #[.pointer (some ⟨p, 0, none⟩), .int .i64 (e : Int), .int .i64 v] w fun e' w' => e' = .returned (.tuple #[]) ∧ (∃ u, Sp Wb.heap.size w' p { s with h := updN s.h e v, fsv := u, FF := if v = 1 then s.FF ++ [(e : Int)] else s.FF }) ∧ Below Wb.heap.size w w' := by
  have HS : Hid (Sp Wb.heap.size w p s) := hs
  have BB : Hid (Below Wb.heap.size Wb w) := hb
  have HM : Hid (s.m = m) := hm
  have HFV : Hid (s.fv = .func (.func 60) #[] #[p1, p2]) := hfv
  have HFF : Hid (s.FF.length ≤ 1000000) := hF
  have LL : Hid (∀ (e : Nat) W, Below Wb.heap.size Wb W → e < m → Calls Tryz.prog 60 #[.int .i64 (e : Int), p1, p2] W fun e w' => e = .returned (.bool false) ∧ Below W.heap.size W w') := HL
  obtain ⟨-, c1, -, -, -, -, -⟩ := hs.cells
  obtain ⟨lb, hlb⟩ : ∃ x, s.lb = x := ⟨_, rfl⟩
  have HB : Hid (s.lb = lb) := hlb
  have el : s.lv = .slice (some ⟨lb, 0, none⟩) m m := by rw [← hlb, ← hm]; rfl
  rw [el] at c1
  have ol := hs.left
  rw [el, hm] at ol
  have ce := ol.cell (tab_get s.h he)
  have fe := ol.frozen e
  have LB : Hid (Wb.heap.size ≤ lb) := (ol.lt lb rfl).1
  have S1 : Hid (Sp Wb.heap.size (w.setCell ⟨lb, e, none⟩ (.int .i64 v)) p { s with h := updN s.h e v }) := by rw [← hlb]; exact hs.setLeft (by rw [hm]; exact he) v
  have X1 : Hid (Below Wb.heap.size w (w.setCell ⟨lb, e, none⟩ (.int .i64 v))) := (Below.refl _ w).setCell LB.out _
  clear hs hb hm hfv hF HL ol el hlb
  go_enter Tryz.func66, Tryz.ntmps66
  go_upto_region 2 with fail
  obtain ⟨w1, hw1⟩ : ∃ x, w.setCell ⟨lb, e, none⟩ (.int .i64 v) = x := ⟨_, rfl⟩
  rw [hw1] at S1 X1 ⊢
  clear hw1 c1 ce fe
  by_cases hv1 : v = 1
  · subst hv1
    obtain ⟨-, -, -, c3, -, -, -⟩ := S1.out.cells
    have c3' : w1.cell? ⟨p, 3, none⟩ = some (.func (.func 60) #[] #[p1, p2]) := by rw [c3]; exact congrArg some HFV.out
    clear c3
    go_wp2_with fail
    refine (LL.out e w1 (BB.out.trans X1.out) he).mono ?_
    rintro e' w2 ⟨rfl, hb⟩
    have S2 : Hid (Sp Wb.heap.size w2 p { s with h := updN s.h e 1 }) := S1.out.below hb
    have X2 : Hid (Below Wb.heap.size w w2) := X1.out.trans (hb.mono (BB.out.trans X1.out).size)
    have SB : Hid (Wb.heap.size ≤ w2.heap.size) := (BB.out.trans X2.out).size
    obtain ⟨-, -, -, -, c4, -, -⟩ := S2.out.cells
    have f4 := S2.out.frozen 4
    have c4' : w2.cell? ⟨p, 4, none⟩ = some s.fsv := c4
    have OA : Hid (OwnZ Wb.heap.size (w2.alloc (.cells #[.int .i64 (e : Int)] 3)) s.fsv s.FF.length s.FF) := S2.out.first.alloc _
    have SA : Hid (Wb.heap.size ≤ (w2.alloc (.cells #[.int .i64 (e : Int)] 3)).heap.size) := Nat.le_trans SB.out (below_alloc _ _).size
    have S3 : Hid (Sp Wb.heap.size (w2.alloc (.cells #[.int .i64 (e : Int)] 3)) p { s with h := updN s.h e 1 }) := S2.out.below (below_alloc _ _)
    have hFn : s.FF.length + 1 ≤ 1000000000 := by have := HFF.out; omega
    clear hb c4 S1 X1 c3'
    go_wp2_with (at_builtin; refine wpList_addZ _ rfl (.tmp 17) (.tmp 19) rfl Wb.heap.size s.fsv s.FF.length s.FF rfl OA.out _ 1 [(e : Int)] rfl (zs_one _ _ _) hFn SA.out ?_; intro a4 k4 w4 ho4 hg4 hat4 hnc4 hcm4; have kp4 : w4.cell? ⟨p, 4, none⟩ = some s.fsv ∧ w4.frozen? ⟨p, 4, none⟩ = false := (by
        have hblk : w4.heap[p]? = (w2.alloc (.cells #[.int .i64 (e : Int)] 3)).heap[p]? := hg4.block p S3.out.lt (fun e1 => by
          obtain ⟨cs, hc⟩ := S3.out.first.kind e1.symm
          exact heap_ne hc S3.out.box (by decide) rfl)
        exact ⟨(World.cell?_of_block (w := w2.alloc (.cells #[.int .i64 (e : Int)] 3)) hblk).trans S3.out.cells.2.2.2.2.1, (World.frozen?_of_block (w := w2.alloc (.cells #[.int .i64 (e : Int)] 3)) hblk).trans (S3.out.frozen 4)⟩); obtain ⟨k4a, k4b⟩ := kp4)
    have hF4 : OwnZ Wb.heap.size w4 (.slice a4 (s.FF.length + 1) k4) (s.FF ++ [(e : Int)]).length (s.FF ++ [(e : Int)]) := by
      rw [List.length_append, List.length_singleton]
      exact ho4
    have R : Hid (Sp Wb.heap.size (w4.setCell ⟨p, 4, none⟩ (.slice a4 (s.FF.length + 1) k4)) p { s with h := updN s.h e 1, fsv := .slice a4 (s.FF.length + 1) k4, FF := s.FF ++ [(e : Int)] }) := S3.out.grownF hg4 hF4 hat4
    have XE : Hid (Below Wb.heap.size w (w4.setCell ⟨p, 4, none⟩ (.slice a4 (s.FF.length + 1) k4))) := ((X2.out.alloc SB.out _).grown hg4 SA.out (fun k hk => (OA.out.lt k hk).1)).setCell HS.out.bp _
    first | go_ret | go_end0
    exact ⟨rfl, ⟨_, R.out⟩, XE.out⟩
  · have hv1' : (v == 1) = false := by simpa using hv1
    go_wp2
    first | go_ret | go_end0
    exact ⟨rfl, ⟨s.fsv, by first | exact S1.out | (rw [if_neg hv1]; exact S1.out)⟩, X1.out⟩

end

section
/-
  spread: follow.
-/
open Go.RowKit
set_option linter.unusedVariables false

theorem Tryz.infoStep : (Tryz.prog.info? 99).map (fun i => (i.zero, i.size, i.bytes)) = some (some (.agg #[.int .i64 0, .int .i64 0]), 2, 16) := by kernel_rfl
theorem wpList_addT (w : World) {ops : Array Oper} {rest : List Oper} {o : Oper} {a : Act} {Q : Exit → Act → World → Prop} (hgd : o.guard = none) (s x : Operand)
    (ho : o.op = .call { callee := .builtin .append, args := #[s, x], argTypes := #[93, 93] })
    (B : Nat) (v : Value) (n : Nat) (l : List (Nat × Int)) (hs : a.eval s = v) (hown : w.ownsRow B 99 2 v n (stepCells l))
    (xv : Value) (y : Nat × Int) (hx : a.eval x = xv) (hsrc : Sl 2 w xv 1 (stepCells [y]))
    (hlen : n + 1 ≤ 1000000000) (hbase : B ≤ w.heap.size)
    (h : ∀ ao cap w', w'.ownsRow B 99 2 (.slice ao (n + 1) cap) (n + 1) (stepCells (l ++ [y])) → w.grownBy w' v.ownBlock → wpList Tryz.prog ops Q rest (a.put o.dst (.slice ao (n + 1) cap)) w') : wpList Tryz.prog ops Q (o :: rest) a w := by
  obtain ⟨i, hi, hz, h1, h8⟩ := info_parts Tryz.infoStep
  refine wpList_app w hgd s x 93 ho B 99 i (.agg #[.int .i64 0, .int .i64 0]) 2 16 Tryz.underlying93 hi hz h1 h8 rfl (by decide) v n _ hs hown xv 1 _ hx hsrc (by intro u hu; simp [stepCells] at hu; rcases hu with rfl | rfl <;> rfl) (by unfold maxLen; omega) (by omega) hbase ?_
  intro ao cap w' h2 h3 h4 h5 h6 h7
  refine h ao cap w' ?_ h3
  rw [stepCells_snoc]
  have e : stepCells [y] = [.int .i64 (y.1 : Int), .int .i64 y.2] := by simp [stepCells]
  rw [← e]
  exact h2
theorem step_src (w : World) (e : Nat) (b : Int) : Sl 2 (w.alloc (.cells #[.int .i64 (e : Int), .int .i64 b] 99)) (.slice (some ⟨w.heap.size, 0, none⟩) 1 1) 1 (stepCells [(e, b)]) := by
  have e1 : stepCells [(e, b)] = (#[Value.int .i64 (e : Int), .int .i64 b] : Array Value).toList := by simp [stepCells]
  rw [e1]
  exact owned_slN (World.ownsRow_lit (base := 0) w #[.int .i64 (e : Int), .int .i64 b] 1 (Nat.zero_le _) (by simp [maxLen]) rfl)

theorem Tryz.zeroZs (w : World) : (zeroValue 29).run Tryz.prog w = .ok (.slice none 0 0) w := by kernel_rfl

def xorI (a b : Int) : Int := ((a.toNat ^^^ b.toNat : Nat) : Int)
theorem xorI_bits {a b : Int} (ha : 0 ≤ a ∧ a < 9223372036854775808) (hb : 0 ≤ b ∧ b < 9223372036854775808) : bits BinOp.xor IntKind.i64 a b = xorI a b := by
  obtain ⟨x, rfl⟩ := Int.eq_ofNat_of_zero_le ha.1
  obtain ⟨y, rfl⟩ := Int.eq_ofNat_of_zero_le hb.1
  rw [i64_xor x y (by omega) (by omega)]
  rfl
/-- What is left behind one block, as far as its equations were gone through. -/
def decH (h : Nat → Int) (L : List Int) : Nat → Int := fun e => if (e : Int) ∈ L then h e - 1 else h e
def decR (r : Nat → Int) (L : List Int) (b : Int) : Nat → Int := fun e => if (e : Int) ∈ L then xorI (r e) b else r e
def newF (h : Nat → Int) (L : List Int) : List Int := L.filter fun x => decide (h x.toNat = 2)
theorem decH_next {h : Nat → Int} {L : List Int} (hN : L.Nodup) {j e : Nat} (hj : L[j]? = some (e : Int)) : updN (decH h (L.take j)) e (h e - 1) = decH h (L.take (j + 1)) := by
  obtain ⟨hi, he⟩ := List.getElem?_eq_some_iff.1 hj
  funext x
  unfold updN decH
  rw [List.take_succ_eq_append_getElem hi, he]
  by_cases hx : x = e
  · subst hx; simp
  · have : (x : Int) ≠ (e : Int) := by omega
    simp [hx, this]
theorem decR_next {r : Nat → Int} {L : List Int} {b : Int} (hN : L.Nodup) {j e : Nat} (hj : L[j]? = some (e : Int)) : updN (decR r (L.take j) b) e (xorI (r e) b) = decR r (L.take (j + 1)) b := by
  obtain ⟨hi, he⟩ := List.getElem?_eq_some_iff.1 hj
  funext x
  unfold updN decR
  rw [List.take_succ_eq_append_getElem hi, he]
  by_cases hx : x = e
  · subst hx; simp
  · have : (x : Int) ≠ (e : Int) := by omega
    simp [hx, this]
theorem not_taken {L : List Int} (hN : L.Nodup) {j : Nat} {x : Int} (hj : L[j]? = some x) : x ∉ L.take j := by
  intro hm
  obtain ⟨i, hi⟩ := List.mem_iff_getElem?.1 hm
  rw [List.getElem?_take] at hi
  split at hi
  · rename_i hlt
    obtain ⟨h1, h2⟩ := List.getElem?_eq_some_iff.1 hi
    obtain ⟨h3, h4⟩ := List.getElem?_eq_some_iff.1 hj
    have := (List.nodup_iff_pairwise_ne.1 hN)
    rw [List.pairwise_iff_getElem] at this
    exact this i j h1 h3 hlt (by rw [h2, h4])
  · cases hi
theorem newF_next {h : Nat → Int} {L : List Int} {j e : Nat} (hj : L[j]? = some (e : Int)) : newF h (L.take (j + 1)) = newF h (L.take j) ++ (if h e - 1 = 1 then [(e : Int)] else []) := by
  obtain ⟨hi, he⟩ := List.getElem?_eq_some_iff.1 hj
  unfold newF
  rw [List.take_succ_eq_append_getElem hi, List.filter_append, he]
  congr 1
  by_cases h2 : h e = 2
  · have : h e - 1 = 1 := by omega
    simp [h2]
  · have : ¬ h e - 1 = 1 := by omega
    simp [h2, this]
theorem newF_le (h : Nat → Int) (L : List Int) (j : Nat) : (newF h (L.take j)).length ≤ j := by
  unfold newF
  have h1 := List.length_filter_le (fun x : Int => decide (h x.toNat = 2)) (L.take j)
  have h2 := List.length_take_le j L
  omega

/-- LEAVE, at whatever function. -/
def LeaveOk (Wb : World) (p m : Nat) (FV : Value) : Prop := ∀ (e : Nat) (v : Int) (s : SpS) (w : World), Sp Wb.heap.size w p s → Below Wb.heap.size Wb w → s.m = m → e < m → s.fv = FV → s.FF.length ≤ 1000000 →
  Calls Tryz.prog 66 #[.pointer (some ⟨p, 0, none⟩), .int .i64 (e : Int), .int .i64 v] w fun e' w' => e' = .returned (.tuple #[]) ∧ (∃ u, Sp Wb.heap.size w' p { s with h := updN s.h e v, fsv := u, FF := if v = 1 then s.FF ++ [(e : Int)] else s.FF }) ∧ Below Wb.heap.size w w'

set_option maxRecDepth 100000 in
set_option maxHeartbeats 2000000 in
/-- FOLLOW. -/
theorem follow_any (Wb : World) (p m : Nat) (FV : Value) (s : SpS) (q : Nat) (b : Int) (w : World) (hs : Sp Wb.heap.size w p s) (hb : Below Wb.heap.size Wb w) (hm : s.m = m) (hq : q < m) (hfv : s.fv = FV) (LV : LeaveOk Wb p m FV)
    (hr : ∀ e, e < m → 0 ≤ s.r e ∧ s.r e < 9223372036854775808) (hh : ∀ e, e < m → 0 ≤ s.h e ∧ s.h e ≤ 1000000) (hbq : s.r q = b) (hL : ∀ x ∈ s.G b, ∃ e : Nat, x = e ∧ e < m) (hN : (s.G b).Nodup) (hlen : s.FF.length + (s.G b).length ≤ 1000000) (hsl : s.ss.length ≤ 1000000) :
    Calls Tryz.prog 68 #[.pointer (some ⟨p, 0, none⟩), .int .i64 (q : Int)] w fun e' w' => e' = .returned (.tuple #[]) ∧ (∃ u u', Sp Wb.heap.size w' p { s with h := decH s.h (s.G b), r := decR s.r (s.G b) b, fsv := u, FF := s.FF ++ newF s.h (s.G b), ssv := u', ss := s.ss ++ [(q, b)] }) ∧ Below Wb.heap.size w w' := by
  have hb0 := hr q hq
  rw [hbq] at hb0
  have wb : (Lit.int .i64 b).wf = true := wf_i64 (by omega) hb0.2
  have HS : Hid (Sp Wb.heap.size w p s) := hs
  have BB : Hid (Below Wb.heap.size Wb w) := hb
  have LVH : Hid (LeaveOk Wb p m FV) := LV
  have HR : Hid (∀ e, e < m → 0 ≤ s.r e ∧ s.r e < 9223372036854775808) := hr
  have HH : Hid (∀ e, e < m → 0 ≤ s.h e ∧ s.h e ≤ 1000000) := hh
  have HLL : Hid (∀ x ∈ s.G b, ∃ e : Nat, x = e ∧ e < m) := hL
  have HN : Hid ((s.G b).Nodup) := hN
  have HM : Hid (s.m = m) := hm
  have HFV : Hid (s.fv = FV) := hfv
  have HLE : Hid (s.FF.length + (s.G b).length ≤ 1000000) := hlen
  obtain ⟨-, -, c2, -, -, -, c6⟩ := hs.cells
  obtain ⟨rb, hrb⟩ : ∃ x, s.rb = x := ⟨_, rfl⟩
  have er : s.rv = .slice (some ⟨rb, 0, none⟩) m m := by rw [← hrb, ← hm]; rfl
  rw [er] at c2
  have or := hs.rest
  rw [er, hm] at or
  have cq := or.cell (tab_get s.r hq)
  rw [hbq] at cq
  have f6 := hs.frozen 6
  have OA : Hid ((w.alloc (.cells #[.int .i64 (q : Int), .int .i64 b] 99)).ownsRow Wb.heap.size 99 2 s.ssv s.ss.length (stepCells s.ss)) := (hs.below (below_alloc _ _)).steps
  have SA : Hid (Wb.heap.size ≤ (w.alloc (.cells #[.int .i64 (q : Int), .int .i64 b] 99)).heap.size) := Nat.le_trans hb.size (below_alloc _ _).size
  have S3 : Hid (Sp Wb.heap.size (w.alloc (.cells #[.int .i64 (q : Int), .int .i64 b] 99)) p s) := hs.below (below_alloc _ _)
  have hsl' : s.ss.length + 1 ≤ 1000000000 := by omega
  obtain ⟨L, hLg⟩ : ∃ L, s.G b = L := ⟨_, rfl⟩
  rw [hLg] at HLL HN HLE ⊢
  have HG : Hid (s.G b = L) := hLg
  clear hs hb LV hr hh hL hN hm hfv hlen or er hbq hrb hLg
  go_enter Tryz.func68, Tryz.ntmps68
  go_upto_region 2 with (at_builtin; refine wpList_addT _ rfl (.tmp 18) (.tmp 22) rfl Wb.heap.size s.ssv s.ss.length s.ss rfl OA.out _ (q, b) rfl (step_src w q b) hsl' SA.out ?_; intro a4 k4 w4 ho4 hg4; have kp4 : w4.cell? ⟨p, 6, none⟩ = some s.ssv ∧ w4.frozen? ⟨p, 6, none⟩ = false := (by
        have hblk : w4.heap[p]? = (w.alloc (.cells #[.int .i64 (q : Int), .int .i64 b] 99)).heap[p]? := hg4.block p S3.out.lt (fun e1 => by
          obtain ⟨cs, hc⟩ := stepkind S3.out.steps e1.symm
          exact heap_ne hc S3.out.box (by decide) rfl)
        exact ⟨(World.cell?_of_block (w := w.alloc (.cells #[.int .i64 (q : Int), .int .i64 b] 99)) hblk).trans S3.out.cells.2.2.2.2.2.2, (World.frozen?_of_block (w := w.alloc (.cells #[.int .i64 (q : Int), .int .i64 b] 99)) hblk).trans (S3.out.frozen 6)⟩); obtain ⟨k4a, k4b⟩ := kp4)
  have hS4 : w4.ownsRow Wb.heap.size 99 2 (.slice a4 (s.ss.length + 1) k4) (s.ss ++ [(q, b)]).length (stepCells (s.ss ++ [(q, b)])) := by
    rw [List.length_append, List.length_singleton]
    exact ho4
  have S5 : Hid (Sp Wb.heap.size (w4.setCell ⟨p, 6, none⟩ (.slice a4 (s.ss.length + 1) k4)) p { s with ssv := .slice a4 (s.ss.length + 1) k4, ss := s.ss ++ [(q, b)] }) := S3.out.grownS hg4 hS4
  have X5 : Hid (Below Wb.heap.size w (w4.setCell ⟨p, 6, none⟩ (.slice a4 (s.ss.length + 1) k4))) := ((((Below.refl _ w).alloc BB.out.size _).grown hg4 SA.out (fun k hk => (World.ownsRow.lt OA.out k hk).1)).setCell HS.out.bp _)
  obtain ⟨w5, hw5⟩ : ∃ x, w4.setCell ⟨p, 6, none⟩ (.slice a4 (s.ss.length + 1) k4) = x := ⟨_, rfl⟩
  rw [hw5] at S5 X5 ⊢
  obtain ⟨u', hu'⟩ : ∃ x, Value.slice a4 (s.ss.length + 1) k4 = x := ⟨_, rfl⟩
  rw [hu'] at S5
  clear hw5 ho4 hg4 hS4 k4a k4b c2 c6 cq f6 OA SA S3 hu'
  obtain ⟨v0, hv0⟩ : ∃ v0, (s.f b).getD (.slice none 0 0) = v0 := ⟨_, rfl⟩
  have LK : (Instr.lookup 91 (.map (some s.mb)) (.int .i64 b) false).run Tryz.prog w5 = .ok v0 w5 := by rw [← hv0]; exact S5.out.map.look Tryz.underlying91 (Tryz.zeroZs w5) wb
  have RW : Hid (∀ W s', Sp Wb.heap.size W p s' → s'.f = s.f → s'.G = s.G → Zs W v0 L) := by
    intro W s' h' hf hg
    rw [← hv0, ← HG.out]
    cases hfb : s.f b with
    | none =>
      have h1 := h'.out b (by rw [hf]; exact hfb)
      rw [hg] at h1
      rw [h1]
      exact (OwnZ.nil 0 W).zs
    | some v =>
      have h1 := h'.rows b v (by rw [hf]; exact hfb)
      rw [hg] at h1
      exact h1.zs
  have Z5 := RW.out w5 _ S5.out rfl rfl
  obtain ⟨la, lc, rfl, hl2, hl3⟩ := zs_shape Z5
  obtain ⟨n, hn⟩ : ∃ n, L.length = n := ⟨_, rfl⟩
  have Hn : Hid (L.length = n) := hn
  rw [hn] at LK RW hl2
  obtain ⟨c0, -, -, -, -, -, -⟩ := S5.out.cells
  have c0' : w5.cell? ⟨p, 0, none⟩ = some (.map (some s.mb)) := c0
  clear Z5 hv0 hn wb c0
  go_wp2
  clear LK c0'
  go_loopw [33] (fun iv wr => ∃ (j : Nat) (u : Value), j ≤ n ∧ iv = .int .i64 j ∧ Hid (Sp Wb.heap.size wr p { s with h := decH s.h (L.take j), r := decR s.r (L.take j) b, fsv := u, FF := s.FF ++ newF s.h (L.take j), ssv := u', ss := s.ss ++ [(q, b)] }) ∧ Hid (Below Wb.heap.size w wr)) (fun iv _ => n - (intOf iv).toNat)
  case atStart =>
    refine ⟨0, s.fsv, by omega, rfl, ?_, X5⟩
    have e1 : decH s.h (L.take 0) = s.h := by funext x; simp [decH]
    have e2 : decR s.r (L.take 0) b = s.r := by funext x; simp [decR]
    have e3 : newF s.h (L.take 0) = [] := by simp [newF]
    unfold Hid
    rw [e1, e2, e3, List.append_nil]
    exact S5.out
  case round =>
    clear S5 X5
    obtain ⟨j, u, hj, rfl, SS, XX⟩ := hrel
    by_cases hlt : j < n
    · obtain ⟨x0, hx0⟩ : ∃ x, L[j]? = some x := ⟨_, List.getElem?_eq_getElem (by rw [Hn.out]; exact hlt)⟩
      obtain ⟨e, rfl, he⟩ := HLL.out x0 (List.mem_of_getElem? hx0)
      have HX : Hid (L[j]? = some (e : Int)) := hx0
      have hne := not_taken HN.out hx0
      have Z0 := RW.out wr _ SS.out rfl rfl
      obtain ⟨bl, off, rfl, ci⟩ := zs_at Z0 (Below.refl _ _) hx0
      obtain ⟨x, hx⟩ : ∃ x, s.r e = x := ⟨_, rfl⟩
      obtain ⟨z, hz⟩ : ∃ z, s.h e = z := ⟨_, rfl⟩
      have hxb := HR.out e he
      rw [hx] at hxb
      obtain ⟨hz0, hz1⟩ := HH.out e he
      rw [hz] at hz0 hz1
      obtain ⟨y, hy⟩ : ∃ y, xorI x b = y := ⟨_, rfl⟩
      have ex : bits BinOp.xor IntKind.i64 x b = y := by rw [← hy]; exact xorI_bits hxb hb0
      obtain ⟨-, -, c2, -, -, -, -⟩ := SS.out.cells
      have c2' : wr.cell? ⟨p, 2, none⟩ = some (.slice (some ⟨s.rb, 0, none⟩) m m) := by rw [c2]; show some (Value.slice (some ⟨s.rb, 0, none⟩) s.m s.m) = _; rw [HM.out]
      have or : OwnZ Wb.heap.size wr (.slice (some ⟨s.rb, 0, none⟩) m m) m (tabZ m (decR s.r (L.take j) b)) := by
        have h1 := SS.out.rest
        have h2 : ({ s with h := decH s.h (L.take j), r := decR s.r (L.take j) b, fsv := u, FF := s.FF ++ newF s.h (L.take j), ssv := u', ss := s.ss ++ [(q, b)] } : SpS).rv = .slice (some ⟨s.rb, 0, none⟩) s.m s.m := rfl
        rw [h2] at h1
        have h3 := HM.out
        simp only [] at h1
        rw [h3] at h1
        exact h1
      have cr := or.cell (tab_get (decR s.r (L.take j) b) he)
      have fr := or.frozen e
      have e1 : decR s.r (L.take j) b e = x := by unfold decR; rw [if_neg hne, hx]
      rw [e1] at cr
      have RBB : Hid (Wb.heap.size ≤ s.rb) := (or.lt s.rb rfl).1
      have SR := SS.out.setRest (e := e) (by show e < s.m; rw [HM.out]; exact he) y
      clear c2 or hx0
      go_upto_region 6 with fail
      have SR' : Hid (Sp Wb.heap.size (wr.setCell ⟨s.rb, e, none⟩ (.int .i64 y)) p { s with h := decH s.h (L.take j), r := updN (decR s.r (L.take j) b) e y, fsv := u, FF := s.FF ++ newF s.h (L.take j), ssv := u', ss := s.ss ++ [(q, b)] }) := SR
      have XR : Hid (Below Wb.heap.size w (wr.setCell ⟨s.rb, e, none⟩ (.int .i64 y))) := XX.out.setCell RBB.out _
      obtain ⟨w6, hw6⟩ : ∃ x, wr.setCell ⟨s.rb, e, none⟩ (.int .i64 y) = x := ⟨_, rfl⟩
      rw [hw6] at SR' XR ⊢
      clear SR hw6 c2' cr fr ci SS XX
      obtain ⟨-, c1, -, -, -, -, -⟩ := SR'.out.cells
      have c1' : w6.cell? ⟨p, 1, none⟩ = some (.slice (some ⟨s.lb, 0, none⟩) m m) := by rw [c1]; show some (Value.slice (some ⟨s.lb, 0, none⟩) s.m s.m) = _; rw [HM.out]
      have ol : OwnZ Wb.heap.size w6 (.slice (some ⟨s.lb, 0, none⟩) m m) m (tabZ m (decH s.h (L.take j))) := by
        have h1 := SR'.out.left
        have h2 : ({ s with h := decH s.h (L.take j), r := updN (decR s.r (L.take j) b) e y, fsv := u, FF := s.FF ++ newF s.h (L.take j), ssv := u', ss := s.ss ++ [(q, b)] } : SpS).lv = .slice (some ⟨s.lb, 0, none⟩) s.m s.m := rfl
        rw [h2] at h1
        have h3 := HM.out
        simp only [] at h1
        rw [h3] at h1
        exact h1
      have cl := ol.cell (tab_get (decH s.h (L.take j)) he)
      have e2 : decH s.h (L.take j) e = z := by unfold decH; rw [if_neg hne, hz]
      rw [e2] at cl
      have FL : Hid ((s.FF ++ newF s.h (L.take j)).length ≤ 1000000) := by
        have h1 := newF_le s.h L j
        have h2 := HLE.out
        have h3 := Hn.out
        unfold Hid
        rw [List.length_append]
        omega
      clear c1 ol
      go_wp2_with fail
      refine (LVH.out e (z - 1) _ w6 SR'.out (BB.out.trans XR.out) HM.out he HFV.out FL.out).mono ?_
      rintro e' w7 ⟨rfl, ⟨u2, S7⟩, X7⟩
      have S8 : Hid (Sp Wb.heap.size w7 p { s with h := decH s.h (L.take (j + 1)), r := decR s.r (L.take (j + 1)) b, fsv := u2, FF := s.FF ++ newF s.h (L.take (j + 1)), ssv := u', ss := s.ss ++ [(q, b)] }) := by
        have h1 := decH_next (h := s.h) HN.out HX.out
        have h2 := decR_next (r := s.r) (b := b) HN.out HX.out
        have h3 := newF_next (h := s.h) HX.out
        rw [hz] at h1 h3
        rw [hx, hy] at h2
        unfold Hid
        rw [← h1, ← h2, h3]
        by_cases hz2 : z - 1 = 1
        · rw [if_pos hz2] at S7 ⊢
          rw [← List.append_assoc]
          exact S7
        · rw [if_neg hz2] at S7 ⊢
          rw [List.append_nil]
          exact S7
      have X8 : Hid (Below Wb.heap.size w w7) := XR.out.trans X7
      clear S7 X7 SR' XR c1' cl FL
      go_wp2
      go_roundw
      case rel => exact ⟨j + 1, u2, by omega, by go_num, S8, X8⟩
      case measure => simp [intOf]; omega
    · obtain rfl : n = j := by omega
      have eL : L.take n = L := List.take_of_length_le (by rw [Hn.out]; exact Nat.le_refl _)
      have R : Hid (Sp Wb.heap.size wr p { s with h := decH s.h L, r := decR s.r L b, fsv := u, FF := s.FF ++ newF s.h L, ssv := u', ss := s.ss ++ [(q, b)] }) := by
        have h1 := SS.out
        rw [eL] at h1
        exact h1
      clear SS eL
      go_wp2
      first | go_ret | go_end0
      exact ⟨rfl, ⟨u, u', R.out⟩, XX.out⟩

end

section
/-
  spreadOf: what its loops keep.
-/
open Go.RowKit
set_option linter.unusedVariables false

def kn (s : SpS) : List Int := s.ss.map Prod.snd
def cnt2 (m : Nat) (h : Nat → Int) : Nat := (List.range m).countP fun e => decide (2 ≤ h e)
structure Run (fl : List (List Int)) (FV : Value) (s : SpS) : Prop where
  m : s.m = fl.length
  fv : s.fv = FV
  G : ∀ b, s.G b = inAll fl b
  h : ∀ e l, fl[e]? = some l → s.h e = ((leftZ (kn s) l).length : Int)
  r : ∀ e l, fl[e]? = some l → s.r e = ((xorN (leftZ (kn s) l) : Nat) : Int)
  d : Deriv fl s.ss
  F : ∀ e, e < fl.length → s.h e = 1 → (e : Int) ∈ s.FF
  N : ∀ x ∈ s.FF, ∃ e : Nat, x = e ∧ e < fl.length
  len : s.ss.length + s.FF.length + 2 * cnt2 fl.length s.h ≤ 3 * fl.length

theorem count_two {l : List Nat} {p q r : Nat → Bool} (h : ∀ e ∈ l, (p e = true → r e = true) ∧ (q e = true → r e = true) ∧ ¬ (p e = true ∧ q e = true)) : l.countP p + l.countP q ≤ l.countP r := by
  induction l with
  | nil => simp
  | cons x l ih =>
    have h1 := ih (fun e he => h e (List.mem_cons_of_mem _ he))
    obtain ⟨h2, h3, h4⟩ := h x (List.mem_cons_self ..)
    rw [List.countP_cons, List.countP_cons, List.countP_cons]
    cases hp : p x <;> cases hq : q x <;> cases hr : r x <;> simp_all <;> omega
theorem newF_len (fl : List (List Int)) (b : Int) (h : Nat → Int) : (newF h (inAll fl b)).length = (List.range fl.length).countP fun e => decide (b ∈ fl.getD e []) && decide (h e = 2) := by
  unfold newF inAll
  rw [List.filter_map, List.length_map, List.countP_eq_length_filter, List.filter_filter]
  congr 1
  refine List.filter_congr fun e _ => ?_
  simp [Function.comp, Bool.and_comm]
theorem cnt2_step (fl : List (List Int)) (b : Int) (h : Nat → Int) : cnt2 fl.length (decH h (inAll fl b)) + (newF h (inAll fl b)).length ≤ cnt2 fl.length h := by
  rw [newF_len]
  unfold cnt2
  refine count_two fun e he => ?_
  have hlt := List.mem_range.1 he
  obtain ⟨l, hl⟩ : ∃ l, fl[e]? = some l := ⟨_, List.getElem?_eq_getElem hlt⟩
  have hm := inAll_mem (b := b) hl
  have hd : fl.getD e [] = l := by simp [List.getD, hl]
  rw [hd]
  unfold decH
  by_cases hb : b ∈ l
  · rw [if_pos (hm.2 hb)]
    simp only [decide_eq_true_eq, Bool.and_eq_true]
    refine ⟨fun h1 => by omega, fun h1 => by omega, fun h1 => by omega⟩
  · rw [if_neg (fun h => hb (hm.1 h))]
    simp only [decide_eq_true_eq, Bool.and_eq_true]
    exact ⟨fun h1 => h1, fun h1 => absurd h1.1 hb, fun h1 => hb h1.2.1⟩

/-- An equation is passed by. -/
theorem Run.pass {fl : List (List Int)} {FV : Value} {s : SpS} (R : Run fl FV s) {F : List Int} {q : Nat} (hF : s.FF = F ++ [(q : Int)]) (hq : s.h q ≠ 1) (v : Value) : Run fl FV { s with fsv := v, FF := F } :=
  { m := R.m, fv := R.fv, G := R.G, h := R.h, r := R.r, d := R.d
    F := fun e he h1 => by
      have h2 := R.F e he h1
      rw [hF] at h2
      rcases List.mem_append.1 h2 with h2 | h2
      · exact h2
      · have e1 := List.mem_singleton.1 h2
        have e2 : e = q := by omega
        subst e2
        exact absurd h1 hq
    N := fun x hx => R.N x (by rw [hF]; exact List.mem_append_left _ hx)
    len := by
      have := R.len
      rw [hF, List.length_append, List.length_singleton] at this
      show s.ss.length + F.length + 2 * cnt2 fl.length s.h ≤ _
      omega }
/-- Its last block follows. -/
theorem Run.last {fl : List (List Int)} {FV : Value} {s : SpS} (R : Run fl FV s) (hN : ∀ l ∈ fl, ∀ x ∈ l, 0 ≤ x) {q : Nat} (hq : q < fl.length) (h1 : s.h q = 1) : ∃ (b : Int) (l : List Int), fl[q]? = some l ∧ leftZ (kn s) l = [b] ∧ s.r q = b ∧ 0 ≤ b ∧ b ∈ l ∧ b ∉ kn s := by
  obtain ⟨l, hl⟩ : ∃ l, fl[q]? = some l := ⟨_, List.getElem?_eq_getElem hq⟩
  have h2 := R.h q l hl
  have h3 := R.r q l hl
  rw [h1] at h2
  obtain ⟨b, hb⟩ : ∃ b, leftZ (kn s) l = [b] := List.length_eq_one_iff.1 (by omega)
  have hm : b ∈ leftZ (kn s) l := by rw [hb]; simp
  obtain ⟨hm1, hm2⟩ := leftZ_mem.1 hm
  have h0 := hN l (List.mem_of_getElem? hl) b hm1
  refine ⟨b, l, hl, hb, ?_, h0, hm1, hm2⟩
  rw [h3, hb]
  simp [xorN]
  omega
theorem Run.follow {fl : List (List Int)} {FV : Value} {s : SpS} (R : Run fl FV s) (hN : ∀ l ∈ fl, l.Nodup) (hN0 : ∀ l ∈ fl, ∀ x ∈ l, 0 ≤ x) {F : List Int} {q : Nat} (hF : s.FF = F ++ [(q : Int)]) (hq : q < fl.length) (h1 : s.h q = 1) {b : Int} (hb : s.r q = b) (u u' : Value) :
    Run fl FV { s with h := decH s.h (s.G b), r := decR s.r (s.G b) b, fsv := u, FF := F ++ newF s.h (s.G b), ssv := u', ss := s.ss ++ [(q, b)] } := by
  obtain ⟨b', l, hl, hL, hr, h0, hbl, hbk⟩ := R.last hN0 hq h1
  have e0 : b' = b := by rw [← hr, hb]
  subst e0
  have hK : ({ s with h := decH s.h (s.G b'), r := decR s.r (s.G b') b', fsv := u, FF := F ++ newF s.h (s.G b'), ssv := u', ss := s.ss ++ [(q, b')] } : SpS).ss.map Prod.snd = kn s ++ [b'] := by simp [kn]
  have hh : ∀ e l, fl[e]? = some l → decH s.h (s.G b') e = ((leftZ (kn s ++ [b']) l).length : Int) := by
    intro e l' hl'
    unfold decH
    rw [R.G, R.h e l' hl']
    by_cases hm : b' ∈ l'
    · rw [if_pos ((inAll_mem hl').2 hm)]
      have := (leftZ_step (hN l' (List.mem_of_getElem? hl')) hm hbk).length_eq
      rw [List.length_cons] at this
      omega
    · rw [if_neg (fun h => hm ((inAll_mem hl').1 h)), leftZ_out hm]
  refine
    { m := R.m, fv := R.fv, G := R.G
      h := fun e l' hl' => by
        show decH s.h (s.G b') e = _
        rw [hh e l' hl']
        unfold kn
        rw [hK]
        rfl
      r := fun e l' hl' => ?_
      d := R.d.snoc hl hL
      F := fun e he h2 => ?_
      N := fun x hx => ?_
      len := ?_ }
  · show decR s.r (s.G b') b' e = ((xorN (leftZ ((s.ss ++ [(q, b')]).map Prod.snd) l') : Nat) : Int)
    have hkn : (s.ss ++ [(q, b')]).map Prod.snd = kn s ++ [b'] := by simp [kn]
    rw [hkn]
    unfold decR
    rw [R.G, R.r e l' hl']
    by_cases hm : b' ∈ l'
    · rw [if_pos ((inAll_mem hl').2 hm)]
      have := xorN_perm (leftZ_step (hN l' (List.mem_of_getElem? hl')) hm hbk)
      rw [this, xorN_cons]
      unfold xorI
      have e1 : ((b'.toNat ^^^ xorN (leftZ (kn s ++ [b']) l') : Nat) : Int).toNat = b'.toNat ^^^ xorN (leftZ (kn s ++ [b']) l') := Int.toNat_natCast _
      rw [e1, Nat.xor_comm b'.toNat, Nat.xor_assoc, Nat.xor_self, Nat.xor_zero]
    · rw [if_neg (fun h => hm ((inAll_mem hl').1 h)), leftZ_out hm]
  · show (e : Int) ∈ F ++ newF s.h (s.G b')
    have h2' : decH s.h (s.G b') e = 1 := h2
    unfold decH at h2'
    by_cases hm : (e : Int) ∈ s.G b'
    · rw [if_pos hm] at h2'
      refine List.mem_append_right _ (List.mem_filter.2 ⟨hm, ?_⟩)
      simp
      omega
    · rw [if_neg hm] at h2'
      refine List.mem_append_left _ ?_
      have h3 := R.F e he h2'
      rw [hF] at h3
      rcases List.mem_append.1 h3 with h3 | h3
      · exact h3
      · exfalso
        have e1 := List.mem_singleton.1 h3
        have e2 : e = q := by omega
        subst e2
        exact hm (by rw [R.G]; exact (inAll_mem hl).2 hbl)
  · rcases List.mem_append.1 hx with hx | hx
    · exact R.N x (by rw [hF]; exact List.mem_append_left _ hx)
    · have hx' := (List.mem_filter.1 hx).1
      rw [R.G] at hx'
      exact inAll_nat hx'
  · have h3 := R.len
    have h4 := cnt2_step fl b' s.h
    rw [hF, List.length_append, List.length_singleton] at h3
    show (s.ss ++ [(q, b')]).length + (F ++ newF s.h (s.G b')).length + 2 * cnt2 fl.length (decH s.h (s.G b')) ≤ _
    rw [R.G, List.length_append, List.length_append, List.length_singleton]
    omega
/-- There is nothing to be looked at any more. -/
theorem Run.done {fl : List (List Int)} {FV : Value} {s : SpS} (R : Run fl FV s) (hF : s.FF = []) : Done fl (kn s) := by
  intro l hl h1
  obtain ⟨e, he⟩ := List.mem_iff_getElem?.1 hl
  have h2 := R.h e l he
  have h3 := R.F e (List.getElem?_eq_some_iff.1 he).1 (by rw [h2, h1]; rfl)
  rw [hF] at h3
  cases h3

end

section
/-
  Whether equations agree: what is reckoned.
-/
open Go.RowKit
set_option linter.unusedVariables false

/-- An equation: its blocks and its value. -/
abbrev EqP := List Int × List UInt8
def knZ (K l : List Int) : List Int := l.filter fun x => decide (x ∈ K)
theorem knZ_mem {K l : List Int} {x : Int} : x ∈ knZ K l ↔ x ∈ l ∧ x ∈ K := by simp [knZ]
theorem knZ_take {K l : List Int} {i : Nat} {z : Int} (h : l[i]? = some z) : knZ K (l.take (i + 1)) = knZ K (l.take i) ++ (if z ∈ K then [z] else []) := by
  obtain ⟨hi, e⟩ := List.getElem?_eq_some_iff.1 h
  unfold knZ
  rw [List.take_succ_eq_append_getElem hi, e, List.filter_append]
  congr 1
  by_cases hz : z ∈ K <;> simp [hz]
theorem knZ_congr {K K' l : List Int} (h : ∀ x ∈ l, (x ∈ K ↔ x ∈ K')) : knZ K l = knZ K' l := by
  unfold knZ
  refine List.filter_congr fun x hx => ?_
  have := h x hx
  by_cases hk : x ∈ K
  · simp [hk, this.1 hk]
  · have hk' : x ∉ K' := fun h => hk (this.2 h)
    simp [hk, hk']
theorem kn_left_perm (K l : List Int) : (knZ K l ++ leftZ K l).Perm l := by
  have := List.filter_append_perm (fun x : Int => decide (x ∈ K)) l
  exact this
theorem knZ_all {K l : List Int} (h : leftZ K l = []) : knZ K l = l := by
  unfold knZ
  rw [List.filter_eq_self]
  intro x hx
  by_cases hk : x ∈ K
  · simp [hk]
  · have : x ∈ leftZ K l := leftZ_mem.2 ⟨hx, hk⟩
    rw [h] at this
    cases this

/-- Blocks found one after another, and their values. -/
structure Slv (E : List EqP) (ss : List (EqP × Int)) (V : Int → List UInt8) : Prop where
  mem : ∀ (j : Nat) (p : EqP) (b : Int), ss[j]? = some (p, b) → p ∈ E
  left : ∀ (j : Nat) (p : EqP) (b : Int), ss[j]? = some (p, b) → leftZ ((ss.take j).map Prod.snd) p.1 = [b]
  val : ∀ (j : Nat) (p : EqP) (b : Int), ss[j]? = some (p, b) → V b = xorAll p.2 ((knZ ((ss.take j).map Prod.snd) p.1).map V)
theorem Slv.nil (E : List EqP) (V : Int → List UInt8) : Slv E [] V := ⟨fun j p b h => by simp at h, fun j p b h => by simp at h, fun j p b h => by simp at h⟩
theorem Slv.pre {E : List EqP} {ss : List (EqP × Int)} {V : Int → List UInt8} (h : Slv E ss V) {j : Nat} {p : EqP} {b : Int} (hj : ss[j]? = some (p, b)) {x : Int} (hx : x ∈ p.1) (hne : x ≠ b) : x ∈ (ss.take j).map Prod.snd := by
  by_cases hk : x ∈ (ss.take j).map Prod.snd
  · exact hk
  · have h1 : x ∈ leftZ ((ss.take j).map Prod.snd) p.1 := leftZ_mem.2 ⟨hx, hk⟩
    rw [h.left j p b hj] at h1
    exact absurd (List.mem_singleton.1 h1) hne
theorem Slv.out {E : List EqP} {ss : List (EqP × Int)} {V : Int → List UInt8} (h : Slv E ss V) {j : Nat} {p : EqP} {b : Int} (hj : ss[j]? = some (p, b)) : b ∈ p.1 ∧ b ∉ (ss.take j).map Prod.snd := by
  have h1 : b ∈ leftZ ((ss.take j).map Prod.snd) p.1 := by rw [h.left j p b hj]; simp
  exact leftZ_mem.1 h1
def updV1 (V : Int → List UInt8) (b : Int) (v : List UInt8) : Int → List UInt8 := fun x => if x = b then v else V x
theorem updV1_same (V : Int → List UInt8) (b : Int) (v : List UInt8) : updV1 V b v b = v := by simp [updV1]
theorem updV1_other {V : Int → List UInt8} {b x : Int} {v : List UInt8} (h : x ≠ b) : updV1 V b v x = V x := by simp [updV1, h]
theorem take_in {ss : List (EqP × Int)} {j : Nat} {x : Int} (h : x ∈ (ss.take j).map Prod.snd) : x ∈ ss.map Prod.snd := by
  obtain ⟨q, h1, rfl⟩ := List.mem_map.1 h
  exact List.mem_map.2 ⟨q, List.mem_of_mem_take h1, rfl⟩
/-- One block more. -/
theorem Slv.snoc {E : List EqP} {ss : List (EqP × Int)} {V : Int → List UInt8} (h : Slv E ss V) {p : EqP} {b : Int} (hp : p ∈ E) (hL : leftZ (ss.map Prod.snd) p.1 = [b]) :
    Slv E (ss ++ [(p, b)]) (updV1 V b (xorAll p.2 ((knZ (ss.map Prod.snd) p.1).map V))) := by
  have hb : b ∉ ss.map Prod.snd := (leftZ_mem.1 (by rw [hL]; simp : b ∈ leftZ (ss.map Prod.snd) p.1)).2
  have agree : ∀ (l : List Int), (∀ x ∈ l, x ∈ ss.map Prod.snd) → l.map (updV1 V b (xorAll p.2 ((knZ (ss.map Prod.snd) p.1).map V))) = l.map V := by
    intro l hl
    refine List.map_congr_left fun x hx => updV1_other fun e => hb (e ▸ hl x hx)
  have cs : ∀ (j : Nat) (p' : EqP) (b' : Int), (ss ++ [(p, b)])[j]? = some (p', b') → (j < ss.length ∧ ss[j]? = some (p', b') ∧ (ss ++ [(p, b)]).take j = ss.take j) ∨ (p' = p ∧ b' = b ∧ (ss ++ [(p, b)]).take j = ss) := by
    intro j p' b' hj
    by_cases hlt : j < ss.length
    · rw [List.getElem?_append_left hlt] at hj
      exact .inl ⟨hlt, hj, List.take_append_of_le_length (by omega)⟩
    · have hj' : j = ss.length := by
        have := (List.getElem?_eq_some_iff.1 hj).1
        rw [List.length_append, List.length_singleton] at this
        omega
      subst hj'
      rw [List.getElem?_append_right (Nat.le_refl _)] at hj
      simp at hj
      obtain ⟨rfl, rfl⟩ := hj
      exact .inr ⟨rfl, rfl, List.take_left' rfl⟩
  refine ⟨fun j p' b' hj => ?_, fun j p' b' hj => ?_, fun j p' b' hj => ?_⟩
  · rcases cs j p' b' hj with ⟨-, h1, -⟩ | ⟨rfl, rfl, -⟩
    · exact h.mem j p' b' h1
    · exact hp
  · rcases cs j p' b' hj with ⟨-, h1, h2⟩ | ⟨rfl, rfl, h2⟩
    · rw [h2]; exact h.left j p' b' h1
    · rw [h2]; exact hL
  · rcases cs j p' b' hj with ⟨-, h1, h2⟩ | ⟨rfl, rfl, h2⟩
    · rw [h2, agree _ (fun x hx => take_in (knZ_mem.1 hx).2), updV1_other (fun e => hb (by rw [← e]; exact List.mem_map.2 ⟨_, List.mem_of_getElem? h1, rfl⟩))]
      exact h.val j p' b' h1
    · rw [h2, agree _ (fun x hx => (knZ_mem.1 hx).2), updV1_same]
theorem Slv.kept {E : List EqP} {ss : List (EqP × Int)} {V : Int → List UInt8} (h : Slv E ss V) {V' : Int → List UInt8} (hV : ∀ x ∈ ss.map Prod.snd, V' x = V x) : Slv E ss V' := by
  refine ⟨h.mem, h.left, fun j p b hj => ?_⟩
  rw [hV b (List.mem_map.2 ⟨_, List.mem_of_getElem? hj, rfl⟩), h.val j p b hj]
  congr 1
  exact (List.map_congr_left fun x hx => hV x (take_in (knZ_mem.1 hx).2)).symm
/-- There are such values. -/
theorem slv_ex (E : List EqP) : ∀ (n : Nat) (ss : List (EqP × Int)), ss.length = n → (∀ q ∈ ss, q.1 ∈ E) → (∀ (j : Nat) (p : EqP) (b : Int), ss[j]? = some (p, b) → leftZ ((ss.take j).map Prod.snd) p.1 = [b]) → ∃ V, Slv E ss V := by
  intro n
  induction n with
  | zero =>
    intro ss h0 _ _
    obtain rfl := List.eq_nil_of_length_eq_zero h0
    exact ⟨fun _ => [], Slv.nil E _⟩
  | succ n ih =>
    intro ss' hn h1 h2
    rcases List.eq_nil_or_concat ss' with rfl | ⟨ss, ⟨p, b⟩, rfl⟩
    · cases hn
    rw [List.concat_eq_append] at hn h1 h2 ⊢
    rw [List.length_append, List.length_singleton] at hn
    obtain ⟨V, hV⟩ := ih ss (by omega) (fun q hq => h1 q (List.mem_append_left _ hq)) (fun j p' b' hj => by
      have hlt := (List.getElem?_eq_some_iff.1 hj).1
      have := h2 j p' b' (by rw [List.getElem?_append_left hlt]; exact hj)
      rwa [List.take_append_of_le_length (by omega)] at this)
    have h3 := h2 ss.length p b (by rw [List.getElem?_append_right (Nat.le_refl _)]; simp)
    rw [List.take_left' rfl] at h3
    exact ⟨_, hV.snoc (h1 (p, b) (by simp)) h3⟩
theorem Slv.fol {E : List EqP} {ss : List (EqP × Int)} {V : Int → List UInt8} (h : Slv E ss V) : ∀ (j : Nat) (p : EqP) (b : Int), ss[j]? = some (p, b) → Fol (E.map Prod.fst) b := by
  intro j
  induction j using Nat.strongRecOn with
  | _ j ih =>
    intro p b hj
    refine Fol.step p.1 b (List.mem_map.2 ⟨p, h.mem j p b hj, rfl⟩) (h.out hj).1 fun y hy hne => ?_
    obtain ⟨⟨p', b'⟩, h1, rfl⟩ := List.mem_map.1 (h.pre hj hy hne)
    obtain ⟨i, h2⟩ := List.mem_iff_getElem?.1 h1
    rw [List.getElem?_take] at h2
    split at h2
    · rename_i hlt
      exact ih i hlt p' b' h2
    · cases h2
theorem Slv.fol' {E : List EqP} {ss : List (EqP × Int)} {V : Int → List UInt8} (h : Slv E ss V) {b : Int} (hb : b ∈ ss.map Prod.snd) : Fol (E.map Prod.fst) b := by
  obtain ⟨⟨p, b'⟩, h1, rfl⟩ := List.mem_map.1 hb
  obtain ⟨j, hj⟩ := List.mem_iff_getElem?.1 h1
  exact h.fol j p b' hj
theorem Slv.len {n : Nat} {E : List EqP} {ss : List (EqP × Int)} {V : Int → List UInt8} (h : Slv E ss V) (hn : ∀ p ∈ E, p.2.length = n) : ∀ (j : Nat) (p : EqP) (b : Int), ss[j]? = some (p, b) → (V b).length = n := by
  intro j
  induction j using Nat.strongRecOn with
  | _ j ih =>
    intro p b hj
    have h0 := hn p (h.mem j p b hj)
    rw [h.val j p b hj, xorAll_length, h0]
    intro x hx
    obtain ⟨y, hy, rfl⟩ := List.mem_map.1 hx
    obtain ⟨⟨p', b'⟩, h1, rfl⟩ := List.mem_map.1 (knZ_mem.1 hy).2
    obtain ⟨i, h2⟩ := List.mem_iff_getElem?.1 h1
    rw [List.getElem?_take] at h2
    split at h2
    · rename_i hlt
      rw [ih i hlt p' b' h2, h0]
    · cases h2
theorem Slv.len' {n : Nat} {E : List EqP} {ss : List (EqP × Int)} {V : Int → List UInt8} (h : Slv E ss V) (hn : ∀ p ∈ E, p.2.length = n) {b : Int} (hb : b ∈ ss.map Prod.snd) : (V b).length = n := by
  obtain ⟨⟨p, b'⟩, h1, rfl⟩ := List.mem_map.1 hb
  obtain ⟨j, hj⟩ := List.mem_iff_getElem?.1 h1
  exact h.len hn j p b' hj

/-- Equations agree: there are values by which all closed ones hold. -/
def AgQ (n : Nat) (E : List EqP) : Prop := ∃ V : Int → List UInt8, (∀ b, (V b).length = n) ∧ ∀ p ∈ E, (∀ b ∈ p.1, Fol (E.map Prod.fst) b) → zeroB (xorAll p.2 (p.1.map V)) = true
theorem lead_split {K l : List Int} {b : Int} (hL : leftZ K l = [b]) (V : Int → List UInt8) (z : List UInt8) : xorAll z (l.map V) = xorL (xorAll z ((knZ K l).map V)) (V b) := by
  have h1 := kn_left_perm K l
  rw [hL] at h1
  rw [← xorAll_perm z (h1.map V), List.map_append, xorAll_append]
  rfl
theorem slv_agree {n : Nat} {E : List EqP} {ss : List (EqP × Int)} {V : Int → List UInt8} (hn : ∀ p ∈ E, p.2.length = n) (h : Slv E ss V) (hK : ∀ x, Fol (E.map Prod.fst) x → x ∈ ss.map Prod.snd) :
    (∀ p ∈ E, (∀ b ∈ p.1, b ∈ ss.map Prod.snd) → (∃ (j : Nat) (b : Int), ss[j]? = some (p, b)) ∨ zeroB (xorAll p.2 (p.1.map V)) = true) ↔ AgQ n E := by
  constructor
  · intro hA
    refine ⟨fun b => if b ∈ ss.map Prod.snd then V b else zeros n, fun b => ?_, fun p hp hc => ?_⟩
    · show (if b ∈ ss.map Prod.snd then V b else zeros n).length = n
      by_cases hb : b ∈ ss.map Prod.snd
      · rw [if_pos hb]; exact h.len' hn hb
      · rw [if_neg hb]; exact zeros_length n
    · have e1 : p.1.map (fun b => if b ∈ ss.map Prod.snd then V b else zeros n) = p.1.map V := List.map_congr_left fun b hb => if_pos (hK b (hc b hb))
      rw [e1]
      rcases hA p hp (fun b hb => hK b (hc b hb)) with ⟨j, b, hj⟩ | hz
      · rw [lead_split (h.left j p b hj) V, ← h.val j p b hj, xorL_self]
        exact zeroB_zeros _
      · exact hz
  · rintro ⟨V', hV', hA⟩ p hp hc
    right
    have hcl : ∀ (j : Nat) (p : EqP) (b : Int), ss[j]? = some (p, b) → ∀ x ∈ p.1, Fol (E.map Prod.fst) x := by
      intro j p b hj x hx
      by_cases hxb : x = b
      · rw [hxb]; exact h.fol j p b hj
      · exact h.fol' (take_in (h.pre hj hx hxb))
    have hVV : ∀ (j : Nat) (p : EqP) (b : Int), ss[j]? = some (p, b) → V b = V' b := by
      intro j
      induction j using Nat.strongRecOn with
      | _ j ih =>
        intro p b hj
        have h1 := hA p (h.mem j p b hj) (hcl j p b hj)
        rw [lead_split (h.left j p b hj) V'] at h1
        have h2 : (xorAll p.2 ((knZ ((ss.take j).map Prod.snd) p.1).map V')).length = n := by
          rw [xorAll_length, hn p (h.mem j p b hj)]
          intro x hx
          obtain ⟨y, hy, rfl⟩ := List.mem_map.1 hx
          rw [hV', hn p (h.mem j p b hj)]
        rw [zeroB_xorL (by rw [hV', h2])] at h1
        rw [← h1, h.val j p b hj]
        congr 1
        refine List.map_congr_left fun x hx => ?_
        obtain ⟨⟨p', b'⟩, h3, rfl⟩ := List.mem_map.1 (knZ_mem.1 hx).2
        obtain ⟨i, h4⟩ := List.mem_iff_getElem?.1 h3
        rw [List.getElem?_take] at h4
        split at h4
        · rename_i hlt
          exact ih i hlt p' b' h4
        · cases h4
    have hVK : ∀ x ∈ ss.map Prod.snd, V x = V' x := by
      intro x hx
      obtain ⟨⟨p', b'⟩, h1, rfl⟩ := List.mem_map.1 hx
      obtain ⟨j, hj⟩ := List.mem_iff_getElem?.1 h1
      exact hVV j p' b' hj
    have e1 : p.1.map V = p.1.map V' := List.map_congr_left fun b hb => hVK b (hc b hb)
    rw [e1]
    exact hA p hp fun b hb => h.fol' (hc b hb)

end

section
/-
  spreadOf: one block more of an equation.
-/
open Go.RowKit
set_option linter.unusedVariables false

/-- All of a spread but what its map says. -/
structure SpC (B : Nat) (W : World) (p : Nat) (s : SpS) : Prop where
  box : W.heap[p]? = some (.cells #[.map (some s.mb), s.lv, s.rv, s.fv, s.fsv, .slice none 0 0, s.ssv] 95 (0, 0))
  rows : ∀ b v, s.f b = some v → OwnZ B W v (s.G b).length (s.G b)
  out : ∀ b, s.f b = none → s.G b = []
  left : OwnZ B W s.lv s.m (tabZ s.m s.h)
  rest : OwnZ B W s.rv s.m (tabZ s.m s.r)
  first : OwnZ B W s.fsv s.FF.length s.FF
  steps : W.ownsRow B 99 2 s.ssv s.ss.length (stepCells s.ss)
  bp : B ≤ p
  bm : B ≤ s.mb
  dlr : s.lb ≠ s.rb
  dfl : s.fsv.ownBlock ≠ some s.lb ∧ s.fsv.ownBlock ≠ some s.rb
  drow : ∀ b v, s.f b = some v → v.ownBlock ≠ some s.lb ∧ v.ownBlock ≠ some s.rb ∧ ∀ q, v.ownBlock = some q → s.fsv.ownBlock ≠ some q
  dtwo : ∀ b v b' v', s.f b = some v → s.f b' = some v' → b ≠ b' → ∀ q, v.ownBlock = some q → v'.ownBlock ≠ some q
theorem SpC.toSp {B : Nat} {W : World} {p : Nat} {s : SpS} (h : SpC B W p s) (hm : MpO W s.mb s.k s.f) : Sp B W p s :=
  ⟨h.box, hm, h.rows, h.out, h.left, h.rest, h.first, h.steps, h.bp, h.bm, h.dlr, h.dfl, h.drow, h.dtwo⟩
theorem SpC.kept {B : Nat} {W W' : World} {p : Nat} {s : SpS} (h : SpC B W p s) (hk : ∀ (q : Nat) (cs : Array Value) (t : TypeId), W.heap[q]? = some (Obj.cells cs t (0, 0)) → W'.heap[q]? = W.heap[q]?) : SpC B W' p s :=
  { box := (hk p _ _ h.box).trans h.box
    rows := fun b v hv => (h.rows b v hv).kept fun q hq => by obtain ⟨cs, hc⟩ := (h.rows b v hv).kind hq; exact hk q cs _ hc
    out := h.out
    left := h.left.kept fun q hq => by obtain ⟨cs, hc⟩ := h.left.kind hq; exact hk q cs _ hc
    rest := h.rest.kept fun q hq => by obtain ⟨cs, hc⟩ := h.rest.kind hq; exact hk q cs _ hc
    first := h.first.kept fun q hq => by obtain ⟨cs, hc⟩ := h.first.kind hq; exact hk q cs _ hc
    steps := owns_kept h.steps fun q hq => by obtain ⟨cs, hc⟩ := stepkind h.steps hq; exact hk q cs _ hc
    bp := h.bp, bm := h.bm, dlr := h.dlr, dfl := h.dfl, drow := h.drow, dtwo := h.dtwo }
theorem SpC.below {B : Nat} {W W' : World} {p : Nat} {s : SpS} (h : SpC B W p s) (hb : Below W.heap.size W W') : SpC B W' p s := h.kept fun q cs t hq => hb.block q (Array.getElem?_eq_some_iff.1 hq).1

/-- One block more has one equation more. -/
def rowS (s : SpS) (b x : Int) (v : Value) : SpS := { s with k := s.k + 1, f := setO s.f b v, G := fun a => if a = b then s.G b ++ [x] else s.G a }
theorem Sp.row0 {B : Nat} {W : World} {p : Nat} {s : SpS} (h : Sp B W p s) (b : Int) : OwnZ B W ((s.f b).getD (.slice none 0 0)) (s.G b).length (s.G b) := by
  cases hf : s.f b with
  | none => rw [h.out b hf]; exact OwnZ.nil _ _
  | some v => exact h.rows b v hf
theorem Sp.row0_ne {B : Nat} {W : World} {p : Nat} {s : SpS} (h : Sp B W p s) (b : Int) {q : Nat} (hq : ((s.f b).getD (.slice none 0 0)).ownBlock = some q) : ∃ v, s.f b = some v ∧ v.ownBlock = some q := by
  cases hf : s.f b with
  | none => rw [hf] at hq; cases hq
  | some v => rw [hf] at hq; exact ⟨v, rfl, hq⟩
theorem Sp.grownRow {B : Nat} {W W' : World} {p : Nat} {s : SpS} (h : Sp B W p s) (b x : Int) (hg : W.grownBy W' ((s.f b).getD (.slice none 0 0)).ownBlock) {v : Value} (ho : OwnZ B W' v ((s.G b).length + 1) (s.G b ++ [x]))
    (hv : v.ownBlock = ((s.f b).getD (.slice none 0 0)).ownBlock ∨ v.ownBlock = some W.heap.size) : SpC B W' p (rowS s b x v) ∧ MpO W' s.mb s.k s.f := by
  have K : ∀ q, q < W.heap.size → (∀ u, s.f b = some u → u.ownBlock ≠ some q) → W'.heap[q]? = W.heap[q]? := fun q hq hne => hg.block q hq (fun e => by
    obtain ⟨u, h1, h2⟩ := h.row0_ne b e.symm
    exact hne u h1 h2)
  obtain ⟨es, c, hm⟩ := h.map.isMap
  have hkind : ∀ u, s.f b = some u → ∀ q, u.ownBlock = some q → ∃ cs, W.heap[q]? = some (.cells cs 3) := fun u hu q hq => (h.rows b u hu).kind hq
  have KT : ∀ (q : Nat) (cs : Array Value) (t : TypeId), t ≠ 3 → W.heap[q]? = some (Obj.cells cs t (0, 0)) → W'.heap[q]? = W.heap[q]? := fun q cs t ht hq => K q (Array.getElem?_eq_some_iff.1 hq).1 (fun u hu e => by
    obtain ⟨cs', hc'⟩ := hkind u hu q e
    exact heap_ne hq hc' ht rfl)
  refine ⟨?_, h.map.kept (K _ h.map.lt (fun u hu e => by obtain ⟨cs', hc'⟩ := hkind u hu _ e; exact heap_neM hc' hm rfl))⟩
  have newv : ∀ q, v.ownBlock = some q → (∃ u, s.f b = some u ∧ u.ownBlock = some q) ∨ q = W.heap.size := by
    intro q hq
    rcases hv with hv | hv
    · rw [hv] at hq
      exact .inl (h.row0_ne b hq)
    · rw [hv] at hq
      exact .inr (Option.some.inj hq).symm
  exact
    { box := (KT p _ _ (by decide) h.box).trans h.box
      rows := fun b' v' hv' => by
        by_cases hb : b' = b
        · subst hb
          have e1 : v = v' := by
            have h1 : setO s.f b' v b' = some v' := hv'
            rw [setO_same] at h1
            exact Option.some.inj h1
          rw [← e1]
          show OwnZ B W' v (if b' = b' then s.G b' ++ [x] else s.G b').length (if b' = b' then s.G b' ++ [x] else s.G b')
          rw [if_pos rfl, List.length_append, List.length_singleton]
          exact ho
        · have h1 : s.f b' = some v' := by
            have h1 : setO s.f b v b' = some v' := hv'
            rwa [setO_other hb] at h1
          show OwnZ B W' v' (if b' = b then s.G b ++ [x] else s.G b').length (if b' = b then s.G b ++ [x] else s.G b')
          rw [if_neg hb]
          exact (h.rows b' v' h1).kept fun q hq => K q ((h.rows b' v' h1).lt q hq).2 (fun u hu e => h.dtwo b' v' b u h1 hu hb q hq e)
      out := fun b' hn => by
        by_cases hb : b' = b
        · subst hb
          have h1 : setO s.f b' v b' = none := hn
          rw [setO_same] at h1
          cases h1
        · have h1 : setO s.f b v b' = none := hn
          rw [setO_other hb] at h1
          show (if b' = b then s.G b ++ [x] else s.G b') = []
          rw [if_neg hb]
          exact h.out b' h1
      left := h.left.kept fun q hq => K q (h.left.lt q hq).2 (fun u hu e => by
        have e1 : s.lb = q := Option.some.inj hq
        exact (h.drow b u hu).1 (by rw [e, e1]))
      rest := h.rest.kept fun q hq => K q (h.rest.lt q hq).2 (fun u hu e => by
        have e1 : s.rb = q := Option.some.inj hq
        exact (h.drow b u hu).2.1 (by rw [e, e1]))
      first := h.first.kept fun q hq => K q (h.first.lt q hq).2 (fun u hu e => (h.drow b u hu).2.2 q e hq)
      steps := owns_kept h.steps fun q hq => by obtain ⟨cs, hc⟩ := stepkind h.steps hq; exact KT q cs _ (by decide) hc
      bp := h.bp, bm := h.bm, dlr := h.dlr, dfl := h.dfl
      drow := fun b' v' hv' => by
        by_cases hb : b' = b
        · subst hb
          have e1 : v = v' := by
            have h1 : setO s.f b' v b' = some v' := hv'
            rw [setO_same] at h1
            exact Option.some.inj h1
          rw [← e1]
          refine ⟨fun e => ?_, fun e => ?_, fun q hq e => ?_⟩
          · rcases newv _ e with ⟨u, h1, h2⟩ | h1
            · exact (h.drow b' u h1).1 h2
            · have := h.lltB.2
              have h1' : s.lb = W.heap.size := h1
              omega
          · rcases newv _ e with ⟨u, h1, h2⟩ | h1
            · exact (h.drow b' u h1).2.1 h2
            · have := h.rltB.2
              have h1' : s.rb = W.heap.size := h1
              omega
          · have e' : s.fsv.ownBlock = some q := e
            rcases newv q hq with ⟨u, h1, h2⟩ | h1
            · exact (h.drow b' u h1).2.2 q h2 e'
            · have := (h.first.lt q e').2
              omega
        · have h1 : s.f b' = some v' := by
            have h1 : setO s.f b v b' = some v' := hv'
            rwa [setO_other hb] at h1
          exact h.drow b' v' h1
      dtwo := fun b1 v1 b2 v2 h1 h2 hne q hq e => by
        have s1 : setO s.f b v b1 = some v1 := h1
        have s2 : setO s.f b v b2 = some v2 := h2
        by_cases hb1 : b1 = b
        · subst hb1
          rw [setO_same] at s1
          have e1 := Option.some.inj s1
          subst e1
          rw [setO_other (fun e => hne e.symm)] at s2
          rcases newv q hq with ⟨u, h3, h4⟩ | h3
          · exact h.dtwo b1 u b2 v2 h3 s2 hne q h4 e
          · have := ((h.rows b2 v2 s2).lt q e).2
            omega
        · rw [setO_other hb1] at s1
          by_cases hb2 : b2 = b
          · subst hb2
            rw [setO_same] at s2
            have e1 := Option.some.inj s2
            subst e1
            rcases newv q e with ⟨u, h3, h4⟩ | h3
            · exact h.dtwo b1 v1 b2 u s1 h3 hne q hq h4
            · have := ((h.rows b1 v1 s1).lt q hq).2
              omega
          · rw [setO_other hb2] at s2
            exact h.dtwo b1 v1 b2 v2 s1 s2 hne q hq e }
theorem SpC.mapped {B : Nat} {W W' : World} {p : Nat} {s : SpS} (h : SpC B W p s) {k : Nat} {f : Int → Option Value} (ho : MpO W s.mb k f) (hg : W.grownBy W' (some s.mb)) (hm : MpO W' s.mb s.k s.f) : Sp B W' p s := by
  obtain ⟨es, c, hm0⟩ := ho.isMap
  refine (h.kept fun q cs t hq => hg.block q (Array.getElem?_eq_some_iff.1 hq).1 (fun e => ?_)).toSp hm
  have e1 : q = s.mb := Option.some.inj e
  subst e1
  rw [hq] at hm0
  cases hm0

def inTo (fl : List (List Int)) (i : Nat) (b : Int) : List Int := ((List.range i).filter fun e => decide (b ∈ fl.getD e [])).map fun (e : Nat) => (e : Int)
theorem inTo_next {fl : List (List Int)} {i : Nat} {l : List Int} (hl : fl[i]? = some l) (b : Int) : inTo fl (i + 1) b = inTo fl i b ++ (if b ∈ l then [(i : Int)] else []) := by
  unfold inTo
  have hd : fl.getD i [] = l := by simp [List.getD, hl]
  rw [List.range_succ, List.filter_append, List.map_append]
  congr 1
  by_cases hb : b ∈ l
  · simp [hl, hb]
  · simp [hl, hb]
/-- Behind the first i equations, and j blocks of the next one. -/
structure Bld (fl : List (List Int)) (FV : Value) (i : Nat) (of : List Int) (s : SpS) : Prop where
  m : s.m = fl.length
  fv : s.fv = FV
  ss : s.ss = []
  k : s.k ≤ (fl.take i).flatten.length + of.length
  G : ∀ b, s.G b = inTo fl i b ++ (if b ∈ of then [(i : Int)] else [])
  h : ∀ e l, fl[e]? = some l → s.h e = if e < i then (l.length : Int) else 0
  r : ∀ e l, fl[e]? = some l → s.r e = if e < i then ((xorN l : Nat) : Int) else if e = i then ((xorN of : Nat) : Int) else 0
  F : ∀ e, e < fl.length → s.h e = 1 → (e : Int) ∈ s.FF
  N : ∀ x ∈ s.FF, ∃ e : Nat, x = e ∧ e < fl.length
  len : s.FF.length ≤ i
theorem Bld.start (fl : List (List Int)) (mb lb rb : Nat) (FV : Value) : Bld fl FV 0 [] ⟨mb, 0, fun _ => none, fun _ => [], lb, rb, fl.length, fun _ => 0, fun _ => 0, .slice none 0 0, [], .slice none 0 0, [], FV⟩ :=
  { m := rfl, fv := rfl, ss := rfl, k := Nat.zero_le _
    G := fun b => by simp [inTo]
    h := fun e l _ => by simp
    r := fun e l _ => by by_cases he : e = 0 <;> simp [he, xorN]
    F := fun e _ h => by simp at h
    N := fun x hx => by cases hx
    len := Nat.le_refl _ }
theorem Bld.block {fl : List (List Int)} {FV : Value} {i : Nat} {of : List Int} {s : SpS} (R : Bld fl FV i of s) {l : List Int} (hl : fl[i]? = some l) {b : Int} (hb : b ∉ of) (hn : 0 ≤ b) (hb0 : ∀ x ∈ of, 0 ≤ x) (v : Value) : Bld fl FV i (of ++ [b]) { rowS s b (i : Int) v with r := updN s.r i (xorI (s.r i) b) } :=
  { m := R.m, fv := R.fv, ss := R.ss
    k := by
      have := R.k
      show s.k + 1 ≤ _
      rw [List.length_append, List.length_singleton]
      omega
    G := fun a => by
      show (if a = b then s.G b ++ [(i : Int)] else s.G a) = _
      by_cases ha : a = b
      · subst ha
        rw [if_pos rfl, R.G, if_neg hb]
        simp
      · rw [if_neg ha, R.G]
        simp [ha]
    h := R.h
    r := fun e l' hl' => by
      show updN s.r i (xorI (s.r i) b) e = _
      by_cases he : e = i
      · subst he
        rw [updN_same, R.r e l hl]
        simp only [Nat.lt_irrefl, if_false, if_true]
        unfold xorI
        rw [xorN_append, Int.toNat_natCast]
        congr 2
        simp [xorN]
      · rw [updN_other he, R.r e l' hl']
        simp [he]
    F := R.F, N := R.N, len := R.len }
theorem Bld.leave {fl : List (List Int)} {FV : Value} {i : Nat} {of : List Int} {s : SpS} (R : Bld fl FV i of s) (hl : fl[i]? = some of) (u : Value) : Bld fl FV (i + 1) [] { s with h := updN s.h i (of.length : Int), fsv := u, FF := if (of.length : Int) = 1 then s.FF ++ [(i : Int)] else s.FF } :=
  have hi : i < fl.length := (List.getElem?_eq_some_iff.1 hl).1
  { m := R.m, fv := R.fv, ss := R.ss
    k := by
      have h1 := R.k
      have h2 : (fl.take (i + 1)).flatten = (fl.take i).flatten ++ of := by
        obtain ⟨h3, h4⟩ := List.getElem?_eq_some_iff.1 hl
        rw [List.take_succ_eq_append_getElem h3, List.flatten_append, h4]
        simp
      show s.k ≤ _
      rw [h2, List.length_append, List.length_nil]
      omega
    G := fun b => by
      show s.G b = _
      rw [R.G, inTo_next hl]
      simp
    h := fun e l' hl' => by
      show updN s.h i (of.length : Int) e = _
      by_cases he : e = i
      · subst he
        rw [hl] at hl'
        obtain rfl := Option.some.inj hl'
        rw [updN_same, if_pos (by omega)]
      · rw [updN_other he, R.h e l' hl']
        by_cases h1 : e < i
        · rw [if_pos h1, if_pos (by omega)]
        · rw [if_neg h1, if_neg (by omega)]
    r := fun e l' hl' => by
      show s.r e = _
      rw [R.r e l' hl']
      by_cases he : e = i
      · subst he
        rw [hl] at hl'
        obtain rfl := Option.some.inj hl'
        simp
      · by_cases h1 : e < i
        · rw [if_pos h1, if_pos (by omega)]
        · rw [if_neg h1, if_neg he, if_neg (by omega)]
          by_cases h2 : e = i + 1
          · rw [if_pos h2]; simp [xorN]
          · rw [if_neg h2]
    F := fun e he h1 => by
      have h1' : updN s.h i (of.length : Int) e = 1 := h1
      show (e : Int) ∈ (if (of.length : Int) = 1 then s.FF ++ [(i : Int)] else s.FF)
      by_cases hei : e = i
      · subst hei
        rw [updN_same] at h1'
        rw [if_pos h1']
        simp
      · rw [updN_other hei] at h1'
        have := R.F e he h1'
        split
        · exact List.mem_append_left _ this
        · exact this
    N := fun x hx => by
      have hx' : x ∈ (if (of.length : Int) = 1 then s.FF ++ [(i : Int)] else s.FF) := hx
      split at hx'
      · rcases List.mem_append.1 hx' with h | h
        · exact R.N x h
        · exact ⟨i, List.mem_singleton.1 h, hi⟩
      · exact R.N x hx'
    len := by
      have := R.len
      show (if (of.length : Int) = 1 then s.FF ++ [(i : Int)] else s.FF).length ≤ i + 1
      split
      · rw [List.length_append, List.length_singleton]; omega
      · omega }
theorem Bld.run {fl : List (List Int)} {FV : Value} {s : SpS} (R : Bld fl FV fl.length [] s) : Run fl FV s :=
  have hk : kn s = [] := by unfold kn; rw [R.ss]; rfl
  { m := R.m, fv := R.fv
    G := fun b => by rw [R.G]; simp [inTo, inAll]
    h := fun e l hl => by rw [R.h e l hl, if_pos (List.getElem?_eq_some_iff.1 hl).1, hk, leftZ_nil]
    r := fun e l hl => by rw [R.r e l hl, if_pos (List.getElem?_eq_some_iff.1 hl).1, hk, leftZ_nil]
    d := by rw [R.ss]; exact Deriv.nil fl
    F := R.F, N := R.N
    len := by
      have h1 := R.len
      have h2 : cnt2 fl.length s.h ≤ fl.length := by
        unfold cnt2
        have := List.countP_le_length (p := fun e => decide (2 ≤ s.h e)) (l := List.range fl.length)
        rwa [List.length_range] at this
      rw [R.ss]
      simp
      omega }

end

section
/-
  spreadOf.
-/
open Go.RowKit
set_option linter.unusedVariables false

def IsMp0 (B : Nat) : Value → World → Prop := fun v W => ∃ mb, v = .map (some mb) ∧ B ≤ mb ∧ MpO W mb 0 (fun _ => none)
theorem stays_mp0 (B : Nat) : Stays (IsMp0 B) := fun _ _ _ hb ⟨mb, h1, h2, h3⟩ => ⟨mb, h1, h2, h3.below hb⟩
def IsTb0 (B m : Nat) : Value → World → Prop := fun v W => ∃ q, v = .slice (some ⟨q, 0, none⟩) m m ∧ OwnZ B W (.slice (some ⟨q, 0, none⟩) m m) m (tabZ m (fun _ => 0))
theorem stays_tb0 (B m : Nat) : Stays (IsTb0 B m) := fun _ _ _ hb ⟨q, h1, h2⟩ => ⟨q, h1, h2.below hb⟩
theorem tb0_lt {B m : Nat} {v : Value} {W : World} (h : IsTb0 B m v W) : ∃ q, v.ownBlock = some q ∧ q < W.heap.size := by
  obtain ⟨q, rfl, h2⟩ := h
  exact ⟨q, rfl, (h2.lt q rfl).2⟩
theorem made_tab {B : Nat} {W : World} {q m : Nat} (h : W.ownsRow B 3 1 (.slice (some ⟨q, 0, none⟩) m m) m (madeCells (Value.int .i64 0).cells (m * 1)).toList) : OwnZ B W (.slice (some ⟨q, 0, none⟩) m m) m (tabZ m (fun _ => 0)) := by
  simp only [Value.cells, Nat.mul_one, toList_madeCells_one] at h
  have e : List.replicate m (Value.int .i64 0) = (tabZ m (fun _ => 0)).map (Value.int .i64) := by
    apply List.ext_getElem?
    intro i
    rw [List.getElem?_map, List.getElem?_replicate]
    by_cases hi : i < m
    · rw [if_pos hi, tab_get _ hi]; rfl
    · rw [if_neg hi, List.getElem?_eq_none (by rw [tab_length]; omega)]; rfl
  rw [e] at h
  exact h
/-- Nothing is known of a spread yet. -/
def spZero (mb lb rb m : Nat) (fv : Value) : SpS := ⟨mb, 0, fun _ => none, fun _ => [], lb, rb, m, fun _ => 0, fun _ => 0, .slice none 0 0, [], .slice none 0 0, [], fv⟩
def IsAg8 (B m : Nat) (fv : Value) : Value → World → Prop := fun v W => ∃ mb lb rb, v = .agg #[.map (some mb), .slice (some ⟨lb, 0, none⟩) m m, .slice (some ⟨rb, 0, none⟩) m m, fv, .slice none 0 0, .slice none 0 0, .slice none 0 0] ∧ B ≤ mb ∧ MpO W mb 0 (fun _ => none) ∧
  OwnZ B W (.slice (some ⟨lb, 0, none⟩) m m) m (tabZ m (fun _ => 0)) ∧ OwnZ B W (.slice (some ⟨rb, 0, none⟩) m m) m (tabZ m (fun _ => 0)) ∧ lb ≠ rb
theorem stays_ag8 (B m : Nat) (fv : Value) : Stays (IsAg8 B m fv) := fun _ _ _ hb ⟨mb, lb, rb, h1, h2, h3, h4, h5, h6⟩ => ⟨mb, lb, rb, h1, h2, h3.below hb, h4.below hb, h5.below hb, h6⟩
def IsSp0 (B m : Nat) (fv : Value) : Value → World → Prop := fun v W => ∃ p mb lb rb, v = .pointer (some ⟨p, 0, none⟩) ∧ Sp B W p (spZero mb lb rb m fv)
theorem stays_sp0 (B m : Nat) (fv : Value) : Stays (IsSp0 B m fv) := fun _ _ _ hb ⟨p, mb, lb, rb, h1, h2⟩ => ⟨p, mb, lb, rb, h1, h2.below hb⟩
theorem Sp.new {B : Nat} {W : World} {mb lb rb m : Nat} {fv : Value} (hB : B ≤ W.heap.size) (h2 : B ≤ mb) (h3 : MpO W mb 0 (fun _ => none)) (h4 : OwnZ B W (.slice (some ⟨lb, 0, none⟩) m m) m (tabZ m (fun _ => 0))) (h5 : OwnZ B W (.slice (some ⟨rb, 0, none⟩) m m) m (tabZ m (fun _ => 0))) (h6 : lb ≠ rb) :
    Sp B (W.alloc (.cells #[.map (some mb), .slice (some ⟨lb, 0, none⟩) m m, .slice (some ⟨rb, 0, none⟩) m m, fv, .slice none 0 0, .slice none 0 0, .slice none 0 0] 95)) W.heap.size (spZero mb lb rb m fv) where
  box := by
    show (W.heap.push _)[W.heap.size]? = _
    simp [spZero, SpS.lv, SpS.rv]
  map := h3.below (below_alloc _ _)
  rows b v hv := by cases hv
  out b _ := rfl
  left := h4.below (below_alloc _ _)
  rest := h5.below (below_alloc _ _)
  first := OwnZ.nil _ _
  steps := ⟨rfl, .inl ⟨rfl, rfl⟩⟩
  bp := hB
  bm := h2
  dlr := h6
  dfl := by constructor <;> (intro h; cases h)
  drow b v hv := by cases hv
  dtwo b v b' v' hv := by cases hv

theorem inAll_len (fl : List (List Int)) (b : Int) : (inAll fl b).length ≤ fl.length := by
  unfold inAll
  rw [List.length_map]
  have := List.length_filter_le (fun e => decide (b ∈ fl.getD e [])) (List.range fl.length)
  rwa [List.length_range] at this
theorem flat_le {fl : List (List Int)} {i : Nat} {l : List Int} (h : fl[i]? = some l) : l.length ≤ fl.flatten.length := by
  obtain ⟨h1, h2⟩ := List.getElem?_eq_some_iff.1 h
  have h3 : fl.flatten = (fl.take i).flatten ++ (l ++ (fl.drop (i + 1)).flatten) := by
    rw [← h2, ← List.flatten_cons, ← List.flatten_append, List.getElem_cons_drop, List.take_append_drop]
  rw [h3, List.length_append, List.length_append]
  omega
theorem flat_take_le (fl : List (List Int)) (i : Nat) : (fl.take i).flatten.length ≤ fl.flatten.length := by
  have h3 : fl.flatten = (fl.take i).flatten ++ (fl.drop i).flatten := by rw [← List.flatten_append, List.take_append_drop]
  rw [h3, List.length_append]
  omega
/-- What is still to be done. -/
def muW (p lb m : Nat) (W : World) : Nat := (match W.cell? ⟨p, 4, none⟩ with | some (.slice _ n _) => n | _ => 0) + 2 * (List.range m).countP (fun e => match W.cell? ⟨lb, e, none⟩ with | some (.int _ z) => decide (2 ≤ z) | _ => false)
theorem muW_eq {B p m lb : Nat} {W : World} {s : SpS} (h : Sp B W p s) (hm : s.m = m) (hl : s.lb = lb) : muW p lb m W = s.FF.length + 2 * cnt2 m s.h := by
  subst hm
  subst hl
  obtain ⟨-, -, -, -, c4, -, -⟩ := h.cells
  obtain ⟨a, c, e4⟩ := fsv_shape h.first
  unfold muW cnt2
  rw [c4, e4]
  congr 2
  refine List.countP_congr fun e he => ?_
  have hc := OwnZ.cell (b := s.lb) (c := s.m) (n := s.m) h.left (tab_get s.h (List.mem_range.1 he))
  rw [hc]
def IsSrcI (z : Int) : Value → World → Prop := fun v W => Sl 1 W v 1 ([z].map (Value.int .i64))
theorem stays_srci (z : Int) : Stays (IsSrcI z) := fun _ _ _ hb h => Sl.below h hb
def IsRwP (B p : Nat) (s : SpS) (b x : Int) : Value → World → Prop := fun v W => SpC B W p (rowS s b x v) ∧ MpO W s.mb s.k s.f
theorem stays_rows2 (B p : Nat) (s : SpS) (b x : Int) : Stays (IsRwP B p s b x) := fun _ _ _ hb h => ⟨h.1.below hb, h.2.below hb⟩
def IsRowF (B p : Nat) (s : SpS) (b x : Int) : Value → World → Prop := fun _ W => ∃ v, Sp B W p (rowS s b x v)
theorem stays_rowf (B p : Nat) (s : SpS) (b x : Int) : Stays (IsRowF B p s b x) := fun _ _ _ hb ⟨v, h⟩ => ⟨v, h.below hb⟩

/-- The row that is appended to, and the map. -/
def RowBl (s : SpS) (v0 : Value) : Nat → Prop := fun z => z = s.mb ∨ v0.ownBlock = some z

set_option maxRecDepth 100000 in
set_option maxHeartbeats 4000000 in
/-- SPREADOF: all blocks that follow. -/
theorem spreadOf_any (fn : Fn) (c1 c2 : Array Value) (pv : Value) (vs : List Value) (fl : List (List Int)) (w : World) (hp : Sl 1 w pv vs.length vs) (hz : LsZ w vs fl) (hm0 : vs.length ≤ 100000) (hT : fl.flatten.length ≤ 1000000)
    (hfl : ∀ l ∈ fl, l.Nodup ∧ ∀ x ∈ l, 0 ≤ x ∧ x < 9223372036854775808) (LV : ∀ p, LeaveOk w p vs.length (.func fn c1 c2)) :
    Calls Tryz.prog 40 #[pv, .func fn c1 c2] w fun e w' => ∃ (p : Nat) (s : SpS), e = .returned (.pointer (some ⟨p, 0, none⟩)) ∧ Sp w.heap.size w' p s ∧ Run fl (.func fn c1 c2) s ∧ Done fl (kn s) ∧ Below w.heap.size w w' := by
  obtain ⟨i0, hi0, hz0, hz1, hz2⟩ := infoZ_parts
  have HP : Hid (Sl 1 w pv vs.length vs) := hp
  have HZ : Hid (LsZ w vs fl) := hz
  have HFL : Hid (∀ l ∈ fl, l.Nodup ∧ ∀ x ∈ l, 0 ≤ x ∧ x < 9223372036854775808) := hfl
  have HT : Hid (fl.flatten.length ≤ 1000000) := hT
  obtain ⟨-, ao, pc, rfl, hp2, hp3, -, -⟩ := hp
  unfold maxLen at hp3
  obtain ⟨m, hm⟩ : ∃ m, vs.length = m := ⟨_, rfl⟩
  have HM : Hid (vs.length = m) := hm
  have LVH : Hid (∀ p, LeaveOk w p m (.func fn c1 c2)) := by rw [← hm]; exact LV
  have HF : Hid (fl.length = m) := by rw [← hm]; exact hz.1.symm
  have HP0 : Hid (Sl 1 w (.slice ao m pc) vs.length vs) := by
    have h1 := HP.out
    unfold Hid
    rw [hm] at h1 ⊢
    exact h1
  rw [hm] at hp2 hm0 ⊢
  have hmm := @run_makeMap Tryz.prog
  clear hm hz HP hfl hT LV
  go_enter Tryz.func40, Tryz.ntmps40
  go_upto_region 1 with fail
  refine wp_region_any (by kernel_rfl) ?_
  obtain ⟨gs, hgs⟩ : ∃ gs : List (Value → World → Prop), gs = [IsAnyV, IsV (Value.slice ao m pc), IsV (.int .i64 (m : Int)), IsAnyV, IsV (Value.slice ao m pc), IsV (.int .i64 (m : Int)), IsAnyV, IsV (Value.func fn c1 c2), IsAnyV, IsAnyV, IsAnyV] := ⟨_, rfl⟩
  have g0 : Hid (gs[0]? = some (IsAnyV)) := by unfold Hid; rw [hgs]; rfl
  have g1 : Hid (gs[1]? = some (IsV (Value.slice ao m pc))) := by unfold Hid; rw [hgs]; rfl
  have g2 : Hid (gs[2]? = some (IsV (.int .i64 (m : Int)))) := by unfold Hid; rw [hgs]; rfl
  have g3 : Hid (gs[3]? = some (IsAnyV)) := by unfold Hid; rw [hgs]; rfl
  have g4 : Hid (gs[4]? = some (IsV (Value.slice ao m pc))) := by unfold Hid; rw [hgs]; rfl
  have g5 : Hid (gs[5]? = some (IsV (.int .i64 (m : Int)))) := by unfold Hid; rw [hgs]; rfl
  have g6 : Hid (gs[6]? = some (IsAnyV)) := by unfold Hid; rw [hgs]; rfl
  have g7 : Hid (gs[7]? = some (IsV (Value.func fn c1 c2))) := by unfold Hid; rw [hgs]; rfl
  have g8 : Hid (gs[8]? = some (IsAnyV)) := by unfold Hid; rw [hgs]; rfl
  have g9 : Hid (gs[9]? = some (IsAnyV)) := by unfold Hid; rw [hgs]; rfl
  have g10 : Hid (gs[10]? = some (IsAnyV)) := by unfold Hid; rw [hgs]; rfl
  have gk : Hid (∀ p ∈ gs, ∀ v (U U' : World), p v U → p v U') := by
    unfold Hid
    rw [hgs]
    simp only [List.forall_mem_cons]
    exact ⟨(fun _ _ _ h => h), (fun _ _ _ h => h), (fun _ _ _ h => h), (fun _ _ _ h => h), (fun _ _ _ h => h), (fun _ _ _ h => h), (fun _ _ _ h => h), (fun _ _ _ h => h), (fun _ _ _ h => h), (fun _ _ _ h => h), (fun _ _ _ h => h), by simp⟩
  clear hgs
  have JS : Hid (∀ W W', Below W.heap.size W W' → (fun W => Below w.heap.size w W) W → (fun W => Below w.heap.size w W) W') := fun W W' hb h => h.trans (hb.mono h.size)
  have st0 : Hid (Stays (IsMp0 w.heap.size)) := stays_mp0 _
  have st3 : Hid (Stays (IsTb0 w.heap.size m)) := stays_tb0 _ _
  have st6 : Hid (Stays (IsTb0 w.heap.size m)) := stays_tb0 _ _
  have st8 : Hid (Stays (IsAg8 w.heap.size m (.func fn c1 c2))) := stays_ag8 _ _ _
  have st9 : Hid (Stays (IsSp0 w.heap.size m (.func fn c1 c2))) := stays_sp0 _ _ _
  have st10 : Hid (Stays (IsSp0 w.heap.size m (.func fn c1 c2))) := stays_sp0 _ _ _
  refine wpAny_inv4 (fun listed ac W => ∃ xv : Nat → Value, ac = ⟨#[Value.slice ao m pc, Value.func fn c1 c2, undef, undef, Value.pointer none, xv 10, undef, undef, undef, undef, undef, undef, xv 0, xv 1, xv 2, xv 3, xv 4, xv 5, xv 6, xv 7, xv 8, xv 9, undef, undef, undef, undef, undef, undef, undef, undef, undef, undef, undef, undef, undef, undef, undef, undef, undef, undef, undef, undef, undef, undef, undef, undef, undef, undef, undef, undef, undef, undef, undef, undef, undef, undef, undef, undef, undef, undef, undef, undef, undef, undef, undef, undef, undef, undef, undef, undef, undef, undef, undef, undef, undef, undef, undef, undef, undef, undef, undef, undef, undef, undef, undef], []⟩ ∧ (fun W => Below w.heap.size w W) W ∧ Lst gs listed xv W ∧ Fe listed xv W 0 (IsMp0 w.heap.size) ∧ Fe listed xv W 3 (IsTb0 w.heap.size m) ∧ Fe listed xv W 6 (IsTb0 w.heap.size m) ∧ Fe listed xv W 8 (IsAg8 w.heap.size m (.func fn c1 c2)) ∧ Fe listed xv W 9 (IsSp0 w.heap.size m (.func fn c1 c2)) ∧ Fe listed xv W 10 (IsSp0 w.heap.size m (.func fn c1 c2)) ∧ Ap listed xv 3 6) (by kernel_rfl) ?_ ?_ _ _ _ _ (by kernel_rfl) (of_decide_eq_true (by kernel_rfl)) (Down.start _) ⟨fun jx => undef, rfl, below0 _, Lst.start _ _ _ _, Fe.start _ _ _ _ _, Fe.start _ _ _ _ _, Fe.start _ _ _ _ _, Fe.start _ _ _ _ _, Fe.start _ _ _ _ _, Fe.start _ _ _ _ _, Ap.start _ _ _ _⟩
  · go_light
    rintro listed ac W ⟨xv, rfl, hb, hG, hF0, hF3, hF6, hF8, hF9, hF10, hA3_6⟩ hD i hi hnl hd
    have hin : i < 11 := hi
    clear hi
    have hcase : i = 0 ∨ i = 1 ∨ i = 2 ∨ i = 3 ∨ i = 4 ∨ i = 5 ∨ i = 6 ∨ i = 7 ∨ i = 8 ∨ i = 9 ∨ i = 10 := by omega
    rcases hcase with rfl | rfl | rfl | rfl | rfl | rfl | rfl | rfl | rfl | rfl | rfl
    · refine wpOp_step rfl (fun K' hK => ?_)
      clear hd hin hD
      go_simp
      exact hK _ _ ⟨updV xv 0 (.map (some W.heap.size)), by simp [updV], JS.out _ _ (below_alloc _ _) hb, hG.any gk.out g0.out _ trivial, Fe.new (⟨_, rfl, hb.size, MpO.start W⟩), hF3.on st3.out (below_alloc _ _) (by decide) _, hF6.on st6.out (below_alloc _ _) (by decide) _, hF8.on st8.out (below_alloc _ _) (by decide) _, hF9.on st9.out (below_alloc _ _) (by decide) _, hF10.on st10.out (below_alloc _ _) (by decide) _, hA3_6.skip (by decide) (by decide)⟩
    · refine wpOp_step rfl (fun K' hK => ?_)
      clear hd hin hD
      go_simp
      exact hK _ _ ⟨updV xv 1 (Value.slice ao m pc), by simp [updV], hb, hG.any gk.out g1.out _ rfl, hF0.step (fun _ h => h) (by decide) _, hF3.step (fun _ h => h) (by decide) _, hF6.step (fun _ h => h) (by decide) _, hF8.step (fun _ h => h) (by decide) _, hF9.step (fun _ h => h) (by decide) _, hF10.step (fun _ h => h) (by decide) _, hA3_6.skip (by decide) (by decide)⟩
    · refine wpOp_step rfl (fun K' hK => ?_)
      simp [Region.binds] at hd
      have e1 : xv 1 = Value.slice ao m pc := hG.get g1.out (by simp [hd])
      clear hd hin hD
      go_simp
      exact hK _ _ ⟨updV xv 2 (.int .i64 (m : Int)), by simp [updV, e1], hb, hG.any gk.out g2.out _ rfl, hF0.step (fun _ h => h) (by decide) _, hF3.step (fun _ h => h) (by decide) _, hF6.step (fun _ h => h) (by decide) _, hF8.step (fun _ h => h) (by decide) _, hF9.step (fun _ h => h) (by decide) _, hF10.step (fun _ h => h) (by decide) _, hA3_6.skip (by decide) (by decide)⟩
    · refine wpOp_step rfl (fun K' hK => ?_)
      simp [Region.binds] at hd
      have e2 : xv 2 = .int .i64 (m : Int) := hG.get g2.out (by simp [hd])
      clear hd hin hD
      refine step_make W rfl (.tmp 14) (.tmp 14) 29 rfl w.heap.size 3 i0 (.int .i64 0) 1 Tryz.underlying29 hi0 hz0 hz1 _ _ m e2 e2 (by rw [hz2]; omega) (by unfold maxLen; omega) hb.size ?_
      intro w' ho hg
      exact hK _ _ ⟨updV xv 3 (.slice (some ⟨W.heap.size, 0, none⟩) m m), by simp [updV, Act.put], JS.out _ _ (below_fresh hg) hb, hG.any gk.out g3.out _ trivial, hF0.on st0.out (below_fresh hg) (by decide) _, Fe.new (⟨_, rfl, made_tab ho⟩), hF6.on st6.out (below_fresh hg) (by decide) _, hF8.on st8.out (below_fresh hg) (by decide) _, hF9.on st9.out (below_fresh hg) (by decide) _, hF10.on st10.out (below_fresh hg) (by decide) _, Ap.left (by decide) (fun hl => new_apart rfl (tb0_lt (hF6 hl)))⟩
    · refine wpOp_step rfl (fun K' hK => ?_)
      clear hd hin hD
      go_simp
      exact hK _ _ ⟨updV xv 4 (Value.slice ao m pc), by simp [updV], hb, hG.any gk.out g4.out _ rfl, hF0.step (fun _ h => h) (by decide) _, hF3.step (fun _ h => h) (by decide) _, hF6.step (fun _ h => h) (by decide) _, hF8.step (fun _ h => h) (by decide) _, hF9.step (fun _ h => h) (by decide) _, hF10.step (fun _ h => h) (by decide) _, hA3_6.skip (by decide) (by decide)⟩
    · refine wpOp_step rfl (fun K' hK => ?_)
      simp [Region.binds] at hd
      have e4 : xv 4 = Value.slice ao m pc := hG.get g4.out (by simp [hd])
      clear hd hin hD
      go_simp
      exact hK _ _ ⟨updV xv 5 (.int .i64 (m : Int)), by simp [updV, e4], hb, hG.any gk.out g5.out _ rfl, hF0.step (fun _ h => h) (by decide) _, hF3.step (fun _ h => h) (by decide) _, hF6.step (fun _ h => h) (by decide) _, hF8.step (fun _ h => h) (by decide) _, hF9.step (fun _ h => h) (by decide) _, hF10.step (fun _ h => h) (by decide) _, hA3_6.skip (by decide) (by decide)⟩
    · refine wpOp_step rfl (fun K' hK => ?_)
      simp [Region.binds] at hd
      have e5 : xv 5 = .int .i64 (m : Int) := hG.get g5.out (by simp [hd])
      clear hd hin hD
      refine step_make W rfl (.tmp 17) (.tmp 17) 29 rfl w.heap.size 3 i0 (.int .i64 0) 1 Tryz.underlying29 hi0 hz0 hz1 _ _ m e5 e5 (by rw [hz2]; omega) (by unfold maxLen; omega) hb.size ?_
      intro w' ho hg
      exact hK _ _ ⟨updV xv 6 (.slice (some ⟨W.heap.size, 0, none⟩) m m), by simp [updV, Act.put], JS.out _ _ (below_fresh hg) hb, hG.any gk.out g6.out _ trivial, hF0.on st0.out (below_fresh hg) (by decide) _, hF3.on st3.out (below_fresh hg) (by decide) _, Fe.new (⟨_, rfl, made_tab ho⟩), hF8.on st8.out (below_fresh hg) (by decide) _, hF9.on st9.out (below_fresh hg) (by decide) _, hF10.on st10.out (below_fresh hg) (by decide) _, Ap.right (by decide) (fun hl => (new_apart rfl (tb0_lt (hF3 hl))).symm)⟩
    · refine wpOp_step rfl (fun K' hK => ?_)
      clear hd hin hD
      go_simp
      exact hK _ _ ⟨updV xv 7 (Value.func fn c1 c2), by simp [updV], hb, hG.any gk.out g7.out _ rfl, hF0.step (fun _ h => h) (by decide) _, hF3.step (fun _ h => h) (by decide) _, hF6.step (fun _ h => h) (by decide) _, hF8.step (fun _ h => h) (by decide) _, hF9.step (fun _ h => h) (by decide) _, hF10.step (fun _ h => h) (by decide) _, hA3_6.skip (by decide) (by decide)⟩
    · refine wpOp_step rfl (fun K' hK => ?_)
      simp [Region.binds] at hd
      have l0 : listed.getD 0 false = true := by simp [hd]
      have m0 := hF0 l0
      have l3 : listed.getD 3 false = true := by simp [hd]
      have m3 := hF3 l3
      have l6 : listed.getD 6 false = true := by simp [hd]
      have m6 := hF6 l6
      have e7 : xv 7 = Value.func fn c1 c2 := hG.get g7.out (by simp [hd])
      clear hd hin hD
      have hap := hA3_6 l3 l6
      obtain ⟨mb, e0, hB0, hM0⟩ := m0
      obtain ⟨lb, e3, hT3⟩ := m3
      obtain ⟨rb, e6, hT6⟩ := m6
      rw [e3, e6] at hap
      have hne : lb ≠ rb := fun h => hap (by rw [h])
      go_simp
      exact hK _ _ ⟨updV xv 8 (.agg #[.map (some mb), .slice (some ⟨lb, 0, none⟩) m m, .slice (some ⟨rb, 0, none⟩) m m, .func fn c1 c2, .slice none 0 0, .slice none 0 0, .slice none 0 0]), by simp [updV, e0, e3, e6, e7], hb, hG.any gk.out g8.out _ trivial, hF0.step (fun _ h => h) (by decide) _, hF3.step (fun _ h => h) (by decide) _, hF6.step (fun _ h => h) (by decide) _, Fe.new (⟨mb, lb, rb, rfl, hB0, hM0, hT3, hT6, hne⟩), hF9.step (fun _ h => h) (by decide) _, hF10.step (fun _ h => h) (by decide) _, hA3_6.skip (by decide) (by decide)⟩
    · refine wpOp_step rfl (fun K' hK => ?_)
      simp [Region.binds] at hd
      have l8 : listed.getD 8 false = true := by simp [hd]
      have m8 := hF8 l8
      clear hd hin hD
      obtain ⟨mb, lb, rb, e8, hB0, hM0, hT3, hT6, hne⟩ := m8
      go_simp
      exact hK _ _ ⟨updV xv 9 (.pointer (some ⟨W.heap.size, 0, none⟩)), by simp [updV, e8], JS.out _ _ (below_alloc _ _) hb, hG.any gk.out g9.out _ trivial, hF0.on st0.out (below_alloc _ _) (by decide) _, hF3.on st3.out (below_alloc _ _) (by decide) _, hF6.on st6.out (below_alloc _ _) (by decide) _, hF8.on st8.out (below_alloc _ _) (by decide) _, Fe.new (⟨_, mb, lb, rb, rfl, Sp.new hb.size hB0 hM0 hT3 hT6 hne⟩), hF10.on st10.out (below_alloc _ _) (by decide) _, hA3_6.skip (by decide) (by decide)⟩
    · refine wpOp_step rfl (fun K' hK => ?_)
      simp [Region.binds] at hd
      have l9 : listed.getD 9 false = true := by simp [hd]
      have m9 := hF9 l9
      clear hd hin hD
      go_simp
      exact hK _ _ ⟨updV xv 10 (xv 9), by simp [updV], hb, hG.any gk.out g10.out _ trivial, hF0.step (fun _ h => h) (by decide) _, hF3.step (fun _ h => h) (by decide) _, hF6.step (fun _ h => h) (by decide) _, hF8.step (fun _ h => h) (by decide) _, hF9.step (fun _ h => h) (by decide) _, Fe.new (m9), hA3_6.skip (by decide) (by decide)⟩
  · rintro listed ac W ⟨xv, rfl, hb, hG, hF0, hF3, hF6, hF8, hF9, hF10, hA3_6⟩ hall
    have m10 : Hid ((IsSp0 w.heap.size m (.func fn c1 c2)) (xv 10) W) := hF10 (hall 10 (by decide))
    have XW : Hid ((fun W => Below w.heap.size w W) W) := hb
    clear hall hG hb gk JS g0 g1 g2 g3 g4 g5 g6 g7 g8 g9 g10 hF0 st0 hF3 st3 hF6 st6 hF8 st8 hF9 st9 hF10 st10 hA3_6
    obtain ⟨p, mb, lb, rb, e10, hS⟩ := m10.out
    rw [e10]
    clear m10 e10 hmm
    obtain ⟨w1, hw1⟩ : ∃ x, x = W := ⟨_, rfl⟩
    subst hw1
    obtain ⟨FV, hFV⟩ : ∃ x, Value.func fn c1 c2 = x := ⟨_, rfl⟩
    rw [hFV] at hS LVH ⊢
    have S0 : Hid (Sp w.heap.size w1 p (spZero mb lb rb m FV)) := hS
    clear hS
    go_wp2
    go_loopw [24] (fun iv wr => ∃ (i : Nat) (s : SpS), i ≤ m ∧ iv = .int .i64 i ∧ Hid (Sp w.heap.size wr p s) ∧ Hid (Bld fl FV i [] s) ∧ Hid (Below w.heap.size w wr) ∧ Hid (s.lb = lb)) (fun iv _ => m - (intOf iv).toNat)
    case atStart =>
      refine ⟨0, spZero mb lb rb m FV, by omega, rfl, S0, ?_, XW, rfl⟩
      have h1 := Bld.start fl mb lb rb FV
      rw [HF.out] at h1
      exact h1
    case round =>
      clear S0 XW
      obtain ⟨i, s, hi, rfl, SS, RR, XX, LB⟩ := hrel
      by_cases hlt : i < m
      · obtain ⟨l, hl⟩ : ∃ l, fl[i]? = some l := ⟨_, List.getElem?_eq_getElem (by rw [HF.out]; exact hlt)⟩
        obtain ⟨lv, hlv, hlz⟩ := HZ.out.at hl
        obtain ⟨b0, off, rfl, ci⟩ := sl_at HP0.out XX.out hlv
        have HL : Hid (fl[i]? = some l) := hl
        have HLZ : Hid (Zs w lv l) := hlz
        have HLF : Hid (l.Nodup ∧ ∀ x ∈ l, 0 ≤ x ∧ x < 9223372036854775808) := HFL.out l (List.mem_of_getElem? hl)
        have HLL : Hid (l.length ≤ 1000000) := Nat.le_trans (flat_le hl) HT.out
        obtain ⟨la, lc, rfl, hl2, hl3⟩ := zs_shape hlz
        obtain ⟨n, hn⟩ : ∃ n, l.length = n := ⟨_, rfl⟩
        have HN : Hid (l.length = n) := hn
        have hn6 : n ≤ 1000000 := by rw [← hn]; exact HLL.out
        rw [hn] at ci hl2 HLZ
        have him : i < 1000000 := by omega
        clear hl hlv hlz hn
        go_wp2
        go_loopw [31] (fun iv wr => ∃ (j : Nat) (s : SpS), j ≤ n ∧ iv = .int .i64 j ∧ Hid (Sp w.heap.size wr p s) ∧ Hid (Bld fl FV i (l.take j) s) ∧ Hid (Below w.heap.size w wr) ∧ Hid (s.lb = lb)) (fun iv _ => n - (intOf iv).toNat)
        case atStart => exact ⟨0, s, by omega, rfl, SS, RR, XX, LB⟩
        case round =>
          clear SS RR XX LB ci
          obtain ⟨j, s, hj, rfl, SS, RR, XX, LB⟩ := hrel
          by_cases hjl : j < n
          · obtain ⟨z, hz⟩ : ∃ z, l[j]? = some z := ⟨_, List.getElem?_eq_getElem (by rw [HN.out]; exact hjl)⟩
            have HZ0 : Zs w (.slice la n lc) l := HLZ.out
            obtain ⟨b1, off1, rfl, cz⟩ := zs_at HZ0 XX.out hz
            have HLj : Hid (l[j]? = some z) := hz
            have ZM : z ∈ l := List.mem_of_getElem? hz
            obtain ⟨hz0, hz1⟩ := HLF.out.2 z ZM
            have wz : (Lit.int .i64 z).wf = true := wf_i64 (by omega) hz1
            clear ZM hz HZ0
            obtain ⟨v0, hv0⟩ : ∃ v0, (s.f z).getD (.slice none 0 0) = v0 := ⟨_, rfl⟩
            have GG : Hid (∀ (W W' : World) (v : Value), Sp w.heap.size W p s → W.grownBy W' v0.ownBlock → OwnZ w.heap.size W' v ((s.G z).length + 1) (s.G z ++ [(i : Int)]) → (v.ownBlock = v0.ownBlock ∨ v.ownBlock = some W.heap.size) → SpC w.heap.size W' p (rowS s z (i : Int) v) ∧ MpO W' s.mb s.k s.f) := fun W W' v h1 h2 h3 h4 => by
              rw [← hv0] at h2 h4
              exact h1.grownRow z (i : Int) h2 h3 h4
            have OO : Hid (∀ W, Sp w.heap.size W p s → OwnZ w.heap.size W v0 (s.G z).length (s.G z)) := fun W h1 => by rw [← hv0]; exact h1.row0 z
            have LK : Hid (∀ W, Sp w.heap.size W p s → (Instr.lookup 91 (.map (some s.mb)) (.int .i64 z) false).run Tryz.prog W = .ok v0 W) := fun W h1 => by rw [← hv0]; exact h1.map.look Tryz.underlying91 (Tryz.zeroZs W) wz
            have CP : Hid (∀ W, KeepsBut (RowBl s v0) wr W → W.cell? ⟨p, 0, none⟩ = some (.map (some s.mb))) := fun W hW => by
              have hne : ¬ RowBl s v0 p := by
                rintro (h1 | h1)
                · obtain ⟨es, c, hmm⟩ := SS.out.map.isMap
                  exact heap_neM SS.out.box hmm h1
                · rw [← hv0] at h1
                  obtain ⟨u, h2, h3⟩ := SS.out.row0_ne z h1
                  obtain ⟨cs, hc⟩ := (SS.out.rows z u h2).kind h3
                  exact heap_ne hc SS.out.box (by decide) rfl
              have h1 : W.heap[p]? = wr.heap[p]? := hW.block p SS.out.lt hne
              exact (World.cell?_of_block h1).trans SS.out.cells.1
            have RB : Hid (∀ k, RowBl s v0 k → w.heap.size ≤ k) := by
              rintro k (h1 | h1)
              · rw [h1]; exact SS.out.bm
              · rw [← hv0] at h1
                obtain ⟨u, h2, h3⟩ := SS.out.row0_ne z h1
                exact ((SS.out.rows z u h2).lt k h3).1
            have KB : s.k ≤ 1000000000 := by
              have h1 := RR.out.k
              have h2 := flat_take_le fl i
              have h3 := HT.out
              have h4 := List.length_take_le j l
              have h5 := HLL.out
              have h6 := HN.out
              omega
            have GB : Hid ((s.G z).length + 1 ≤ 1000000000) := by
              have h1 := RR.out.G z
              have h2 : (inTo fl i z).length ≤ i := by
                unfold inTo
                rw [List.length_map]
                have := List.length_filter_le (fun e => decide (z ∈ fl.getD e [])) (List.range i)
                rwa [List.length_range] at this
              unfold Hid
              rw [h1, List.length_append]
              split <;> simp <;> omega
            clear hv0
            have SZ : Hid (w.heap.size ≤ wr.heap.size) := XX.out.size
            go_upto_region 8 with fail
            refine wp_region_any (by kernel_rfl) ?_
            obtain ⟨gs, hgs⟩ : ∃ gs : List (Value → World → Prop), gs = [IsV (Value.pointer (some { block := p, off := 0 })), IsV (Value.pointer (some { block := p, off := 0 })), IsV (.pointer (some ⟨p, 0, none⟩)), IsV (.map (some s.mb)), IsV (Value.int IntKind.i64 z), IsV (Value.pointer (some { block := p, off := 0 })), IsV (Value.pointer (some { block := p, off := 0 })), IsV (.pointer (some ⟨p, 0, none⟩)), IsV (.map (some s.mb)), IsV (Value.int IntKind.i64 z), IsV (v0), IsV (Value.int IntKind.i64 ↑i), IsAnyV, IsAnyV, IsAnyV] := ⟨_, rfl⟩
            have g0 : Hid (gs[0]? = some (IsV (Value.pointer (some { block := p, off := 0 })))) := by unfold Hid; rw [hgs]; rfl
            have g1 : Hid (gs[1]? = some (IsV (Value.pointer (some { block := p, off := 0 })))) := by unfold Hid; rw [hgs]; rfl
            have g2 : Hid (gs[2]? = some (IsV (.pointer (some ⟨p, 0, none⟩)))) := by unfold Hid; rw [hgs]; rfl
            have g3 : Hid (gs[3]? = some (IsV (.map (some s.mb)))) := by unfold Hid; rw [hgs]; rfl
            have g4 : Hid (gs[4]? = some (IsV (Value.int IntKind.i64 z))) := by unfold Hid; rw [hgs]; rfl
            have g5 : Hid (gs[5]? = some (IsV (Value.pointer (some { block := p, off := 0 })))) := by unfold Hid; rw [hgs]; rfl
            have g6 : Hid (gs[6]? = some (IsV (Value.pointer (some { block := p, off := 0 })))) := by unfold Hid; rw [hgs]; rfl
            have g7 : Hid (gs[7]? = some (IsV (.pointer (some ⟨p, 0, none⟩)))) := by unfold Hid; rw [hgs]; rfl
            have g8 : Hid (gs[8]? = some (IsV (.map (some s.mb)))) := by unfold Hid; rw [hgs]; rfl
            have g9 : Hid (gs[9]? = some (IsV (Value.int IntKind.i64 z))) := by unfold Hid; rw [hgs]; rfl
            have g10 : Hid (gs[10]? = some (IsV (v0))) := by unfold Hid; rw [hgs]; rfl
            have g11 : Hid (gs[11]? = some (IsV (Value.int IntKind.i64 ↑i))) := by unfold Hid; rw [hgs]; rfl
            have g12 : Hid (gs[12]? = some (IsAnyV)) := by unfold Hid; rw [hgs]; rfl
            have g13 : Hid (gs[13]? = some (IsAnyV)) := by unfold Hid; rw [hgs]; rfl
            have g14 : Hid (gs[14]? = some (IsAnyV)) := by unfold Hid; rw [hgs]; rfl
            have gk : Hid (∀ p ∈ gs, ∀ v (U U' : World), p v U → p v U') := by
              unfold Hid
              rw [hgs]
              simp only [List.forall_mem_cons]
              exact ⟨(fun _ _ _ h => h), (fun _ _ _ h => h), (fun _ _ _ h => h), (fun _ _ _ h => h), (fun _ _ _ h => h), (fun _ _ _ h => h), (fun _ _ _ h => h), (fun _ _ _ h => h), (fun _ _ _ h => h), (fun _ _ _ h => h), (fun _ _ _ h => h), (fun _ _ _ h => h), (fun _ _ _ h => h), (fun _ _ _ h => h), (fun _ _ _ h => h), by simp⟩
            clear hgs
            have JS : Hid (∀ W8 W8', Below W8.heap.size W8 W8' → (fun W8 => KeepsBut (RowBl s v0) wr W8) W8 → (fun W8 => KeepsBut (RowBl s v0) wr W8) W8') := fun W8 W8' hb h => h.trans (KeepsBut.ofBelow hb)
            have st12 : Hid (Stays (IsSrcI (i : Int))) := stays_srci _
            have st13 : Hid (Stays (IsRwP w.heap.size p s z (i : Int))) := stays_rows2 _ _ _ _ _
            have st14 : Hid (Stays (IsRowF w.heap.size p s z (i : Int))) := stays_rowf _ _ _ _ _
            have su13 : Hid (∀ W8 W8', Below W8.heap.size W8 W8' → (fun W8 => Sp w.heap.size W8 p s) W8 → (fun W8 => Sp w.heap.size W8 p s) W8') := fun W8 W8' hb h => h.below hb
            refine wpAny_inv4 (fun listed ac W8 => ∃ xv8 : Nat → Value, ac = ⟨#[Value.slice (some { block := b0, off := off }) m pc, FV, undef, undef, Value.pointer none, Value.pointer (some { block := p, off := 0 }), Value.int IntKind.i64 ↑i, Value.slice (some { block := b1, off := off1 }) n lc, undef, Value.int IntKind.i64 z, undef, undef, xv 0, xv 1, xv 2, xv 3, xv 4, xv 5, xv 6, xv 7, xv 8, xv 9, Value.slice (some { block := b0, off := off }) m pc, Value.int IntKind.i64 ↑m, Value.int IntKind.i64 ↑i, Value.bool true, Value.int IntKind.i64 ↑i, Value.pointer (some { block := b0, off := off + i }), Value.slice (some { block := b1, off := off1 }) n lc, Value.slice (some { block := b1, off := off1 }) n lc, Value.int IntKind.i64 ↑n, Value.int IntKind.i64 ↑j, Value.bool true, Value.pointer (some { block := b1, off := off1 + j }), Value.int IntKind.i64 z, xv8 0, xv8 1, xv8 2, xv8 3, xv8 4, xv8 5, xv8 6, xv8 7, xv8 8, xv8 9, xv8 10, xv8 11, xv8 12, xv8 13, u49, u50, u51, u52, u53, u54, u55, u56, u57, u58, u59, u60, u61, u62, u63, u64, u65, undef, undef, undef, undef, undef, undef, undef, undef, undef, undef, undef, undef, undef, undef, undef, undef, undef, undef, undef], []⟩ ∧ (fun W8 => KeepsBut (RowBl s v0) wr W8) W8 ∧ Lst gs listed xv8 W8 ∧ Fd listed xv8 W8 12 13 (IsSrcI (i : Int)) ∧ Fd listed xv8 W8 13 14 (IsRwP w.heap.size p s z (i : Int)) ∧ Fe listed xv8 W8 14 (IsRowF w.heap.size p s z (i : Int)) ∧ Fz listed W8 13 (fun W8 => Sp w.heap.size W8 p s)) (by kernel_rfl) ?_ ?_ _ _ _ _ (by kernel_rfl) (of_decide_eq_true (by kernel_rfl)) (Down.start _) ⟨fun jx => if jx = 0 then u35 else if jx = 1 then u36 else if jx = 2 then u37 else if jx = 3 then u38 else if jx = 4 then u39 else if jx = 5 then u40 else if jx = 6 then u41 else if jx = 7 then u42 else if jx = 8 then u43 else if jx = 9 then u44 else if jx = 10 then u45 else if jx = 11 then u46 else if jx = 12 then u47 else if jx = 13 then u48 else undef, rfl, KeepsBut.drew _ _, Lst.start _ _ _ _, Fd.start _ _ _ _ _ _, Fd.start _ _ _ _ _ _, Fe.start _ _ _ _ _, Fz.start (SS.out.below (below0 _))⟩
            · go_light
              rintro listed ac W8 ⟨xv8, rfl, hb, hG, hF12, hF13, hF14, hU13⟩ hD i hi hnl hd
              have hin : i < 15 := hi
              clear hi
              have hcase : i = 0 ∨ i = 1 ∨ i = 2 ∨ i = 3 ∨ i = 4 ∨ i = 5 ∨ i = 6 ∨ i = 7 ∨ i = 8 ∨ i = 9 ∨ i = 10 ∨ i = 11 ∨ i = 12 ∨ i = 13 ∨ i = 14 := by omega
              rcases hcase with rfl | rfl | rfl | rfl | rfl | rfl | rfl | rfl | rfl | rfl | rfl | rfl | rfl | rfl | rfl
              · refine wpOp_step rfl (fun K' hK => ?_)
                clear hd hin hD
                go_simp
                exact hK _ _ ⟨updV xv8 0 (Value.pointer (some { block := p, off := 0 })), by simp [updV], hb, hG.any gk.out g0.out _ rfl, hF12.step (fun _ h => h) (by decide) (by decide) _, hF13.step (fun _ h => h) (by decide) (by decide) _, hF14.step (fun _ h => h) (by decide) _, hU13.step (fun h => h) (by decide)⟩
              · refine wpOp_step rfl (fun K' hK => ?_)
                simp [Region.binds] at hd
                have e0 : xv8 0 = Value.pointer (some { block := p, off := 0 }) := hG.get g0.out (by simp [hd])
                clear hd hin hD
                go_simp
                exact hK _ _ ⟨updV xv8 1 (Value.pointer (some { block := p, off := 0 })), by simp [updV, e0], hb, hG.any gk.out g1.out _ rfl, hF12.step (fun _ h => h) (by decide) (by decide) _, hF13.step (fun _ h => h) (by decide) (by decide) _, hF14.step (fun _ h => h) (by decide) _, hU13.step (fun h => h) (by decide)⟩
              · refine wpOp_step rfl (fun K' hK => ?_)
                simp [Region.binds] at hd
                have e1 : xv8 1 = Value.pointer (some { block := p, off := 0 }) := hG.get g1.out (by simp [hd])
                clear hd hin hD
                go_simp
                exact hK _ _ ⟨updV xv8 2 (.pointer (some ⟨p, 0, none⟩)), by simp [updV, e1], hb, hG.any gk.out g2.out _ rfl, hF12.step (fun _ h => h) (by decide) (by decide) _, hF13.step (fun _ h => h) (by decide) (by decide) _, hF14.step (fun _ h => h) (by decide) _, hU13.step (fun h => h) (by decide)⟩
              · refine wpOp_step rfl (fun K' hK => ?_)
                simp [Region.binds] at hd
                have e2 : xv8 2 = .pointer (some ⟨p, 0, none⟩) := hG.get g2.out (by simp [hd])
                have c0 := CP.out W8 hb
                clear hd hin hD
                go_simp
                exact hK _ _ ⟨updV xv8 3 (.map (some s.mb)), by simp [updV, e2], hb, hG.any gk.out g3.out _ rfl, hF12.step (fun _ h => h) (by decide) (by decide) _, hF13.step (fun _ h => h) (by decide) (by decide) _, hF14.step (fun _ h => h) (by decide) _, hU13.step (fun h => h) (by decide)⟩
              · refine wpOp_step rfl (fun K' hK => ?_)
                clear hd hin hD
                go_simp
                exact hK _ _ ⟨updV xv8 4 (Value.int IntKind.i64 z), by simp [updV], hb, hG.any gk.out g4.out _ rfl, hF12.step (fun _ h => h) (by decide) (by decide) _, hF13.step (fun _ h => h) (by decide) (by decide) _, hF14.step (fun _ h => h) (by decide) _, hU13.step (fun h => h) (by decide)⟩
              · refine wpOp_step rfl (fun K' hK => ?_)
                clear hd hin hD
                go_simp
                exact hK _ _ ⟨updV xv8 5 (Value.pointer (some { block := p, off := 0 })), by simp [updV], hb, hG.any gk.out g5.out _ rfl, hF12.step (fun _ h => h) (by decide) (by decide) _, hF13.step (fun _ h => h) (by decide) (by decide) _, hF14.step (fun _ h => h) (by decide) _, hU13.step (fun h => h) (by decide)⟩
              · refine wpOp_step rfl (fun K' hK => ?_)
                simp [Region.binds] at hd
                have e5 : xv8 5 = Value.pointer (some { block := p, off := 0 }) := hG.get g5.out (by simp [hd])
                clear hd hin hD
                go_simp
                exact hK _ _ ⟨updV xv8 6 (Value.pointer (some { block := p, off := 0 })), by simp [updV, e5], hb, hG.any gk.out g6.out _ rfl, hF12.step (fun _ h => h) (by decide) (by decide) _, hF13.step (fun _ h => h) (by decide) (by decide) _, hF14.step (fun _ h => h) (by decide) _, hU13.step (fun h => h) (by decide)⟩
              · refine wpOp_step rfl (fun K' hK => ?_)
                simp [Region.binds] at hd
                have e6 : xv8 6 = Value.pointer (some { block := p, off := 0 }) := hG.get g6.out (by simp [hd])
                clear hd hin hD
                go_simp
                exact hK _ _ ⟨updV xv8 7 (.pointer (some ⟨p, 0, none⟩)), by simp [updV, e6], hb, hG.any gk.out g7.out _ rfl, hF12.step (fun _ h => h) (by decide) (by decide) _, hF13.step (fun _ h => h) (by decide) (by decide) _, hF14.step (fun _ h => h) (by decide) _, hU13.step (fun h => h) (by decide)⟩
              · refine wpOp_step rfl (fun K' hK => ?_)
                simp [Region.binds] at hd
                have e7 : xv8 7 = .pointer (some ⟨p, 0, none⟩) := hG.get g7.out (by simp [hd])
                have c0 := CP.out W8 hb
                clear hd hin hD
                go_simp
                exact hK _ _ ⟨updV xv8 8 (.map (some s.mb)), by simp [updV, e7], hb, hG.any gk.out g8.out _ rfl, hF12.step (fun _ h => h) (by decide) (by decide) _, hF13.step (fun _ h => h) (by decide) (by decide) _, hF14.step (fun _ h => h) (by decide) _, hU13.step (fun h => h) (by decide)⟩
              · refine wpOp_step rfl (fun K' hK => ?_)
                clear hd hin hD
                go_simp
                exact hK _ _ ⟨updV xv8 9 (Value.int IntKind.i64 z), by simp [updV], hb, hG.any gk.out g9.out _ rfl, hF12.step (fun _ h => h) (by decide) (by decide) _, hF13.step (fun _ h => h) (by decide) (by decide) _, hF14.step (fun _ h => h) (by decide) _, hU13.step (fun h => h) (by decide)⟩
              · refine wpOp_step rfl (fun K' hK => ?_)
                simp [Region.binds] at hd
                have e8 : xv8 8 = .map (some s.mb) := hG.get g8.out (by simp [hd])
                have e9 : xv8 9 = Value.int IntKind.i64 z := hG.get g9.out (by simp [hd])
                have f13 : listed.getD 13 false = false := by
                  cases hx : listed.getD 13 false with
                  | false => rfl
                  | true =>
                    have r10 : listed.getD 10 false = true := by have h := hD 13 (by decide) hx; simp [Region.binds] at h; simp [h]
                    rw [getD_false hnl] at r10; cases r10
                have u13 := hU13 f13
                have kr := LK.out W8 u13
                clear hd hin hD
                go_simp
                exact hK _ _ ⟨updV xv8 10 (v0), by simp [updV, e8, e9], hb, hG.any gk.out g10.out _ rfl, hF12.step (fun _ h => h) (by decide) (by decide) _, hF13.step (fun _ h => h) (by decide) (by decide) _, hF14.step (fun _ h => h) (by decide) _, hU13.step (fun h => h) (by decide)⟩
              · refine wpOp_step rfl (fun K' hK => ?_)
                clear hd hin hD
                go_simp
                exact hK _ _ ⟨updV xv8 11 (Value.int IntKind.i64 ↑i), by simp [updV], hb, hG.any gk.out g11.out _ rfl, hF12.step (fun _ h => h) (by decide) (by decide) _, hF13.step (fun _ h => h) (by decide) (by decide) _, hF14.step (fun _ h => h) (by decide) _, hU13.step (fun h => h) (by decide)⟩
              · refine wpOp_step rfl (fun K' hK => ?_)
                simp [Region.binds] at hd
                have e11 : xv8 11 = Value.int IntKind.i64 ↑i := hG.get g11.out (by simp [hd])
                clear hd hin hD
                go_simp
                exact hK _ _ ⟨updV xv8 12 (.slice (some ⟨W8.heap.size, 0, none⟩) 1 1), by simp [updV, e11], JS.out _ _ (below_alloc _ _) hb, hG.any gk.out g12.out _ trivial, Fd.new (zs_one _ _ _), hF13.on st13.out (below_alloc _ _) (by decide) (by decide) _, hF14.on st14.out (below_alloc _ _) (by decide) _, hU13.step (su13.out _ _ (below_alloc _ _)) (by decide)⟩
              · refine wpOp_step rfl (fun K' hK => ?_)
                simp [Region.binds] at hd
                have e10 : xv8 10 = v0 := hG.get g10.out (by simp [hd])
                have l12 : listed.getD 12 false = true := by simp [hd]
                have m12 := hF12.get l12 hnl
                have f14 : listed.getD 14 false = false := by
                  cases hx : listed.getD 14 false with
                  | false => rfl
                  | true =>
                    have r13 : listed.getD 13 false = true := by have h := hD 14 (by decide) hx; simp [Region.binds] at h; simp [h]
                    rw [getD_false hnl] at r13; cases r13
                have u13 := hU13.get hnl
                clear hd hin hD
                refine step_addZ W8 rfl (.tmp 45) (.tmp 47) rfl w.heap.size v0 (s.G z).length (s.G z) e10 (OO.out W8 u13) _ 1 [(i : Int)] rfl m12 GB.out (Nat.le_trans SZ.out hb.size) ?_
                intro ao' cap' w' ho hg hat hnc hcm
                have hgr := GG.out W8 w' _ u13 hg ho hat
                exact hK _ _ ⟨updV xv8 13 (.slice ao' ((s.G z).length + 1) cap'), by simp [updV, Act.put], hb.trans (KeepsBut.ofGrownO hg (fun q hq => .inl (.inr hq))), hG.any gk.out g13.out _ trivial, Fd.off hnl, Fd.new (hgr), Fe.yet f14 (by decide) _, Fz.off hnl⟩
              · refine wpOp_step rfl (fun K' hK => ?_)
                simp [Region.binds] at hd
                have e3 : xv8 3 = .map (some s.mb) := hG.get g3.out (by simp [hd])
                have e4 : xv8 4 = Value.int IntKind.i64 z := hG.get g4.out (by simp [hd])
                have l13 : listed.getD 13 false = true := by simp [hd]
                have m13 := hF13.get l13 hnl
                have q13 : listed.getD 13 false = true := by simp [hd]
                clear hd hin hD
                obtain ⟨hC, hM⟩ := m13
                obtain ⟨w', hrun, hM', hg'⟩ := hM.update Tryz.underlying91 KB wz (xv8 13)
                go_simp
                exact hK _ _ ⟨updV xv8 14 undef, by simp [updV, e3, e4], hb.trans (KeepsBut.ofGrown hg' (.inl rfl)), hG.any gk.out g14.out _ trivial, Fd.gone q13 (by decide), Fd.off hnl, Fe.new (⟨_, hC.mapped hM hg' hM'⟩), Fz.gone q13 (by decide)⟩
            · rintro listed ac W8 ⟨xv8, rfl, hb, hG, hF12, hF13, hF14, hU13⟩ hall
              have m14 : Hid ((IsRowF w.heap.size p s z (i : Int)) (xv8 14) W8) := hF14 (hall 14 (by decide))
              have XW : Hid ((fun W8 => KeepsBut (RowBl s v0) wr W8) W8) := hb
              clear hall hG hb gk JS g0 g1 g2 g3 g4 g5 g6 g7 g8 g9 g10 g11 g12 g13 g14 hF12 st12 hF13 st13 hF14 st14 hU13 su13
              obtain ⟨v8, hS8⟩ := m14.out
              have S8 : Hid (Sp w.heap.size W8 p (rowS s z (i : Int) v8)) := hS8
              have X8 : Hid (Below w.heap.size w W8) := XX.out.trans (XW.out.below SZ.out RB.out)
              obtain ⟨w8, hw8⟩ : ∃ x, x = W8 := ⟨_, rfl⟩
              subst hw8
              clear m14 hS8 XW LK GG OO CP RB KB GB
              obtain ⟨x, hx⟩ : ∃ x, s.r i = x := ⟨_, rfl⟩
              have hxr : x = ((xorN (l.take j) : Nat) : Int) := by
                have h1 := RR.out.r i l HL.out
                simp only [Nat.lt_irrefl, if_false, if_true] at h1
                rw [← hx, h1]
              have hxb : 0 ≤ x ∧ x < 9223372036854775808 := by
                have h1 : xorN (l.take j) < 2 ^ 63 := xorN_lt fun y hy => (HLF.out.2 y (List.mem_of_mem_take hy)).2
                have h2 : (2 : Nat) ^ 63 = 9223372036854775808 := by decide
                rw [h2] at h1
                rw [hxr]
                omega
              obtain ⟨y, hy⟩ : ∃ y, xorI x z = y := ⟨_, rfl⟩
              have ex : bits BinOp.xor IntKind.i64 x z = y := by rw [← hy]; exact xorI_bits hxb ⟨hz0, hz1⟩
              obtain ⟨s8, hs8⟩ : ∃ s8, rowS s z (i : Int) v8 = s8 := ⟨_, rfl⟩
              have R8 : Hid (Bld fl FV i (l.take (j + 1)) { s8 with r := updN s8.r i y }) := by
                have hnt : z ∉ l.take j := not_taken HLF.out.1 HLj.out
                have h1 := RR.out.block HL.out hnt hz0 (fun x hx => (HLF.out.2 x (List.mem_of_mem_take hx)).1) v8
                obtain ⟨h2, h3⟩ := List.getElem?_eq_some_iff.1 HLj.out
                unfold Hid
                rw [List.take_succ_eq_append_getElem h2, h3, ← hs8]
                rw [hx, hy] at h1
                have e1 : (rowS s z (i : Int) v8).r = s.r := rfl
                rw [e1]
                exact h1
              have hs8m : s8.m = m := by rw [← hs8]; show s.m = m; rw [RR.out.m]; exact HF.out
              have L8 : Hid (s8.lb = lb) := by unfold Hid; rw [← hs8]; exact LB.out
              have hs8r : s8.r i = x := by rw [← hs8]; exact hx
              rw [hs8] at S8
              clear hxr hx RR SS LB hs8 hy
              obtain ⟨rb, hrb⟩ : ∃ x, s8.rb = x := ⟨_, rfl⟩
              have er : s8.rv = .slice (some ⟨rb, 0, none⟩) m m := by rw [← hrb, ← hs8m]; rfl
              obtain ⟨-, -, c2, -, -, -, -⟩ := S8.out.cells
              rw [er] at c2
              have or := S8.out.rest
              rw [er, hs8m] at or
              have cr := or.cell (tab_get s8.r hlt)
              have fr := or.frozen i
              rw [hs8r] at cr
              have RBB : Hid (w.heap.size ≤ rb) := (or.lt rb rfl).1
              have SR : Hid (Sp w.heap.size (w8.setCell ⟨rb, i, none⟩ (.int .i64 y)) p { s8 with r := updN s8.r i y }) := by rw [← hrb]; exact S8.out.setRest (by rw [hs8m]; exact hlt) y
              have XR : Hid (Below w.heap.size w (w8.setCell ⟨rb, i, none⟩ (.int .i64 y))) := X8.out.setCell RBB.out _
              clear or er hrb S8 X8
              go_upto_region 10 with fail
              obtain ⟨w9, hw9⟩ : ∃ x, w8.setCell ⟨rb, i, none⟩ (.int .i64 y) = x := ⟨_, rfl⟩
              rw [hw9] at SR XR ⊢
              clear hw9 c2 cr fr
              go_wp2
              go_roundw
              case rel => exact ⟨j + 1, _, by omega, by go_num, SR, R8, XR, L8⟩
              case measure => simp [intOf]; omega
          · obtain rfl : n = j := by omega
            have R2 : Hid (Bld fl FV i l s) := by
              have h1 := RR.out
              rwa [List.take_of_length_le (by rw [HN.out]; exact Nat.le_refl _)] at h1
            have FL : Hid (s.FF.length ≤ 1000000) := by have := R2.out.len; unfold Hid; omega
            have R3 : Hid (∀ u, Bld fl FV (i + 1) [] { s with h := updN s.h i (n : Int), fsv := u, FF := if (n : Int) = 1 then s.FF ++ [(i : Int)] else s.FF }) := fun u => by
              have h1 := R2.out.leave HL.out u
              rw [HN.out] at h1
              exact h1
            have hsm : s.m = m := by rw [R2.out.m]; exact HF.out
            have hsf : s.fv = FV := R2.out.fv
            clear RR R2
            go_wp2_with fail
            refine (LVH.out p i (n : Int) s wr SS.out XX.out hsm hlt hsf FL.out).mono ?_
            rintro e w5 ⟨rfl, ⟨u, S5⟩, X5⟩
            have S6 : Hid (Sp w.heap.size w5 p { s with h := updN s.h i (n : Int), fsv := u, FF := if (n : Int) = 1 then s.FF ++ [(i : Int)] else s.FF }) := S5
            have R6 : Hid (Bld fl FV (i + 1) [] { s with h := updN s.h i (n : Int), fsv := u, FF := if (n : Int) = 1 then s.FF ++ [(i : Int)] else s.FF }) := R3.out u
            have X6 : Hid (Below w.heap.size w w5) := XX.out.trans X5
            clear S5 X5 SS XX FL R3 hsm hsf
            go_wp2
            go_roundw
            case rel => exact ⟨i + 1, _, by omega, by go_num, S6, R6, X6, LB⟩
            case measure => simp [intOf]; omega
      · obtain rfl : m = i := by omega
        have R0 : Hid (Run fl FV s) := by
          have h1 := RR.out
          rw [← HF.out] at h1
          exact h1.run
        have hND : Hid (∀ l ∈ fl, l.Nodup) := fun l hl => (HFL.out l hl).1
        have hN0 : Hid (∀ l ∈ fl, ∀ x ∈ l, 0 ≤ x) := fun l hl x hx => ((HFL.out l hl).2 x hx).1
        clear RR
        go_wp2
        go_loopw [10] (fun iv wr => ∃ (s : SpS), Hid (Sp w.heap.size wr p s) ∧ Hid (Run fl FV s) ∧ Hid (Below w.heap.size w wr) ∧ Hid (s.lb = lb)) (fun _ wr => muW p lb m wr)
        case atStart => exact ⟨s, SS, R0, XX, LB⟩
        case round =>
          clear SS R0 XX LB
          obtain ⟨s, SS, RR, XX, LB⟩ := hrel
          have hsm : s.m = m := by rw [RR.out.m]; exact HF.out
          rcases List.eq_nil_or_concat s.FF with hF | ⟨F, z, hF⟩
          · have DD : Hid (Done fl (kn s)) := RR.out.done hF
            go_wp2_with fail
            refine (next_none w.heap.size p s wr SS.out hF).mono ?_
            rintro e w5 ⟨rfl, rfl⟩
            go_wp2
            go_ret
            exact ⟨p, s, rfl, SS.out, by rw [hFV]; exact RR.out, DD.out, XX.out⟩
          · rw [List.concat_eq_append] at hF
            obtain ⟨q, rfl, hqm⟩ := RR.out.N z (by rw [hF]; simp)
            rw [HF.out] at hqm
            have HFF : Hid (s.FF = F ++ [(q : Int)]) := hF
            have MU : Hid (muW p lb m wr = F.length + 1 + 2 * cnt2 m s.h) := by
              have h1 := muW_eq SS.out hsm LB.out
              rw [hF, List.length_append, List.length_singleton] at h1
              exact h1
            have HSM : Hid (s.m = m) := hsm
            clear hF hsm
            go_wp2_with fail
            refine (next_some w.heap.size p s wr SS.out F (q : Int) HFF.out).mono ?_
            rintro e w5 ⟨rfl, ⟨v, S5⟩, X5⟩
            have S6 : Hid (Sp w.heap.size w5 p { s with fsv := v, FF := F }) := S5
            have X6 : Hid (Below w.heap.size w w5) := XX.out.trans X5
            obtain ⟨h0, hh0⟩ : ∃ x, s.h q = x := ⟨_, rfl⟩
            have HH0 : Hid (s.h q = h0) := hh0
            obtain ⟨-, c1, -, -, -, -, -⟩ := S5.cells
            have c1' : w5.cell? ⟨p, 1, none⟩ = some (.slice (some ⟨lb, 0, none⟩) m m) := by
              rw [c1]
              show some (Value.slice (some ⟨s.lb, 0, none⟩) s.m s.m) = _
              rw [HSM.out, LB.out]
            have ol : OwnZ w.heap.size w5 (.slice (some ⟨lb, 0, none⟩) m m) m (tabZ m s.h) := by
              have h1 := S5.left
              have h2 : ({ s with fsv := v, FF := F } : SpS).lv = .slice (some ⟨s.lb, 0, none⟩) s.m s.m := rfl
              rw [h2] at h1
              simp only [] at h1
              rw [HSM.out, LB.out] at h1
              exact h1
            have cl := ol.cell (tab_get s.h hqm)
            rw [hh0] at cl
            clear S5 X5 SS XX c1 ol hh0
            by_cases h1 : h0 = 1
            · subst h1
              obtain ⟨b, lq, hlq, hLq, hrq, hb0, hbl, hbk⟩ := RR.out.last hN0.out (by rw [HF.out]; exact hqm) HH0.out
              have hG : s.G b = inAll fl b := RR.out.G b
              have hK : ∀ (e : Nat) (l : List Int), fl[e]? = some l → ∀ x ∈ leftZ (kn s) l, x ∈ l := fun e l _ x hx => (leftZ_mem.1 hx).1
              have hlen0 : s.ss.length + (F.length + 1) ≤ 3 * m := by
                have h1 := RR.out.len
                rw [HFF.out, List.length_append, List.length_singleton, HF.out] at h1
                omega
              have hgl := inAll_len fl b
              have FOL : Hid (Calls Tryz.prog 68 #[.pointer (some ⟨p, 0, none⟩), .int .i64 (q : Int)] w5 fun e' w' => e' = .returned (.tuple #[]) ∧ (∃ u u', Sp w.heap.size w' p { s with h := decH s.h (s.G b), r := decR s.r (s.G b) b, fsv := u, FF := F ++ newF s.h (s.G b), ssv := u', ss := s.ss ++ [(q, b)] }) ∧ Below w.heap.size w5 w') := by
                refine follow_any w p m FV { s with fsv := v, FF := F } q b w5 S6.out X6.out HSM.out hqm RR.out.fv (LVH.out p) ?_ ?_ hrq ?_ ?_ ?_ ?_
                · intro e he
                  obtain ⟨l, hl⟩ : ∃ l, fl[e]? = some l := ⟨_, List.getElem?_eq_getElem (by rw [HF.out]; exact he)⟩
                  show 0 ≤ s.r e ∧ s.r e < _
                  rw [RR.out.r e l hl]
                  have h1 : xorN (leftZ (kn s) l) < 2 ^ 63 := xorN_lt fun y hy => ((HFL.out l (List.mem_of_getElem? hl)).2 y (hK e l hl y hy)).2
                  have h2 : (2 : Nat) ^ 63 = 9223372036854775808 := by decide
                  rw [h2] at h1
                  omega
                · intro e he
                  obtain ⟨l, hl⟩ : ∃ l, fl[e]? = some l := ⟨_, List.getElem?_eq_getElem (by rw [HF.out]; exact he)⟩
                  show 0 ≤ s.h e ∧ s.h e ≤ _
                  rw [RR.out.h e l hl]
                  have h1 : (leftZ (kn s) l).length ≤ l.length := List.length_filter_le _ _
                  have h2 := flat_le hl
                  have h3 := HT.out
                  omega
                · intro x hx
                  have hx' : x ∈ s.G b := hx
                  rw [hG] at hx'
                  have h1 := inAll_nat hx'
                  rwa [HF.out] at h1
                · show (s.G b).Nodup
                  rw [hG]
                  exact inAll_nodup fl b
                · show F.length + (s.G b).length ≤ _
                  rw [hG]
                  have := HF.out
                  omega
                · show s.ss.length ≤ _
                  omega
              have CS : Hid ((F ++ newF s.h (s.G b)).length + 2 * cnt2 m (decH s.h (s.G b)) < F.length + 1 + 2 * cnt2 m s.h) := by
                have h1 := cnt2_step fl b s.h
                rw [HF.out] at h1
                unfold Hid
                rw [hG, List.length_append]
                omega
              have RF : Hid (∀ u u', Run fl FV { s with h := decH s.h (s.G b), r := decR s.r (s.G b) b, fsv := u, FF := F ++ newF s.h (s.G b), ssv := u', ss := s.ss ++ [(q, b)] }) := fun u u' => RR.out.follow hND.out hN0.out HFF.out (by rw [HF.out]; exact hqm) HH0.out hrq u u'
              clear hlq hLq hrq hb0 hbl hbk hG hK hlen0 hgl RR
              go_wp2_with fail
              refine FOL.out.mono ?_
              rintro e w7 ⟨rfl, ⟨u, u', S7⟩, X7⟩
              have S8 : Hid (Sp w.heap.size w7 p { s with h := decH s.h (s.G b), r := decR s.r (s.G b) b, fsv := u, FF := F ++ newF s.h (s.G b), ssv := u', ss := s.ss ++ [(q, b)] }) := S7
              have X8 : Hid (Below w.heap.size w w7) := X6.out.trans X7
              have R8 : Hid (Run fl FV { s with h := decH s.h (s.G b), r := decR s.r (s.G b) b, fsv := u, FF := F ++ newF s.h (s.G b), ssv := u', ss := s.ss ++ [(q, b)] }) := RF.out u u'
              clear S7 X7 RF FOL c1' cl
              go_wp2
              go_roundw
              case rel => exact ⟨_, S8, R8, X8, LB⟩
              case measure =>
                rw [MU.out, muW_eq S8.out HSM.out LB.out]
                exact CS.out
            · have hne : (h0 == 1) = false := by simpa using h1
              have R6 : Hid (Run fl FV { s with fsv := v, FF := F }) := RR.out.pass HFF.out (by rw [HH0.out]; exact h1) v
              clear RR
              go_wp2
              go_roundw
              case rel => exact ⟨_, S6, R6, X6, LB⟩
              case measure =>
                rw [MU.out, muW_eq S6.out HSM.out LB.out]
                show F.length + 2 * cnt2 m s.h < _
                omega

end

end Go.Proofs.YtkckbeekehecnaaGreat
