/-
  Texts that lie together: KA KM KB KS KC KD KN KG KR KE.
-/
import Derived.Test.YtkckbeekehecnaaZQ
import Derived.Maps.Own
import Derived.Maps.OwnOps
import Derived.Maps.Views
import Derived.BigQuiet
import Derived.RegionTactic
import Derived.Deep.Light
import Derived.Carry
namespace Go.Proofs.Ytkckbeekehecnaa

section
/-
  Maps from whole numbers to values.
-/
open Go.RowKit Go.Maps
set_option linter.unusedVariables false
set_option maxRecDepth 100000

/-- An element of whatever kind, as it is. -/
def heldR : Value → Option (DataW Value × List MemPlace) := fun v => some (.held v, [])
/-- The map at a block: which numbers have which values. -/
def MpO (w : World) (mb k : Nat) (f : Int → Option Value) : Prop :=
  ∃ D : DataW Value, w.ownsMap Try.prog 3 heldR mb k D ∧ IsMap D ∧ ∀ i : Int, (Lit.int .i64 i).wf = true → ∀ zd, D.atKey (.int .i64 i) zd = (match f i with | some v => .held v | none => zd)

theorem MpO.start (w : World) : MpO (w.alloc (.map #[] 0)) w.heap.size 0 (fun _ => none) := ⟨_, World.ownsMap_made _ _ _ _, isMap_empty, fun i _ zd => rfl⟩
theorem MpO.kept {w w' : World} {mb k : Nat} {f : Int → Option Value} (h : MpO w mb k f) (hk : w'.heap[mb]? = w.heap[mb]?) : MpO w' mb k f := by
  obtain ⟨D, ⟨es, clock, h1, h2⟩, h3, h4⟩ := h
  exact ⟨D, ⟨es, clock, hk.trans h1, h2⟩, h3, h4⟩
theorem MpO.lt {w : World} {mb k : Nat} {f : Int → Option Value} (h : MpO w mb k f) : mb < w.heap.size := by
  obtain ⟨D, h1, _⟩ := h
  exact h1.lt
theorem MpO.isMap {w : World} {mb k : Nat} {f : Int → Option Value} (h : MpO w mb k f) : ∃ es c, w.heap[mb]? = some (.map es c) := by
  obtain ⟨D, ⟨es, c, h1, _⟩, _⟩ := h
  exact ⟨es, c, h1⟩
theorem MpO.below {w w' : World} {mb k : Nat} {f : Int → Option Value} (h : MpO w mb k f) (hb : Below w.heap.size w w') : MpO w' mb k f := h.kept (hb.block mb h.lt)
theorem MpO.mono {w : World} {mb k k' : Nat} {f : Int → Option Value} (h : MpO w mb k f) (hk : k ≤ k') : MpO w mb k' f := by
  obtain ⟨D, h1, h2⟩ := h
  exact ⟨D, h1.mono hk, h2⟩

theorem Try.keyedI : Keyed Try.prog 3 := int_keyed Try.underlying3
theorem key_int {i : Int} (hi : (Lit.int .i64 i).wf = true) : keyOf Try.prog 3 (.int .i64 i) = some (.int .i64 i) := keyOf_int_mk Try.underlying3 hi

theorem MpO.look {w : World} {mb k : Nat} {f : Int → Option Value} (h : MpO w mb k f) {t e : TypeId} (ht : Try.prog.underlying t = some (.map 3 e)) {z : Value} (hz : (zeroValue e).run Try.prog w = .ok z w) {i : Int} (hi : (Lit.int .i64 i).wf = true) :
    (Instr.lookup t (.map (some mb)) (.int .i64 i) false).run Try.prog w = .ok ((f i).getD z) w := by
  obtain ⟨D, ⟨es, clock, hb, F, hs, rfl⟩, h2, h3⟩ := h
  rcases Maps.fit_look false Try.keyedI ht hz hb F (key_int hi) with ⟨hrun, _, hat⟩ | ⟨e0, y, _, _, hrun, hRv, hat, _⟩
  · have h4 := h3 i hi (.held (.bool true))
    have h5 := h3 i hi .nil
    rw [hat] at h4 h5
    cases hf : f i with
    | none => simpa using hrun
    | some v => rw [hf] at h5; cases h5
  · have h5 := h3 i hi .nil
    rw [hat] at h5
    injection hRv with hRv
    rw [← hRv] at h5
    cases hf : f i with
    | none => rw [hf] at h5; cases h5
    | some v =>
      rw [hf] at h5
      injection h5 with h5
      rw [← h5]
      simpa using hrun
theorem MpO.look2 {w : World} {mb k : Nat} {f : Int → Option Value} (h : MpO w mb k f) {t e : TypeId} (ht : Try.prog.underlying t = some (.map 3 e)) {z : Value} (hz : (zeroValue e).run Try.prog w = .ok z w) {i : Int} (hi : (Lit.int .i64 i).wf = true) :
    (Instr.lookup t (.map (some mb)) (.int .i64 i) true).run Try.prog w = .ok (.tuple #[(f i).getD z, .bool (f i).isSome]) w := by
  obtain ⟨D, ⟨es, clock, hb, F, hs, rfl⟩, h2, h3⟩ := h
  rcases Maps.fit_look true Try.keyedI ht hz hb F (key_int hi) with ⟨hrun, _, hat⟩ | ⟨e0, y, _, _, hrun, hRv, hat, _⟩
  · have h5 := h3 i hi .nil
    have h4 := h3 i hi (.held (.bool true))
    rw [hat] at h4 h5
    cases hf : f i with
    | none => simpa using hrun
    | some v => rw [hf] at h5; cases h5
  · have h5 := h3 i hi .nil
    rw [hat] at h5
    injection hRv with hRv
    rw [← hRv] at h5
    cases hf : f i with
    | none => rw [hf] at h5; cases h5
    | some v =>
      rw [hf] at h5
      injection h5 with h5
      rw [← h5]
      simpa using hrun

/-- One number's value is another one. -/
def setO (f : Int → Option Value) (i : Int) (v : Value) : Int → Option Value := fun a => if a = i then some v else f a
theorem setO_same (f : Int → Option Value) (i : Int) (v : Value) : setO f i v i = some v := by simp [setO]
theorem setO_other {f : Int → Option Value} {i a : Int} {v : Value} (h : a ≠ i) : setO f i v a = f a := by simp [setO, h]

theorem MpO.update {w : World} {mb k : Nat} {f : Int → Option Value} (h : MpO w mb k f) {t e : TypeId} (ht : Try.prog.underlying t = some (.map 3 e)) (hk : k ≤ 1000000000) {i : Int} (hi : (Lit.int .i64 i).wf = true) (v : Value) :
    ∃ w', (Instr.mapUpdate t (.map (some mb)) (.int .i64 i) v).run Try.prog w = .ok () w' ∧ MpO w' mb (k + 1) (setO f i v) ∧ w.grownBy w' (some mb) := by
  obtain ⟨D, h1, h2, h3⟩ := h
  obtain ⟨w', hrun, ho, hg⟩ := h1.update Try.keyedI ht (by unfold maxLen; omega) (key_int hi) (show heldR v = some (.held v, []) from rfl)
  refine ⟨w', hrun, ⟨_, ho, h2.put _ _, fun a ha zd => ?_⟩, hg⟩
  by_cases e : a = i
  · subst e
    rw [atKey_put_same h2 (by simp [WideAt.IsKeyLit]), setO_same]
  · rw [atKey_put_other (fun q => e (by injection q)), h3 a ha, setO_other e]

end

section
/-
  Which blocks follow of equations: what is reckoned.
-/
open Go.RowKit
set_option linter.unusedVariables false

/-- A table of m numbers. -/
def tabZ (m : Nat) (h : Nat → Int) : List Int := (List.range m).map h
theorem tab_length (m : Nat) (h : Nat → Int) : (tabZ m h).length = m := by simp [tabZ]
theorem tab_get {m e : Nat} (h : Nat → Int) (he : e < m) : (tabZ m h)[e]? = some (h e) := by simp [tabZ, he]
def updN (h : Nat → Int) (e : Nat) (v : Int) : Nat → Int := fun x => if x = e then v else h x
theorem updN_same (h : Nat → Int) (e : Nat) (v : Int) : updN h e v e = v := by simp [updN]
theorem updN_other {h : Nat → Int} {e x : Nat} {v : Int} (hx : x ≠ e) : updN h e v x = h x := by simp [updN, hx]
theorem tabZ_set (m : Nat) (h : Nat → Int) (e : Nat) (v : Int) : (tabZ m h).set e v = tabZ m (updN h e v) := by
  apply List.ext_getElem?
  intro i
  rw [List.getElem?_set]
  by_cases hi : i < m
  · rw [tab_get _ hi, tab_get _ hi, tab_length]
    by_cases he : e = i
    · subst he
      simp [hi, updN]
    · rw [if_neg he, updN_other (fun h => he h.symm)]
  · have h1 : (tabZ m h)[i]? = none := List.getElem?_eq_none (by rw [tab_length]; omega)
    have h2 : (tabZ m (updN h e v))[i]? = none := List.getElem?_eq_none (by rw [tab_length]; omega)
    rw [h1, h2, tab_length]
    split
    · rename_i h3
      subst h3
      simp [hi]
    · rfl
theorem tab_congr {m : Nat} {h g : Nat → Int} (hg : ∀ e, e < m → h e = g e) : tabZ m h = tabZ m g := by
  unfold tabZ
  exact List.map_congr_left fun e he => hg e (List.mem_range.1 he)

/-- Numbers, put upon each other bit by bit. -/
def xorN (l : List Int) : Nat := l.foldr (fun x n => x.toNat ^^^ n) 0
theorem xorN_cons (x : Int) (l : List Int) : xorN (x :: l) = x.toNat ^^^ xorN l := rfl
theorem xorN_append (a b : List Int) : xorN (a ++ b) = xorN a ^^^ xorN b := by
  induction a with
  | nil => simp [xorN]
  | cons x a ih => rw [List.cons_append, xorN_cons, xorN_cons, ih, Nat.xor_assoc]
theorem xorN_perm {a b : List Int} (h : a.Perm b) : xorN a = xorN b := by
  induction h with
  | nil => rfl
  | cons x _ ih => rw [xorN_cons, xorN_cons, ih]
  | swap x y l => rw [xorN_cons, xorN_cons, xorN_cons, xorN_cons, ← Nat.xor_assoc, ← Nat.xor_assoc, Nat.xor_comm y.toNat]
  | trans _ _ h1 h2 => rw [h1, h2]
theorem xorN_lt {l : List Int} (h : ∀ x ∈ l, x < 9223372036854775808) : xorN l < 2 ^ 63 := by
  induction l with
  | nil => simp [xorN]
  | cons x l ih =>
    rw [xorN_cons]
    have h1 := h x (List.mem_cons_self ..)
    exact Nat.xor_lt_two_pow (by omega) (ih fun y hy => h y (List.mem_cons_of_mem _ hy))
theorem i64_xor (a b : Nat) (ha : a < 2 ^ 63) (hb : b < 2 ^ 63) : bits BinOp.xor IntKind.i64 (a : Int) (b : Int) = ((a ^^^ b : Nat) : Int) := by
  have h1 : a ^^^ b < 2 ^ 63 := Nat.xor_lt_two_pow ha hb
  have oa : ∀ x : Nat, x < 2 ^ 63 → (BitVec.ofInt 64 (x : Int)).toNat = x := fun x hx => by
    rw [BitVec.toNat_ofInt]
    omega
  show IntKind.i64.wrap ((BitVec.ofInt 64 (a : Int) ^^^ BitVec.ofInt 64 (b : Int)).toNat : Int) = _
  rw [BitVec.toNat_xor, oa a ha, oa b hb, IntKind.wrap_i64]
  omega

/-- Numbers such as there are, rising. -/
def FitI (all : Int) (of : List Int) : Prop := of.Pairwise (· < ·) ∧ ∀ x ∈ of, 0 ≤ x ∧ x < all
theorem FitI.nodup {all : Int} {of : List Int} (h : FitI all of) : of.Nodup := h.1.imp (fun h => by omega)

theorem leftZ_mem {K l : List Int} {x : Int} : x ∈ leftZ K l ↔ x ∈ l ∧ x ∉ K := by simp [leftZ]
theorem leftZ_nil (l : List Int) : leftZ [] l = l := by simp [leftZ]
theorem leftZ_congr {K K' l : List Int} (h : ∀ x ∈ l, (x ∈ K ↔ x ∈ K')) : leftZ K l = leftZ K' l := by
  unfold leftZ
  refine List.filter_congr fun x hx => ?_
  have := h x hx
  by_cases hk : x ∈ K
  · simp [hk, this.1 hk]
  · have hk' : x ∉ K' := fun h => hk (this.2 h)
    simp [hk, hk']
theorem leftZ_step {K l : List Int} (hn : l.Nodup) {b : Int} (hb : b ∈ l) (hk : b ∉ K) : (leftZ K l).Perm (b :: leftZ (K ++ [b]) l) := by
  have hN : (leftZ K l).Nodup := hn.filter _
  have hN' : (leftZ (K ++ [b]) l).Nodup := hn.filter _
  rw [List.perm_ext_iff_of_nodup hN (List.nodup_cons.2 ⟨fun h => by have := (leftZ_mem.1 h).2; simp at this, hN'⟩)]
  intro x
  rw [List.mem_cons, leftZ_mem, leftZ_mem]
  by_cases hx : x = b
  · subst hx; simp [hb, hk]
  · simp [hx]
theorem leftZ_out {K l : List Int} {b : Int} (hb : b ∉ l) : leftZ (K ++ [b]) l = leftZ K l := leftZ_congr fun x hx => by
  have : x ≠ b := fun e => hb (e ▸ hx)
  simp [this]

/-- What follows of equations is among K, if what follows of K is. -/
def FolC (fl : List (List Int)) (K : Int → Prop) : Prop := ∀ (l : List Int) (x : Int), l ∈ fl → x ∈ l → (∀ y ∈ l, y ≠ x → K y) → K x
/-- A block follows of equations: it is in the least such K. -/
def Fol (fl : List (List Int)) (x : Int) : Prop := ∀ K : Int → Prop, FolC fl K → K x
theorem Fol.step {fl : List (List Int)} (l : List Int) (x : Int) (hl : l ∈ fl) (hx : x ∈ l) (ho : ∀ y ∈ l, y ≠ x → Fol fl y) : Fol fl x := fun K hK => hK l x hl hx fun y hy hne => ho y hy hne K hK
theorem Fol.mono {fl gl : List (List Int)} (h : ∀ l ∈ fl, l ∈ gl) {x : Int} (hx : Fol fl x) : Fol gl x := hx (Fol gl) fun l x hl hx ho => Fol.step l x (h l hl) hx ho
theorem Fol.ex {fl : List (List Int)} {x : Int} (h : Fol fl x) : ∃ l ∈ fl, x ∈ l := h (fun x => ∃ l ∈ fl, x ∈ l) fun l _ hl hx _ => ⟨l, hl, hx⟩

/-- Nothing more follows. -/
def Done (fl : List (List Int)) (K : List Int) : Prop := ∀ l ∈ fl, (leftZ K l).length ≠ 1
theorem done_fol {fl : List (List Int)} {K : List Int} (hn : ∀ l ∈ fl, l.Nodup) (hd : Done fl K) {x : Int} (h : Fol fl x) : x ∈ K := by
  refine h (fun x => x ∈ K) fun l x hl hx ih => ?_
  by_cases hk : x ∈ K
  · exact hk
  · exfalso
    refine hd l hl ?_
    have h1 := leftZ_step (hn l hl) hx hk
    have h2 : leftZ (K ++ [x]) l = [] := by
      rw [List.eq_nil_iff_forall_not_mem]
      intro y hy
      obtain ⟨h3, h4⟩ := leftZ_mem.1 hy
      have h5 : y ≠ x := fun e => h4 (by simp [e])
      exact h4 (List.mem_append_left _ (ih y h3 h5))
    rw [h1.length_eq, h2]
    rfl
/-- One block after another. -/
def Deriv (fl : List (List Int)) (ss : List (Nat × Int)) : Prop := ∀ (j e : Nat) (b : Int), ss[j]? = some (e, b) → ∃ l, fl[e]? = some l ∧ leftZ ((ss.take j).map Prod.snd) l = [b]
theorem Deriv.nil (fl : List (List Int)) : Deriv fl [] := fun j e b h => by simp at h
theorem Deriv.snoc {fl : List (List Int)} {ss : List (Nat × Int)} (h : Deriv fl ss) {e : Nat} {b : Int} {l : List Int} (hl : fl[e]? = some l) (hb : leftZ (ss.map Prod.snd) l = [b]) : Deriv fl (ss ++ [(e, b)]) := by
  intro j e' b' hj
  by_cases hlt : j < ss.length
  · rw [List.getElem?_append_left hlt] at hj
    obtain ⟨l', h1, h2⟩ := h j e' b' hj
    rw [List.take_append_of_le_length (by omega)]
    exact ⟨l', h1, h2⟩
  · have hj' : j = ss.length := by
      have := (List.getElem?_eq_some_iff.1 hj).1
      rw [List.length_append, List.length_singleton] at this
      omega
    subst hj'
    rw [List.getElem?_append_right (Nat.le_refl _)] at hj
    simp at hj
    obtain ⟨rfl, rfl⟩ := hj
    rw [List.take_left']
    · exact ⟨l, hl, hb⟩
    · rfl
theorem Deriv.fol {fl : List (List Int)} {ss : List (Nat × Int)} (h : Deriv fl ss) : ∀ (j e : Nat) (b : Int), ss[j]? = some (e, b) → Fol fl b := by
  intro j
  induction j using Nat.strongRecOn with
  | _ j ih =>
    intro e b hj
    obtain ⟨l, hl, hL⟩ := h j e b hj
    have hb : b ∈ leftZ ((ss.take j).map Prod.snd) l := by rw [hL]; simp
    refine Fol.step l b (List.mem_of_getElem? hl) (leftZ_mem.1 hb).1 fun y hy hne => ?_
    have hk : y ∈ (ss.take j).map Prod.snd := by
      by_cases hk : y ∈ (ss.take j).map Prod.snd
      · exact hk
      · have : y ∈ leftZ ((ss.take j).map Prod.snd) l := leftZ_mem.2 ⟨hy, hk⟩
        rw [hL] at this
        exact absurd (List.mem_singleton.1 this) hne
    obtain ⟨⟨e', b'⟩, h1, rfl⟩ := List.mem_map.1 hk
    obtain ⟨i, h2⟩ := List.mem_iff_getElem?.1 h1
    rw [List.getElem?_take] at h2
    split at h2
    · rename_i hlt
      exact ih i hlt e' b' h2
    · cases h2
theorem deriv_iff {fl : List (List Int)} {ss : List (Nat × Int)} (hn : ∀ l ∈ fl, l.Nodup) (h : Deriv fl ss) (hd : Done fl (ss.map Prod.snd)) (x : Int) : x ∈ ss.map Prod.snd ↔ Fol fl x := by
  refine ⟨fun hx => ?_, done_fol hn hd⟩
  obtain ⟨⟨e, b⟩, h1, rfl⟩ := List.mem_map.1 hx
  obtain ⟨i, h2⟩ := List.mem_iff_getElem?.1 h1
  exact h.fol i e b h2
theorem Deriv.nodup {fl : List (List Int)} {ss : List (Nat × Int)} (h : Deriv fl ss) : (ss.map Prod.snd).Nodup := by
  rw [List.nodup_iff_pairwise_ne, List.pairwise_iff_getElem]
  intro i j hi hj hij e
  have hj' : j < ss.length := by simpa using hj
  have hi' : i < ss.length := by simpa using hi
  obtain ⟨l, -, hL⟩ := h j (ss[j]).1 (ss[j]).2 (by rw [List.getElem?_eq_getElem hj'])
  have hb : (ss[j]).2 ∈ leftZ ((ss.take j).map Prod.snd) l := by rw [hL]; simp
  refine (leftZ_mem.1 hb).2 ?_
  rw [List.getElem_map, List.getElem_map] at e
  rw [← e]
  refine List.mem_map.2 ⟨ss[i], ?_, rfl⟩
  rw [List.mem_iff_getElem?]
  exact ⟨i, by rw [List.getElem?_take, if_pos hij, List.getElem?_eq_getElem hi']⟩

/-- The equations that a block is in. -/
def inAll (fl : List (List Int)) (b : Int) : List Int := ((List.range fl.length).filter fun e => decide (b ∈ fl.getD e [])).map fun (e : Nat) => (e : Int)
theorem inAll_mem {fl : List (List Int)} {b : Int} {e : Nat} {l : List Int} (hl : fl[e]? = some l) : (e : Int) ∈ inAll fl b ↔ b ∈ l := by
  unfold inAll
  have he := (List.getElem?_eq_some_iff.1 hl).1
  have hd : fl.getD e [] = l := by simp [List.getD, hl]
  constructor
  · intro h
    obtain ⟨e', h1, h2⟩ := List.mem_map.1 h
    have e1 : e' = e := by omega
    subst e1
    have := (List.mem_filter.1 h1).2
    rw [hd] at this
    simpa using this
  · intro h
    exact List.mem_map.2 ⟨e, List.mem_filter.2 ⟨List.mem_range.2 he, by rw [hd]; simpa using h⟩, rfl⟩
theorem inAll_nat {fl : List (List Int)} {b x : Int} (h : x ∈ inAll fl b) : ∃ e : Nat, x = e ∧ e < fl.length := by
  obtain ⟨e, h1, rfl⟩ := List.mem_map.1 h
  exact ⟨e, rfl, List.mem_range.1 (List.mem_filter.1 h1).1⟩
theorem inAll_nodup (fl : List (List Int)) (b : Int) : (inAll fl b).Nodup := by
  unfold inAll
  rw [List.nodup_iff_pairwise_ne, List.pairwise_map]
  refine List.Pairwise.imp (fun h e => h (by omega)) (List.nodup_iff_pairwise_ne.1 (List.nodup_range.filter _))

end

section
/-
  closure: Fits, Closed; the document's Fits and Left.
-/
open Go.RowKit
set_option linter.unusedVariables false

def lastI (l : List Int) : Int := l.getLast?.getD (-1)
theorem fit_snoc {all : Int} {l : List Int} {z : Int} : FitI all (l ++ [z]) ↔ FitI all l ∧ lastI l < z ∧ z < all := by
  unfold FitI lastI
  rw [List.pairwise_append]
  constructor
  · rintro ⟨⟨h1, -, h3⟩, h4⟩
    have hz := h4 z (by simp)
    refine ⟨⟨h1, fun x hx => h4 x (List.mem_append_left _ hx)⟩, ?_, hz.2⟩
    cases hl : l.getLast? with
    | none => simp; omega
    | some y => exact h3 y (List.mem_of_getLast? hl) z (by simp)
  · rintro ⟨⟨h1, h2⟩, h3, h4⟩
    have hle : ∀ x ∈ l, x ≤ l.getLast?.getD (-1) := by
      intro x hx
      rcases List.eq_nil_or_concat l with rfl | ⟨l', y, rfl⟩
      · cases hx
      · rw [List.concat_eq_append] at hx h1 ⊢
        rw [List.getLast?_append]
        simp only [List.getLast?_singleton, Option.some_or, Option.getD_some]
        rw [List.pairwise_append] at h1
        rcases List.mem_append.1 hx with hx | hx
        · exact Int.le_of_lt (h1.2.2 x hx y (by simp))
        · rw [List.mem_singleton.1 hx]; exact Int.le_refl _
    have h0 : -1 ≤ l.getLast?.getD (-1) := by
      cases hl : l.getLast? with
      | none => simp
      | some y => have := (h2 y (List.mem_of_getLast? hl)).1; simp; omega
    refine ⟨⟨h1, by simp, fun x hx y hy => ?_⟩, fun x hx => ?_⟩
    · rw [List.mem_singleton.1 hy]
      have := hle x hx
      omega
    · rcases List.mem_append.1 hx with hx | hx
      · exact h2 x hx
      · rw [List.mem_singleton.1 hx]; omega
theorem fit_take {all : Int} {l : List Int} (h : FitI all l) (i : Nat) : FitI all (l.take i) := ⟨h.1.sublist (List.take_sublist _ _), fun x hx => h.2 x (List.mem_of_mem_take hx)⟩
theorem fit_next {all : Int} {l : List Int} {i : Nat} {z : Int} (h : l[i]? = some z) : FitI all (l.take (i + 1)) ↔ FitI all (l.take i) ∧ lastI (l.take i) < z ∧ z < all := by
  obtain ⟨hi, e⟩ := List.getElem?_eq_some_iff.1 h
  rw [List.take_succ_eq_append_getElem hi, e]
  exact fit_snoc
theorem lastI_next {l : List Int} {i : Nat} {z : Int} (h : l[i]? = some z) : lastI (l.take (i + 1)) = z := by
  obtain ⟨hi, e⟩ := List.getElem?_eq_some_iff.1 h
  rw [List.take_succ_eq_append_getElem hi, e]
  simp [lastI]

set_option maxRecDepth 100000 in
set_option maxHeartbeats 1000000 in
/-- FITS. -/
theorem kfits_any (all : Int) (v : Value) (of : List Int) (w : World) (h : Zs w v of) :
    Calls Try.prog 46 #[.int .i64 all, v] w fun e w' => TellsP (FitI all of) e ∧ w' = w := by
  have HZ : Hid (Zs w v of) := h
  obtain ⟨ao, cap, rfl, h2, h3⟩ := zs_shape h
  obtain ⟨n, hn⟩ : ∃ n, of.length = n := ⟨_, rfl⟩
  rw [hn] at h2 HZ ⊢
  have Hn : Hid (of.length = n) := hn
  clear hn h
  go_enter Try.func46, Try.ntmps46
  go_wp2
  go_loop [5, 10] (fun lv iv => ∃ i : Nat, i ≤ n ∧ iv = .int .i64 i ∧ lv = .int .i64 (lastI (of.take i)) ∧ Hid (FitI all (of.take i))) (fun _ iv => n - (intOf iv).toNat)
  case atStart => exact ⟨0, by omega, rfl, by simp [lastI], by simp [Hid, FitI]⟩
  case round =>
    obtain ⟨i, hi, rfl, rfl, FF⟩ := hrel
    by_cases hlt : i < n
    · obtain ⟨z, hz⟩ : ∃ z, of[i]? = some z := ⟨_, List.getElem?_eq_getElem (by rw [Hn.out]; exact hlt)⟩
      have HZ' : Zs w (.slice ao n cap) of := HZ.out
      obtain ⟨b, off, rfl, hc⟩ := zs_at HZ' (Below.refl _ _) hz
      have NX : Hid (FitI all (of.take (i + 1)) ↔ FitI all (of.take i) ∧ lastI (of.take i) < z ∧ z < all) := fit_next hz
      have LX : Hid (lastI (of.take (i + 1)) = z) := lastI_next hz
      obtain ⟨y, hy⟩ : ∃ y, lastI (of.take i) = y := ⟨_, rfl⟩
      rw [hy] at NX ⊢
      clear hz HZ' hy
      by_cases hzy : z ≤ y
      · have NO : Hid (¬ FitI all of) := fun hF => by have := (NX.out.1 (fit_take hF _)).2.1; omega
        have d : decide (z ≤ y) = true := decide_eq_true hzy
        clear NX FF
        go_wp2
        go_ret
        exact ⟨tells_no rfl NO.out, rfl⟩
      · have d : decide (z ≤ y) = false := decide_eq_false hzy
        by_cases hza : z < all
        · have FN : Hid (FitI all (of.take (i + 1))) := NX.out.2 ⟨FF.out, by omega, hza⟩
          have d2 : decide (all ≤ z) = false := decide_eq_false (by omega)
          clear NX FF
          go_wp2
          go_round
          case rel => exact ⟨i + 1, by omega, by go_num, by rw [LX.out], FN⟩
          case measure => simp [intOf]; omega
        · have NO : Hid (¬ FitI all of) := fun hF => hza (NX.out.1 (fit_take hF _)).2.2
          have d2 : decide (all ≤ z) = true := decide_eq_true (by omega)
          clear NX FF
          go_wp2
          go_ret
          exact ⟨tells_no rfl NO.out, rfl⟩
    · obtain rfl : n = i := by omega
      have FN : Hid (FitI all of) := by have := FF.out; rwa [List.take_of_length_le (by rw [Hn.out]; exact Nat.le_refl _)] at this
      clear FF
      go_wp2
      go_ret
      exact ⟨tells_yes rfl FN.out, rfl⟩

theorem lastI_prev {l : List Int} {i : Nat} {y : Int} (h : l[i]? = some y) : lastI (l.take (i + 1)) = y := lastI_next h

set_option maxRecDepth 100000 in
set_option maxHeartbeats 1000000 in
/-- The document's FITS. -/
theorem rfits16_any (all : Int) (v : Value) (of : List Int) (w : World) (h : Zs w v of) :
    Calls Try.prog 18 #[.int .i64 all, v] w fun e w' => TellsP (FitI all of) e ∧ Below w.heap.size w w' := by
  have HZ : Hid (Zs w v of) := h
  obtain ⟨ao, cap, rfl, h2, h3⟩ := zs_shape h
  obtain ⟨n, hn⟩ : ∃ n, of.length = n := ⟨_, rfl⟩
  rw [hn] at h2 HZ ⊢
  have Hn : Hid (of.length = n) := hn
  clear hn h
  go_enter Try.func18, Try.ntmps18
  go_wp2
  go_loopw [5] (fun iv wr => ∃ i : Nat, i ≤ n ∧ iv = .int .i64 i ∧ Hid (FitI all (of.take i)) ∧ Hid (Below w.heap.size w wr)) (fun iv _ => n - (intOf iv).toNat)
  case atStart => exact ⟨0, by omega, rfl, by simp [Hid, FitI], Below.refl _ _⟩
  case round =>
    obtain ⟨i, hi, rfl, FF, BB⟩ := hrel
    by_cases hlt : i < n
    · obtain ⟨z, hz⟩ : ∃ z, of[i]? = some z := ⟨_, List.getElem?_eq_getElem (by rw [Hn.out]; exact hlt)⟩
      have HZ' : Zs w (.slice ao n cap) of := HZ.out
      obtain ⟨b, off, rfl, hc⟩ := zs_at HZ' BB.out hz
      have NX : Hid (FitI all (of.take (i + 1)) ↔ FitI all (of.take i) ∧ lastI (of.take i) < z ∧ z < all) := fit_next hz
      clear hz
      by_cases hz0 : z < 0
      · have NO : Hid (¬ FitI all of) := fun hF => by
          have h1 := fit_take hF (i + 1)
          have h2 := (NX.out.1 h1).2.1
          have h3 : -1 ≤ lastI (of.take i) := by
            unfold lastI
            cases hl : (of.take i).getLast? with
            | none => simp
            | some y => have := ((FF.out).2 y (List.mem_of_getLast? hl)).1; simp; omega
          omega
        have d : decide (z < 0) = true := decide_eq_true hz0
        clear NX FF HZ'
        go_upto_region 4 with fail
        go_quiet (fail)
        have XL : Hid (Below w.heap.size w (wr.drewN nq)) := below_drewN BB.out nq
        go_wp2
        go_ret
        exact ⟨tells_no rfl NO.out, XL.out⟩
      have d : decide (z < 0) = false := decide_eq_false hz0
      by_cases hza : z < all
      · have d2 : decide (all ≤ z) = false := decide_eq_false (by omega)
        by_cases hi0 : i = 0
        · have FN : Hid (FitI all (of.take (i + 1))) := NX.out.2 ⟨FF.out, by rw [hi0]; simp [lastI]; omega, hza⟩
          have d3 : decide (0 < i) = false := decide_eq_false (by omega)
          clear NX FF HZ' hi0
          go_upto_region 4 with fail
          go_quiet (fail)
          have XL : Hid (Below w.heap.size w (wr.drewN nq)) := below_drewN BB.out nq
          go_wp2
          go_roundw
          case rel => exact ⟨i + 1, by omega, by go_num, FN, XL⟩
          case measure => simp [intOf]; omega
        · obtain ⟨j, hj⟩ : ∃ j, i = j + 1 := ⟨i - 1, by omega⟩
          have d3 : decide (0 < i) = true := decide_eq_true (by omega)
          obtain ⟨y, hy⟩ : ∃ y, of[j]? = some y := ⟨_, List.getElem?_eq_getElem (by rw [Hn.out]; omega)⟩
          have LP : Hid (lastI (of.take i) = y) := by unfold Hid; rw [hj]; exact lastI_next hy
          obtain ⟨b', off', eb, hcj⟩ := zs_at HZ' BB.out hy
          injection eb with eb
          injection eb with eb1 eb2 _
          subst eb1
          subst eb2
          have wm1 : IntKind.i64.wrap ((i : Int) - 1) = (j : Int) := by rw [IntKind.wrap_i64]; omega
          have hjn : j < n := by omega
          clear hy HZ' hi0 hj
          by_cases hyz : y < z
          · have d4 : decide (z ≤ y) = false := decide_eq_false (by omega)
            have FN : Hid (FitI all (of.take (i + 1))) := NX.out.2 ⟨FF.out, by rw [LP.out]; exact hyz, hza⟩
            clear NX FF LP
            go_upto_region 4 with fail
            go_quiet (fail)
            have XL : Hid (Below w.heap.size w (wr.drewN nq)) := below_drewN BB.out nq
            go_wp2
            go_roundw
            case rel => exact ⟨i + 1, by omega, by go_num, FN, XL⟩
            case measure => simp [intOf]; omega
          · have d4 : decide (z ≤ y) = true := decide_eq_true (by omega)
            have NO : Hid (¬ FitI all of) := fun hF => by
              have h2 := (NX.out.1 (fit_take hF _)).2.1
              rw [LP.out] at h2
              exact hyz h2
            clear NX FF LP
            go_upto_region 4 with fail
            go_quiet (fail)
            have XL : Hid (Below w.heap.size w (wr.drewN nq)) := below_drewN BB.out nq
            go_wp2
            go_ret
            exact ⟨tells_no rfl NO.out, XL.out⟩
      · have d2 : decide (all ≤ z) = true := decide_eq_true (by omega)
        have NO : Hid (¬ FitI all of) := fun hF => hza (NX.out.1 (fit_take hF _)).2.2
        clear NX FF HZ'
        go_upto_region 4 with fail
        go_quiet (fail)
        have XL : Hid (Below w.heap.size w (wr.drewN nq)) := below_drewN BB.out nq
        go_wp2
        go_ret
        exact ⟨tells_no rfl NO.out, XL.out⟩
    · obtain rfl : n = i := by omega
      have FN : Hid (FitI all of) := by have := FF.out; rwa [List.take_of_length_le (by rw [Hn.out]; exact Nat.le_refl _)] at this
      clear FF
      go_wp2
      go_ret
      exact ⟨tells_yes rfl FN.out, BB.out⟩

set_option maxRecDepth 100000 in
set_option maxHeartbeats 1000000 in
/-- The document's LEFT. -/
theorem rleft_any (kv ov : Value) (l of : List Int) (w : World) (hk : Zs w kv l) (hz : Zs w ov of) (hm : of.length ≤ 1000000) :
    Calls Try.prog 37 #[kv, ov] w fun e w' => ∃ a m c, e = .returned (.slice a m c) ∧ OwnZ w.heap.size w' (.slice a m c) m (leftZ l of) ∧ Below w.heap.size w w' := by
  have HZ : Hid (Zs w ov of) := hz
  have HK : Hid (Zs w kv l) := hk
  obtain ⟨ao, oc, rfl, ho2, ho3⟩ := zs_shape hz
  obtain ⟨ka, kc, rfl, -, -⟩ := zs_shape hk
  obtain ⟨n, hn⟩ : ∃ n, of.length = n := ⟨_, rfl⟩
  have HN : Hid (of.length = n) := hn
  obtain ⟨k, hk'⟩ : ∃ k, l.length = k := ⟨_, rfl⟩
  rw [hn] at hm ho2 HZ ⊢
  rw [hk'] at HK ⊢
  clear hz hk hn hk'
  go_enter Try.func37, Try.ntmps37
  go_wp2
  go_loopw [5, 6] (fun lv iv wr => ∃ (i m : Nat) (a : Option Addr) (c : Nat), i ≤ n ∧ iv = .int .i64 i ∧ lv = .slice a m c ∧ Hid (OwnZ w.heap.size wr (.slice a m c) m (leftZ l (of.take i))) ∧ Hid (Below w.heap.size w wr)) (fun _ iv _ => n - (intOf iv).toNat)
  case atStart => exact ⟨0, 0, _, _, by omega, rfl, rfl, OwnZ.new w, below_alloc _ _⟩
  case round =>
    obtain ⟨i, m, a, c, hi, rfl, rfl, OO, BB⟩ := hrel
    by_cases hlt : i < n
    · obtain ⟨z, hz⟩ : ∃ z, of[i]? = some z := ⟨_, List.getElem?_eq_getElem (by rw [HN.out]; exact hlt)⟩
      have HZ' : Zs w (.slice ao n oc) of := HZ.out
      obtain ⟨bo, off, rfl, ci⟩ := zs_at HZ' BB.out hz
      have NX : Hid (leftZ l (of.take (i + 1)) = leftZ l (of.take i) ++ (if z ∈ l then [] else [z])) := leftZ_take hz
      have ML : Hid (m ≤ i) := by have h1 := OO.out.len; have h2 := leftZ_le l of i; unfold Hid; omega
      clear hz HZ'
      go_wp2_with fail
      refine (rhas_any z _ l wr (HK.out.below BB.out)).mono ?_
      rintro e w' ⟨rfl, rfl⟩
      by_cases hzl : z ∈ l
      · have O4 : Hid (OwnZ w.heap.size w' (.slice a m c) m (leftZ l (of.take (i + 1)))) := by
          have h1 := NX.out
          rw [if_pos hzl, List.append_nil] at h1
          rw [h1]
          exact OO.out
        have d : decide (z ∈ l) = true := decide_eq_true hzl
        clear NX OO
        go_wp2
        go_roundw
        case rel => exact ⟨i + 1, m, a, c, by omega, by go_num, rfl, O4, BB⟩
        case measure => simp [intOf]; omega
      · have NY : Hid (leftZ l (of.take (i + 1)) = leftZ l (of.take i) ++ [z]) := by
          have h1 := NX.out
          rw [if_neg hzl] at h1
          exact h1
        have d : decide (z ∈ l) = false := decide_eq_false hzl
        have OA : Hid (OwnZ w.heap.size (w'.alloc (.cells #[.int .i64 z] 3)) (.slice a m c) m (leftZ l (of.take i))) := OO.out.alloc _
        have BA : Hid (Below w.heap.size w (w'.alloc (.cells #[.int .i64 z] 3))) := BB.out.alloc BB.out.size _
        have hmi : m + 1 ≤ 1000000000 := by have := ML.out; omega
        clear NX OO
        go_wp2_with (at_builtin; refine wpList_addZ _ rfl (.tmp 21) (.tmp 26) rfl w.heap.size (.slice a m c) m _ rfl OA.out _ 1 [z] rfl (zs_one _ _ _) hmi BA.out.size ?_; intro a4 k4 w4 ho4 hg4 hat4 hnc4 hcm4)
        have O4 : Hid (OwnZ w.heap.size w4 (.slice a4 (m + 1) k4) (m + 1) (leftZ l (of.take (i + 1)))) := by rw [NY.out]; exact ho4
        have B4 : Hid (Below w.heap.size w w4) := below_added BA.out OA.out (Nat.le_refl _) BA.out.size hg4
        clear ho4 hg4 hat4 OA BA BB NY
        go_roundw
        case rel => exact ⟨i + 1, m + 1, a4, k4, by omega, by go_num, rfl, O4, B4⟩
        case measure => simp [intOf]; omega
    · obtain rfl : n = i := by omega
      have R : Hid (OwnZ w.heap.size wr (.slice a m c) m (leftZ l of)) := by
        have h1 := OO.out
        rw [List.take_of_length_le (by rw [HN.out]; exact Nat.le_refl _)] at h1
        exact h1
      clear OO
      go_wp2
      go_ret
      exact ⟨_, _, _, rfl, R.out, BB.out⟩

/-- A number sought among numbers that rise. -/
theorem bsearch_any (x : Int) (v : Value) (l : List Int) (w : World) (h : Zs w v l) (hl : l.length ≤ 1000000000) (hs : l.Pairwise (· ≤ ·)) :
    ∃ p : Int, Calls Try.prog 45 #[v, .int .i64 x] w fun e w' => e = .returned (.tuple #[.int .i64 p, .bool (decide (x ∈ l))]) ∧ Below w.heap.size w w' := by
  have h' := h
  obtain ⟨-, ao, cap, rfl, -, -, -, -⟩ := h'
  obtain ⟨-, hc⟩ := zs_cells h
  rcases hc with h0 | ⟨b, off, rfl, hc⟩
  · obtain rfl : l = [] := List.eq_nil_of_length_eq_zero h0
    refine ⟨0, (Any.slices_BinarySearch_int_empty Try.laysNm225 ao cap x w).mono ?_⟩
    rintro e w' ⟨rfl, rfl⟩
    exact ⟨by simp, Below.refl _ _⟩
  · refine ⟨((l.take l.length).countP (· < x) : Nat), (Any.slices_BinarySearch_int Try.laysNm225 b off l.length cap l x w (Nat.le_refl _) (by omega) hc (by rw [List.take_of_length_le (Nat.le_refl _)]; exact hs)).mono ?_⟩
    rintro e w' ⟨rfl, q, rfl⟩
    refine ⟨?_, ⟨rfl, rfl, rfl, by simp, fun k hk => by simp⟩⟩
    have e1 : (l.take l.length).contains x = decide (x ∈ l) := by
      rw [List.take_of_length_le (Nat.le_refl _), Bool.eq_iff_iff]
      simp
    rw [e1]

set_option maxRecDepth 100000 in
set_option maxHeartbeats 1000000 in
/-- CLOSED: are all among numbers that rise? -/
theorem kclosed_any (kv ov : Value) (l of : List Int) (w : World) (hk : Zs w kv l) (hz : Zs w ov of) (hl : l.length ≤ 1000000000) (hs : l.Pairwise (· ≤ ·)) :
    Calls Try.prog 25 #[kv, ov] w fun e w' => TellsP (leftZ l of = []) e ∧ Below w.heap.size w w' := by
  have HZ : Hid (Zs w ov of) := hz
  have HK : Hid (Zs w kv l) := hk
  obtain ⟨ao, oc, rfl, ho2, ho3⟩ := zs_shape hz
  obtain ⟨ka, kc, rfl, -, -⟩ := zs_shape hk
  have BS : Hid (∀ W, Below w.heap.size w W → ∀ x, ∃ p : Int, Calls Try.prog 45 #[.slice ka l.length kc, .int .i64 x] W fun e w' => e = .returned (.tuple #[.int .i64 p, .bool (decide (x ∈ l))]) ∧ Below W.heap.size W w') := fun W hW x => bsearch_any x _ l W (HK.out.below hW) hl hs
  obtain ⟨n, hn⟩ : ∃ n, of.length = n := ⟨_, rfl⟩
  have HN : Hid (of.length = n) := hn
  obtain ⟨k, hk'⟩ : ∃ k, l.length = k := ⟨_, rfl⟩
  rw [hn] at ho2 HZ ⊢
  rw [hk'] at BS ⊢
  clear hz hk hn hk' hs HK
  go_enter Try.func25, Try.ntmps25
  go_wp2
  go_loopw [11] (fun iv wr => ∃ i : Nat, i ≤ n ∧ iv = .int .i64 i ∧ Hid (leftZ l (of.take i) = []) ∧ Hid (Below w.heap.size w wr)) (fun iv _ => n - (intOf iv).toNat)
  case atStart => exact ⟨0, by omega, rfl, by simp [Hid, leftZ], Below.refl _ _⟩
  case round =>
    obtain ⟨i, hi, rfl, LL, BB⟩ := hrel
    by_cases hlt : i < n
    · obtain ⟨z, hz⟩ : ∃ z, of[i]? = some z := ⟨_, List.getElem?_eq_getElem (by rw [HN.out]; exact hlt)⟩
      have HZ' : Zs w (.slice ao n oc) of := HZ.out
      obtain ⟨bo, off, rfl, ci⟩ := zs_at HZ' BB.out hz
      have NX : Hid (leftZ l (of.take (i + 1)) = leftZ l (of.take i) ++ (if z ∈ l then [] else [z])) := leftZ_take hz
      have ZM : Hid (z ∈ of) := List.mem_of_getElem? hz
      clear hz HZ'
      obtain ⟨p, hp⟩ := BS.out wr BB.out z
      go_wp2_with fail
      refine hp.mono ?_
      rintro e w2 ⟨rfl, hb⟩
      have B2 : Hid (Below w.heap.size w w2) := on_below BB.out hb
      clear hp hb BB
      by_cases hzl : z ∈ l
      · have d : decide (z ∈ l) = true := decide_eq_true hzl
        have L2 : Hid (leftZ l (of.take (i + 1)) = []) := by unfold Hid; rw [NX.out, LL.out, if_pos hzl]; rfl
        clear NX LL
        go_wp2
        go_roundw
        case rel => exact ⟨i + 1, by omega, by go_num, L2, B2⟩
        case measure => simp [intOf]; omega
      · have d : decide (z ∈ l) = false := decide_eq_false hzl
        have NO : Hid (¬ leftZ l of = []) := fun h => by
          have h1 := leftZ_mem.2 ⟨ZM.out, hzl⟩
          rw [h] at h1
          cases h1
        clear NX LL
        go_wp2
        go_ret
        exact ⟨tells_no rfl NO.out, B2.out⟩
    · obtain rfl : n = i := by omega
      have R : Hid (leftZ l of = []) := by have := LL.out; rwa [List.take_of_length_le (by rw [HN.out]; exact Nat.le_refl _)] at this
      clear LL
      go_wp2
      go_ret
      exact ⟨tells_yes rfl R.out, BB.out⟩

end

section
/-
  What a spread is, in memory.
-/
open Go.RowKit
set_option linter.unusedVariables false

def stepCells (ss : List (Nat × Int)) : List Value := ss.flatMap fun s => [.int .i64 (s.1 : Int), .int .i64 s.2]
theorem stepCells_snoc (ss : List (Nat × Int)) (s : Nat × Int) : stepCells (ss ++ [s]) = stepCells ss ++ [.int .i64 (s.1 : Int), .int .i64 s.2] := by simp [stepCells]

/-- A spread: its map's block, its entries at most, the map, what it says, the two tables and what they hold, the list to be looked at, the steps, the function. -/
structure SpS where
  mb : Nat
  k : Nat
  f : Int → Option Value
  G : Int → List Int
  lb : Nat
  rb : Nat
  m : Nat
  h : Nat → Int
  r : Nat → Int
  fsv : Value
  FF : List Int
  ssv : Value
  ss : List (Nat × Int)
  fv : Value
def SpS.lv (s : SpS) : Value := .slice (some ⟨s.lb, 0, none⟩) s.m s.m
def SpS.rv (s : SpS) : Value := .slice (some ⟨s.rb, 0, none⟩) s.m s.m

/-- What is at a block that numbers of one's own lie in. -/
theorem OwnZ.kind {B n : Nat} {W : World} {v : Value} {l : List Int} (h : OwnZ B W v n l) {q : Nat} (hq : v.ownBlock = some q) : ∃ cs, W.heap[q]? = some (.cells cs 3) := owns_type' h q hq
/-- One block of numbers, none of the others, is turned. -/
theorem heap_ne {W : World} {q q' : Nat} {cs cs' : Array Value} {t t' : TypeId} {fr fr' : Nat × Nat} (h : W.heap[q]? = some (.cells cs t fr)) (h' : W.heap[q']? = some (.cells cs' t' fr')) (ht : t ≠ t') : q ≠ q' := by
  intro e
  subst e
  rw [h] at h'
  injection h' with h'
  injection h' with _ h2 _
  exact ht h2
theorem heap_neM {W : World} {q q' : Nat} {cs : Array Value} {es : Array MapEntry} {c : Nat} {t : TypeId} {fr : Nat × Nat} (h : W.heap[q]? = some (.cells cs t fr)) (h' : W.heap[q']? = some (.map es c)) : q ≠ q' := by
  intro e
  subst e
  rw [h] at h'
  cases h'

theorem tab_set_own {B n : Nat} {W : World} {b : Nat} {h : Nat → Int} (ho : OwnZ B W (.slice (some ⟨b, 0, none⟩) n n) n (tabZ n h)) {e : Nat} (he : e < n) (v : Int) : OwnZ B (W.setCell ⟨b, e, none⟩ (.int .i64 v)) (.slice (some ⟨b, 0, none⟩) n n) n (tabZ n (updN h e v)) := by
  rcases ho.2 with ⟨h0, -⟩ | ⟨g, cap, cur, hv, hg, hh, hnc, hcm, hcs, ht⟩
  · cases h0
  · injection hv with e1 e2 e3
    injection e1 with e1
    injection e1 with e1 _ _
    subst e1
    subst e3
    refine ⟨by rw [List.length_map, tab_length, Nat.mul_one], .inr ⟨b, n, cur.set! e (.int .i64 v), rfl, hg, ?_, Nat.le_refl _, hcm, by simpa using hcs, ?_⟩⟩
    · simp [World.setCell, Array.getElem?_modify, hh]
    · rw [← tabZ_set, List.map_set]
      rw [Nat.mul_one] at ht hcs ⊢
      rw [Array.set!_eq_setIfInBounds, Array.toList_setIfInBounds]
      rw [List.take_of_length_le (by rw [List.length_set, Array.length_toList, hcs]; exact Nat.le_refl _)]
      rw [List.take_of_length_le (by rw [Array.length_toList, hcs]; exact Nat.le_refl _)] at ht
      rw [ht]
theorem heap_set_other (W : World) (b j : Nat) (u : Value) {q : Nat} (hq : q ≠ b) : (W.setCell ⟨b, j, none⟩ u).heap[q]? = W.heap[q]? := Below.heap_setCell W ⟨b, j, none⟩ u q hq

theorem box_set {W : World} {p j : Nat} {cs : Array Value} {t : TypeId} (h : W.heap[p]? = some (.cells cs t (0, 0))) (u : Value) : (W.setCell ⟨p, j, none⟩ u).heap[p]? = some (.cells (cs.set! j u) t (0, 0)) := by
  simp [World.setCell, Array.getElem?_modify, h]

theorem OwnZ.frozen {B n : Nat} {W : World} {b c : Nat} {l : List Int} (h : OwnZ B W (.slice (some ⟨b, 0, none⟩) n c) n l) (j : Nat) : W.frozen? ⟨b, j, none⟩ = false := by
  obtain ⟨cs, hc⟩ := h.kind (q := b) rfl
  simp [World.frozen?, hc]
theorem OwnZ.cell {B n : Nat} {W : World} {b c : Nat} {l : List Int} (h : OwnZ B W (.slice (some ⟨b, 0, none⟩) n c) n l) {e : Nat} {z : Int} (hz : l[e]? = some z) : W.cell? ⟨b, e, none⟩ = some (.int .i64 z) := by
  obtain ⟨b', off, eb, hc⟩ := zs_at h.zs (Below.refl _ _) hz
  injection eb with eb
  injection eb with e1 e2 _
  subst e1
  subst e2
  simpa using hc

end

section
/-
  spread: pop, next, leave.
-/
open Go.RowKit
set_option linter.unusedVariables false

theorem fsv_shape {B n : Nat} {W : World} {v : Value} {l : List Int} (h : OwnZ B W v n l) : ∃ a c, v = .slice a n c := by
  obtain ⟨a, c, h1, -, -⟩ := owned_slice h
  exact ⟨a, c, h1⟩
end

section
/-
  spread: follow.
-/
open Go.RowKit
set_option linter.unusedVariables false

theorem Try.zeroZs (w : World) : (zeroValue 31).run Try.prog w = .ok (.slice none 0 0) w := by kernel_rfl

def xorI (a b : Int) : Int := ((a.toNat ^^^ b.toNat : Nat) : Int)
theorem xorI_bits {a b : Int} (ha : 0 ≤ a ∧ a < 9223372036854775808) (hb : 0 ≤ b ∧ b < 9223372036854775808) : bits BinOp.xor IntKind.i64 a b = xorI a b := by
  obtain ⟨x, rfl⟩ := Int.eq_ofNat_of_zero_le ha.1
  obtain ⟨y, rfl⟩ := Int.eq_ofNat_of_zero_le hb.1
  rw [i64_xor x y (by omega) (by omega)]
  rfl
/-- What is left behind one block, as far as its equations were gone through. -/
def decH (h : Nat → Int) (L : List Int) : Nat → Int := fun e => if (e : Int) ∈ L then h e - 1 else h e
def decR (r : Nat → Int) (L : List Int) (b : Int) : Nat → Int := fun e => if (e : Int) ∈ L then xorI (r e) b else r e
def newF (h : Nat → Int) (L : List Int) : List Int := L.filter fun x => decide (h x.toNat = 2)
theorem decH_next {h : Nat → Int} {L : List Int} (hN : L.Nodup) {j e : Nat} (hj : L[j]? = some (e : Int)) : updN (decH h (L.take j)) e (h e - 1) = decH h (L.take (j + 1)) := by
  obtain ⟨hi, he⟩ := List.getElem?_eq_some_iff.1 hj
  funext x
  unfold updN decH
  rw [List.take_succ_eq_append_getElem hi, he]
  by_cases hx : x = e
  · subst hx; simp
  · have : (x : Int) ≠ (e : Int) := by omega
    simp [hx, this]
theorem decR_next {r : Nat → Int} {L : List Int} {b : Int} (hN : L.Nodup) {j e : Nat} (hj : L[j]? = some (e : Int)) : updN (decR r (L.take j) b) e (xorI (r e) b) = decR r (L.take (j + 1)) b := by
  obtain ⟨hi, he⟩ := List.getElem?_eq_some_iff.1 hj
  funext x
  unfold updN decR
  rw [List.take_succ_eq_append_getElem hi, he]
  by_cases hx : x = e
  · subst hx; simp
  · have : (x : Int) ≠ (e : Int) := by omega
    simp [hx, this]
theorem not_taken {L : List Int} (hN : L.Nodup) {j : Nat} {x : Int} (hj : L[j]? = some x) : x ∉ L.take j := by
  intro hm
  obtain ⟨i, hi⟩ := List.mem_iff_getElem?.1 hm
  rw [List.getElem?_take] at hi
  split at hi
  · rename_i hlt
    obtain ⟨h1, h2⟩ := List.getElem?_eq_some_iff.1 hi
    obtain ⟨h3, h4⟩ := List.getElem?_eq_some_iff.1 hj
    have := (List.nodup_iff_pairwise_ne.1 hN)
    rw [List.pairwise_iff_getElem] at this
    exact this i j h1 h3 hlt (by rw [h2, h4])
  · cases hi
theorem newF_next {h : Nat → Int} {L : List Int} {j e : Nat} (hj : L[j]? = some (e : Int)) : newF h (L.take (j + 1)) = newF h (L.take j) ++ (if h e - 1 = 1 then [(e : Int)] else []) := by
  obtain ⟨hi, he⟩ := List.getElem?_eq_some_iff.1 hj
  unfold newF
  rw [List.take_succ_eq_append_getElem hi, List.filter_append, he]
  congr 1
  by_cases h2 : h e = 2
  · have : h e - 1 = 1 := by omega
    simp [h2]
  · have : ¬ h e - 1 = 1 := by omega
    simp [h2, this]
theorem newF_le (h : Nat → Int) (L : List Int) (j : Nat) : (newF h (L.take j)).length ≤ j := by
  unfold newF
  have h1 := List.length_filter_le (fun x : Int => decide (h x.toNat = 2)) (L.take j)
  have h2 := List.length_take_le j L
  omega

end

section
/-
  spreadOf: what its loops keep.
-/
open Go.RowKit
set_option linter.unusedVariables false

def kn (s : SpS) : List Int := s.ss.map Prod.snd
def cnt2 (m : Nat) (h : Nat → Int) : Nat := (List.range m).countP fun e => decide (2 ≤ h e)
structure Run (fl : List (List Int)) (FV : Value) (s : SpS) : Prop where
  m : s.m = fl.length
  fv : s.fv = FV
  G : ∀ b, s.G b = inAll fl b
  h : ∀ e l, fl[e]? = some l → s.h e = ((leftZ (kn s) l).length : Int)
  r : ∀ e l, fl[e]? = some l → s.r e = ((xorN (leftZ (kn s) l) : Nat) : Int)
  d : Deriv fl s.ss
  F : ∀ e, e < fl.length → s.h e = 1 → (e : Int) ∈ s.FF
  N : ∀ x ∈ s.FF, ∃ e : Nat, x = e ∧ e < fl.length
  len : s.ss.length + s.FF.length + 2 * cnt2 fl.length s.h ≤ 3 * fl.length

theorem count_two {l : List Nat} {p q r : Nat → Bool} (h : ∀ e ∈ l, (p e = true → r e = true) ∧ (q e = true → r e = true) ∧ ¬ (p e = true ∧ q e = true)) : l.countP p + l.countP q ≤ l.countP r := by
  induction l with
  | nil => simp
  | cons x l ih =>
    have h1 := ih (fun e he => h e (List.mem_cons_of_mem _ he))
    obtain ⟨h2, h3, h4⟩ := h x (List.mem_cons_self ..)
    rw [List.countP_cons, List.countP_cons, List.countP_cons]
    cases hp : p x <;> cases hq : q x <;> cases hr : r x <;> simp_all <;> omega
theorem newF_len (fl : List (List Int)) (b : Int) (h : Nat → Int) : (newF h (inAll fl b)).length = (List.range fl.length).countP fun e => decide (b ∈ fl.getD e []) && decide (h e = 2) := by
  unfold newF inAll
  rw [List.filter_map, List.length_map, List.countP_eq_length_filter, List.filter_filter]
  congr 1
  refine List.filter_congr fun e _ => ?_
  simp [Function.comp, Bool.and_comm]
theorem cnt2_step (fl : List (List Int)) (b : Int) (h : Nat → Int) : cnt2 fl.length (decH h (inAll fl b)) + (newF h (inAll fl b)).length ≤ cnt2 fl.length h := by
  rw [newF_len]
  unfold cnt2
  refine count_two fun e he => ?_
  have hlt := List.mem_range.1 he
  obtain ⟨l, hl⟩ : ∃ l, fl[e]? = some l := ⟨_, List.getElem?_eq_getElem hlt⟩
  have hm := inAll_mem (b := b) hl
  have hd : fl.getD e [] = l := by simp [List.getD, hl]
  rw [hd]
  unfold decH
  by_cases hb : b ∈ l
  · rw [if_pos (hm.2 hb)]
    simp only [decide_eq_true_eq, Bool.and_eq_true]
    refine ⟨fun h1 => by omega, fun h1 => by omega, fun h1 => by omega⟩
  · rw [if_neg (fun h => hb (hm.1 h))]
    simp only [decide_eq_true_eq, Bool.and_eq_true]
    exact ⟨fun h1 => h1, fun h1 => absurd h1.1 hb, fun h1 => hb h1.2.1⟩

/-- An equation is passed by. -/
theorem Run.pass {fl : List (List Int)} {FV : Value} {s : SpS} (R : Run fl FV s) {F : List Int} {q : Nat} (hF : s.FF = F ++ [(q : Int)]) (hq : s.h q ≠ 1) (v : Value) : Run fl FV { s with fsv := v, FF := F } :=
  { m := R.m, fv := R.fv, G := R.G, h := R.h, r := R.r, d := R.d
    F := fun e he h1 => by
      have h2 := R.F e he h1
      rw [hF] at h2
      rcases List.mem_append.1 h2 with h2 | h2
      · exact h2
      · have e1 := List.mem_singleton.1 h2
        have e2 : e = q := by omega
        subst e2
        exact absurd h1 hq
    N := fun x hx => R.N x (by rw [hF]; exact List.mem_append_left _ hx)
    len := by
      have := R.len
      rw [hF, List.length_append, List.length_singleton] at this
      show s.ss.length + F.length + 2 * cnt2 fl.length s.h ≤ _
      omega }
/-- Its last block follows. -/
theorem Run.last {fl : List (List Int)} {FV : Value} {s : SpS} (R : Run fl FV s) (hN : ∀ l ∈ fl, ∀ x ∈ l, 0 ≤ x) {q : Nat} (hq : q < fl.length) (h1 : s.h q = 1) : ∃ (b : Int) (l : List Int), fl[q]? = some l ∧ leftZ (kn s) l = [b] ∧ s.r q = b ∧ 0 ≤ b ∧ b ∈ l ∧ b ∉ kn s := by
  obtain ⟨l, hl⟩ : ∃ l, fl[q]? = some l := ⟨_, List.getElem?_eq_getElem hq⟩
  have h2 := R.h q l hl
  have h3 := R.r q l hl
  rw [h1] at h2
  obtain ⟨b, hb⟩ : ∃ b, leftZ (kn s) l = [b] := List.length_eq_one_iff.1 (by omega)
  have hm : b ∈ leftZ (kn s) l := by rw [hb]; simp
  obtain ⟨hm1, hm2⟩ := leftZ_mem.1 hm
  have h0 := hN l (List.mem_of_getElem? hl) b hm1
  refine ⟨b, l, hl, hb, ?_, h0, hm1, hm2⟩
  rw [h3, hb]
  simp [xorN]
  omega
theorem Run.follow {fl : List (List Int)} {FV : Value} {s : SpS} (R : Run fl FV s) (hN : ∀ l ∈ fl, l.Nodup) (hN0 : ∀ l ∈ fl, ∀ x ∈ l, 0 ≤ x) {F : List Int} {q : Nat} (hF : s.FF = F ++ [(q : Int)]) (hq : q < fl.length) (h1 : s.h q = 1) {b : Int} (hb : s.r q = b) (u u' : Value) :
    Run fl FV { s with h := decH s.h (s.G b), r := decR s.r (s.G b) b, fsv := u, FF := F ++ newF s.h (s.G b), ssv := u', ss := s.ss ++ [(q, b)] } := by
  obtain ⟨b', l, hl, hL, hr, h0, hbl, hbk⟩ := R.last hN0 hq h1
  have e0 : b' = b := by rw [← hr, hb]
  subst e0
  have hK : ({ s with h := decH s.h (s.G b'), r := decR s.r (s.G b') b', fsv := u, FF := F ++ newF s.h (s.G b'), ssv := u', ss := s.ss ++ [(q, b')] } : SpS).ss.map Prod.snd = kn s ++ [b'] := by simp [kn]
  have hh : ∀ e l, fl[e]? = some l → decH s.h (s.G b') e = ((leftZ (kn s ++ [b']) l).length : Int) := by
    intro e l' hl'
    unfold decH
    rw [R.G, R.h e l' hl']
    by_cases hm : b' ∈ l'
    · rw [if_pos ((inAll_mem hl').2 hm)]
      have := (leftZ_step (hN l' (List.mem_of_getElem? hl')) hm hbk).length_eq
      rw [List.length_cons] at this
      omega
    · rw [if_neg (fun h => hm ((inAll_mem hl').1 h)), leftZ_out hm]
  refine
    { m := R.m, fv := R.fv, G := R.G
      h := fun e l' hl' => by
        show decH s.h (s.G b') e = _
        rw [hh e l' hl']
        unfold kn
        rw [hK]
        rfl
      r := fun e l' hl' => ?_
      d := R.d.snoc hl hL
      F := fun e he h2 => ?_
      N := fun x hx => ?_
      len := ?_ }
  · show decR s.r (s.G b') b' e = ((xorN (leftZ ((s.ss ++ [(q, b')]).map Prod.snd) l') : Nat) : Int)
    have hkn : (s.ss ++ [(q, b')]).map Prod.snd = kn s ++ [b'] := by simp [kn]
    rw [hkn]
    unfold decR
    rw [R.G, R.r e l' hl']
    by_cases hm : b' ∈ l'
    · rw [if_pos ((inAll_mem hl').2 hm)]
      have := xorN_perm (leftZ_step (hN l' (List.mem_of_getElem? hl')) hm hbk)
      rw [this, xorN_cons]
      unfold xorI
      have e1 : ((b'.toNat ^^^ xorN (leftZ (kn s ++ [b']) l') : Nat) : Int).toNat = b'.toNat ^^^ xorN (leftZ (kn s ++ [b']) l') := Int.toNat_natCast _
      rw [e1, Nat.xor_comm b'.toNat, Nat.xor_assoc, Nat.xor_self, Nat.xor_zero]
    · rw [if_neg (fun h => hm ((inAll_mem hl').1 h)), leftZ_out hm]
  · show (e : Int) ∈ F ++ newF s.h (s.G b')
    have h2' : decH s.h (s.G b') e = 1 := h2
    unfold decH at h2'
    by_cases hm : (e : Int) ∈ s.G b'
    · rw [if_pos hm] at h2'
      refine List.mem_append_right _ (List.mem_filter.2 ⟨hm, ?_⟩)
      simp
      omega
    · rw [if_neg hm] at h2'
      refine List.mem_append_left _ ?_
      have h3 := R.F e he h2'
      rw [hF] at h3
      rcases List.mem_append.1 h3 with h3 | h3
      · exact h3
      · exfalso
        have e1 := List.mem_singleton.1 h3
        have e2 : e = q := by omega
        subst e2
        exact hm (by rw [R.G]; exact (inAll_mem hl).2 hbl)
  · rcases List.mem_append.1 hx with hx | hx
    · exact R.N x (by rw [hF]; exact List.mem_append_left _ hx)
    · have hx' := (List.mem_filter.1 hx).1
      rw [R.G] at hx'
      exact inAll_nat hx'
  · have h3 := R.len
    have h4 := cnt2_step fl b' s.h
    rw [hF, List.length_append, List.length_singleton] at h3
    show (s.ss ++ [(q, b')]).length + (F ++ newF s.h (s.G b')).length + 2 * cnt2 fl.length (decH s.h (s.G b')) ≤ _
    rw [R.G, List.length_append, List.length_append, List.length_singleton]
    omega
/-- There is nothing to be looked at any more. -/
theorem Run.done {fl : List (List Int)} {FV : Value} {s : SpS} (R : Run fl FV s) (hF : s.FF = []) : Done fl (kn s) := by
  intro l hl h1
  obtain ⟨e, he⟩ := List.mem_iff_getElem?.1 hl
  have h2 := R.h e l he
  have h3 := R.F e (List.getElem?_eq_some_iff.1 he).1 (by rw [h2, h1]; rfl)
  rw [hF] at h3
  cases h3

end

section
/-
  Whether equations agree: what is reckoned.
-/
open Go.RowKit
set_option linter.unusedVariables false

/-- An equation: its blocks and its value. -/
abbrev EqP := List Int × List UInt8
def knZ (K l : List Int) : List Int := l.filter fun x => decide (x ∈ K)
theorem knZ_mem {K l : List Int} {x : Int} : x ∈ knZ K l ↔ x ∈ l ∧ x ∈ K := by simp [knZ]
theorem knZ_take {K l : List Int} {i : Nat} {z : Int} (h : l[i]? = some z) : knZ K (l.take (i + 1)) = knZ K (l.take i) ++ (if z ∈ K then [z] else []) := by
  obtain ⟨hi, e⟩ := List.getElem?_eq_some_iff.1 h
  unfold knZ
  rw [List.take_succ_eq_append_getElem hi, e, List.filter_append]
  congr 1
  by_cases hz : z ∈ K <;> simp [hz]
theorem knZ_congr {K K' l : List Int} (h : ∀ x ∈ l, (x ∈ K ↔ x ∈ K')) : knZ K l = knZ K' l := by
  unfold knZ
  refine List.filter_congr fun x hx => ?_
  have := h x hx
  by_cases hk : x ∈ K
  · simp [hk, this.1 hk]
  · have hk' : x ∉ K' := fun h => hk (this.2 h)
    simp [hk, hk']
theorem kn_left_perm (K l : List Int) : (knZ K l ++ leftZ K l).Perm l := by
  have := List.filter_append_perm (fun x : Int => decide (x ∈ K)) l
  exact this
theorem knZ_all {K l : List Int} (h : leftZ K l = []) : knZ K l = l := by
  unfold knZ
  rw [List.filter_eq_self]
  intro x hx
  by_cases hk : x ∈ K
  · simp [hk]
  · have : x ∈ leftZ K l := leftZ_mem.2 ⟨hx, hk⟩
    rw [h] at this
    cases this

/-- Blocks found one after another, and their values. -/
structure Slv (E : List EqP) (ss : List (EqP × Int)) (V : Int → List UInt8) : Prop where
  mem : ∀ (j : Nat) (p : EqP) (b : Int), ss[j]? = some (p, b) → p ∈ E
  left : ∀ (j : Nat) (p : EqP) (b : Int), ss[j]? = some (p, b) → leftZ ((ss.take j).map Prod.snd) p.1 = [b]
  val : ∀ (j : Nat) (p : EqP) (b : Int), ss[j]? = some (p, b) → V b = xorAll p.2 ((knZ ((ss.take j).map Prod.snd) p.1).map V)
theorem Slv.nil (E : List EqP) (V : Int → List UInt8) : Slv E [] V := ⟨fun j p b h => by simp at h, fun j p b h => by simp at h, fun j p b h => by simp at h⟩
theorem Slv.pre {E : List EqP} {ss : List (EqP × Int)} {V : Int → List UInt8} (h : Slv E ss V) {j : Nat} {p : EqP} {b : Int} (hj : ss[j]? = some (p, b)) {x : Int} (hx : x ∈ p.1) (hne : x ≠ b) : x ∈ (ss.take j).map Prod.snd := by
  by_cases hk : x ∈ (ss.take j).map Prod.snd
  · exact hk
  · have h1 : x ∈ leftZ ((ss.take j).map Prod.snd) p.1 := leftZ_mem.2 ⟨hx, hk⟩
    rw [h.left j p b hj] at h1
    exact absurd (List.mem_singleton.1 h1) hne
theorem Slv.out {E : List EqP} {ss : List (EqP × Int)} {V : Int → List UInt8} (h : Slv E ss V) {j : Nat} {p : EqP} {b : Int} (hj : ss[j]? = some (p, b)) : b ∈ p.1 ∧ b ∉ (ss.take j).map Prod.snd := by
  have h1 : b ∈ leftZ ((ss.take j).map Prod.snd) p.1 := by rw [h.left j p b hj]; simp
  exact leftZ_mem.1 h1
def updV1 (V : Int → List UInt8) (b : Int) (v : List UInt8) : Int → List UInt8 := fun x => if x = b then v else V x
theorem updV1_same (V : Int → List UInt8) (b : Int) (v : List UInt8) : updV1 V b v b = v := by simp [updV1]
theorem updV1_other {V : Int → List UInt8} {b x : Int} {v : List UInt8} (h : x ≠ b) : updV1 V b v x = V x := by simp [updV1, h]
theorem take_in {ss : List (EqP × Int)} {j : Nat} {x : Int} (h : x ∈ (ss.take j).map Prod.snd) : x ∈ ss.map Prod.snd := by
  obtain ⟨q, h1, rfl⟩ := List.mem_map.1 h
  exact List.mem_map.2 ⟨q, List.mem_of_mem_take h1, rfl⟩
/-- One block more. -/
theorem Slv.snoc {E : List EqP} {ss : List (EqP × Int)} {V : Int → List UInt8} (h : Slv E ss V) {p : EqP} {b : Int} (hp : p ∈ E) (hL : leftZ (ss.map Prod.snd) p.1 = [b]) :
    Slv E (ss ++ [(p, b)]) (updV1 V b (xorAll p.2 ((knZ (ss.map Prod.snd) p.1).map V))) := by
  have hb : b ∉ ss.map Prod.snd := (leftZ_mem.1 (by rw [hL]; simp : b ∈ leftZ (ss.map Prod.snd) p.1)).2
  have agree : ∀ (l : List Int), (∀ x ∈ l, x ∈ ss.map Prod.snd) → l.map (updV1 V b (xorAll p.2 ((knZ (ss.map Prod.snd) p.1).map V))) = l.map V := by
    intro l hl
    refine List.map_congr_left fun x hx => updV1_other fun e => hb (e ▸ hl x hx)
  have cs : ∀ (j : Nat) (p' : EqP) (b' : Int), (ss ++ [(p, b)])[j]? = some (p', b') → (j < ss.length ∧ ss[j]? = some (p', b') ∧ (ss ++ [(p, b)]).take j = ss.take j) ∨ (p' = p ∧ b' = b ∧ (ss ++ [(p, b)]).take j = ss) := by
    intro j p' b' hj
    by_cases hlt : j < ss.length
    · rw [List.getElem?_append_left hlt] at hj
      exact .inl ⟨hlt, hj, List.take_append_of_le_length (by omega)⟩
    · have hj' : j = ss.length := by
        have := (List.getElem?_eq_some_iff.1 hj).1
        rw [List.length_append, List.length_singleton] at this
        omega
      subst hj'
      rw [List.getElem?_append_right (Nat.le_refl _)] at hj
      simp at hj
      obtain ⟨rfl, rfl⟩ := hj
      exact .inr ⟨rfl, rfl, List.take_left' rfl⟩
  refine ⟨fun j p' b' hj => ?_, fun j p' b' hj => ?_, fun j p' b' hj => ?_⟩
  · rcases cs j p' b' hj with ⟨-, h1, -⟩ | ⟨rfl, rfl, -⟩
    · exact h.mem j p' b' h1
    · exact hp
  · rcases cs j p' b' hj with ⟨-, h1, h2⟩ | ⟨rfl, rfl, h2⟩
    · rw [h2]; exact h.left j p' b' h1
    · rw [h2]; exact hL
  · rcases cs j p' b' hj with ⟨-, h1, h2⟩ | ⟨rfl, rfl, h2⟩
    · rw [h2, agree _ (fun x hx => take_in (knZ_mem.1 hx).2), updV1_other (fun e => hb (by rw [← e]; exact List.mem_map.2 ⟨_, List.mem_of_getElem? h1, rfl⟩))]
      exact h.val j p' b' h1
    · rw [h2, agree _ (fun x hx => (knZ_mem.1 hx).2), updV1_same]
theorem Slv.kept {E : List EqP} {ss : List (EqP × Int)} {V : Int → List UInt8} (h : Slv E ss V) {V' : Int → List UInt8} (hV : ∀ x ∈ ss.map Prod.snd, V' x = V x) : Slv E ss V' := by
  refine ⟨h.mem, h.left, fun j p b hj => ?_⟩
  rw [hV b (List.mem_map.2 ⟨_, List.mem_of_getElem? hj, rfl⟩), h.val j p b hj]
  congr 1
  exact (List.map_congr_left fun x hx => hV x (take_in (knZ_mem.1 hx).2)).symm
/-- There are such values. -/
theorem slv_ex (E : List EqP) : ∀ (n : Nat) (ss : List (EqP × Int)), ss.length = n → (∀ q ∈ ss, q.1 ∈ E) → (∀ (j : Nat) (p : EqP) (b : Int), ss[j]? = some (p, b) → leftZ ((ss.take j).map Prod.snd) p.1 = [b]) → ∃ V, Slv E ss V := by
  intro n
  induction n with
  | zero =>
    intro ss h0 _ _
    obtain rfl := List.eq_nil_of_length_eq_zero h0
    exact ⟨fun _ => [], Slv.nil E _⟩
  | succ n ih =>
    intro ss' hn h1 h2
    rcases List.eq_nil_or_concat ss' with rfl | ⟨ss, ⟨p, b⟩, rfl⟩
    · cases hn
    rw [List.concat_eq_append] at hn h1 h2 ⊢
    rw [List.length_append, List.length_singleton] at hn
    obtain ⟨V, hV⟩ := ih ss (by omega) (fun q hq => h1 q (List.mem_append_left _ hq)) (fun j p' b' hj => by
      have hlt := (List.getElem?_eq_some_iff.1 hj).1
      have := h2 j p' b' (by rw [List.getElem?_append_left hlt]; exact hj)
      rwa [List.take_append_of_le_length (by omega)] at this)
    have h3 := h2 ss.length p b (by rw [List.getElem?_append_right (Nat.le_refl _)]; simp)
    rw [List.take_left' rfl] at h3
    exact ⟨_, hV.snoc (h1 (p, b) (by simp)) h3⟩
theorem Slv.fol {E : List EqP} {ss : List (EqP × Int)} {V : Int → List UInt8} (h : Slv E ss V) : ∀ (j : Nat) (p : EqP) (b : Int), ss[j]? = some (p, b) → Fol (E.map Prod.fst) b := by
  intro j
  induction j using Nat.strongRecOn with
  | _ j ih =>
    intro p b hj
    refine Fol.step p.1 b (List.mem_map.2 ⟨p, h.mem j p b hj, rfl⟩) (h.out hj).1 fun y hy hne => ?_
    obtain ⟨⟨p', b'⟩, h1, rfl⟩ := List.mem_map.1 (h.pre hj hy hne)
    obtain ⟨i, h2⟩ := List.mem_iff_getElem?.1 h1
    rw [List.getElem?_take] at h2
    split at h2
    · rename_i hlt
      exact ih i hlt p' b' h2
    · cases h2
theorem Slv.fol' {E : List EqP} {ss : List (EqP × Int)} {V : Int → List UInt8} (h : Slv E ss V) {b : Int} (hb : b ∈ ss.map Prod.snd) : Fol (E.map Prod.fst) b := by
  obtain ⟨⟨p, b'⟩, h1, rfl⟩ := List.mem_map.1 hb
  obtain ⟨j, hj⟩ := List.mem_iff_getElem?.1 h1
  exact h.fol j p b' hj
theorem Slv.len {n : Nat} {E : List EqP} {ss : List (EqP × Int)} {V : Int → List UInt8} (h : Slv E ss V) (hn : ∀ p ∈ E, p.2.length = n) : ∀ (j : Nat) (p : EqP) (b : Int), ss[j]? = some (p, b) → (V b).length = n := by
  intro j
  induction j using Nat.strongRecOn with
  | _ j ih =>
    intro p b hj
    have h0 := hn p (h.mem j p b hj)
    rw [h.val j p b hj, xorAll_length, h0]
    intro x hx
    obtain ⟨y, hy, rfl⟩ := List.mem_map.1 hx
    obtain ⟨⟨p', b'⟩, h1, rfl⟩ := List.mem_map.1 (knZ_mem.1 hy).2
    obtain ⟨i, h2⟩ := List.mem_iff_getElem?.1 h1
    rw [List.getElem?_take] at h2
    split at h2
    · rename_i hlt
      rw [ih i hlt p' b' h2, h0]
    · cases h2
theorem Slv.len' {n : Nat} {E : List EqP} {ss : List (EqP × Int)} {V : Int → List UInt8} (h : Slv E ss V) (hn : ∀ p ∈ E, p.2.length = n) {b : Int} (hb : b ∈ ss.map Prod.snd) : (V b).length = n := by
  obtain ⟨⟨p, b'⟩, h1, rfl⟩ := List.mem_map.1 hb
  obtain ⟨j, hj⟩ := List.mem_iff_getElem?.1 h1
  exact h.len hn j p b' hj

/-- Equations agree: there are values by which all closed ones hold. -/
def AgQ (n : Nat) (E : List EqP) : Prop := ∃ V : Int → List UInt8, (∀ b, (V b).length = n) ∧ ∀ p ∈ E, (∀ b ∈ p.1, Fol (E.map Prod.fst) b) → zeroB (xorAll p.2 (p.1.map V)) = true
theorem lead_split {K l : List Int} {b : Int} (hL : leftZ K l = [b]) (V : Int → List UInt8) (z : List UInt8) : xorAll z (l.map V) = xorL (xorAll z ((knZ K l).map V)) (V b) := by
  have h1 := kn_left_perm K l
  rw [hL] at h1
  rw [← xorAll_perm z (h1.map V), List.map_append, xorAll_append]
  rfl
theorem slv_agree {n : Nat} {E : List EqP} {ss : List (EqP × Int)} {V : Int → List UInt8} (hn : ∀ p ∈ E, p.2.length = n) (h : Slv E ss V) (hK : ∀ x, Fol (E.map Prod.fst) x → x ∈ ss.map Prod.snd) :
    (∀ p ∈ E, (∀ b ∈ p.1, b ∈ ss.map Prod.snd) → (∃ (j : Nat) (b : Int), ss[j]? = some (p, b)) ∨ zeroB (xorAll p.2 (p.1.map V)) = true) ↔ AgQ n E := by
  constructor
  · intro hA
    refine ⟨fun b => if b ∈ ss.map Prod.snd then V b else zeros n, fun b => ?_, fun p hp hc => ?_⟩
    · show (if b ∈ ss.map Prod.snd then V b else zeros n).length = n
      by_cases hb : b ∈ ss.map Prod.snd
      · rw [if_pos hb]; exact h.len' hn hb
      · rw [if_neg hb]; exact zeros_length n
    · have e1 : p.1.map (fun b => if b ∈ ss.map Prod.snd then V b else zeros n) = p.1.map V := List.map_congr_left fun b hb => if_pos (hK b (hc b hb))
      rw [e1]
      rcases hA p hp (fun b hb => hK b (hc b hb)) with ⟨j, b, hj⟩ | hz
      · rw [lead_split (h.left j p b hj) V, ← h.val j p b hj, xorL_self]
        exact zeroB_zeros _
      · exact hz
  · rintro ⟨V', hV', hA⟩ p hp hc
    right
    have hcl : ∀ (j : Nat) (p : EqP) (b : Int), ss[j]? = some (p, b) → ∀ x ∈ p.1, Fol (E.map Prod.fst) x := by
      intro j p b hj x hx
      by_cases hxb : x = b
      · rw [hxb]; exact h.fol j p b hj
      · exact h.fol' (take_in (h.pre hj hx hxb))
    have hVV : ∀ (j : Nat) (p : EqP) (b : Int), ss[j]? = some (p, b) → V b = V' b := by
      intro j
      induction j using Nat.strongRecOn with
      | _ j ih =>
        intro p b hj
        have h1 := hA p (h.mem j p b hj) (hcl j p b hj)
        rw [lead_split (h.left j p b hj) V'] at h1
        have h2 : (xorAll p.2 ((knZ ((ss.take j).map Prod.snd) p.1).map V')).length = n := by
          rw [xorAll_length, hn p (h.mem j p b hj)]
          intro x hx
          obtain ⟨y, hy, rfl⟩ := List.mem_map.1 hx
          rw [hV', hn p (h.mem j p b hj)]
        rw [zeroB_xorL (by rw [hV', h2])] at h1
        rw [← h1, h.val j p b hj]
        congr 1
        refine List.map_congr_left fun x hx => ?_
        obtain ⟨⟨p', b'⟩, h3, rfl⟩ := List.mem_map.1 (knZ_mem.1 hx).2
        obtain ⟨i, h4⟩ := List.mem_iff_getElem?.1 h3
        rw [List.getElem?_take] at h4
        split at h4
        · rename_i hlt
          exact ih i hlt p' b' h4
        · cases h4
    have hVK : ∀ x ∈ ss.map Prod.snd, V x = V' x := by
      intro x hx
      obtain ⟨⟨p', b'⟩, h1, rfl⟩ := List.mem_map.1 hx
      obtain ⟨j, hj⟩ := List.mem_iff_getElem?.1 h1
      exact hVV j p' b' hj
    have e1 : p.1.map V = p.1.map V' := List.map_congr_left fun b hb => hVK b (hc b hb)
    rw [e1]
    exact hA p hp fun b hb => h.fol' (hc b hb)

end

section
/-
  spreadOf: one block more of an equation.
-/
open Go.RowKit
set_option linter.unusedVariables false

/-- One block more has one equation more. -/
def rowS (s : SpS) (b x : Int) (v : Value) : SpS := { s with k := s.k + 1, f := setO s.f b v, G := fun a => if a = b then s.G b ++ [x] else s.G a }
def inTo (fl : List (List Int)) (i : Nat) (b : Int) : List Int := ((List.range i).filter fun e => decide (b ∈ fl.getD e [])).map fun (e : Nat) => (e : Int)
theorem inTo_next {fl : List (List Int)} {i : Nat} {l : List Int} (hl : fl[i]? = some l) (b : Int) : inTo fl (i + 1) b = inTo fl i b ++ (if b ∈ l then [(i : Int)] else []) := by
  unfold inTo
  have hd : fl.getD i [] = l := by simp [List.getD, hl]
  rw [List.range_succ, List.filter_append, List.map_append]
  congr 1
  by_cases hb : b ∈ l
  · simp [hl, hb]
  · simp [hl, hb]
/-- Behind the first i equations, and j blocks of the next one. -/
structure Bld (fl : List (List Int)) (FV : Value) (i : Nat) (of : List Int) (s : SpS) : Prop where
  m : s.m = fl.length
  fv : s.fv = FV
  ss : s.ss = []
  k : s.k ≤ (fl.take i).flatten.length + of.length
  G : ∀ b, s.G b = inTo fl i b ++ (if b ∈ of then [(i : Int)] else [])
  h : ∀ e l, fl[e]? = some l → s.h e = if e < i then (l.length : Int) else 0
  r : ∀ e l, fl[e]? = some l → s.r e = if e < i then ((xorN l : Nat) : Int) else if e = i then ((xorN of : Nat) : Int) else 0
  F : ∀ e, e < fl.length → s.h e = 1 → (e : Int) ∈ s.FF
  N : ∀ x ∈ s.FF, ∃ e : Nat, x = e ∧ e < fl.length
  len : s.FF.length ≤ i
theorem Bld.start (fl : List (List Int)) (mb lb rb : Nat) (FV : Value) : Bld fl FV 0 [] ⟨mb, 0, fun _ => none, fun _ => [], lb, rb, fl.length, fun _ => 0, fun _ => 0, .slice none 0 0, [], .slice none 0 0, [], FV⟩ :=
  { m := rfl, fv := rfl, ss := rfl, k := Nat.zero_le _
    G := fun b => by simp [inTo]
    h := fun e l _ => by simp
    r := fun e l _ => by by_cases he : e = 0 <;> simp [he, xorN]
    F := fun e _ h => by simp at h
    N := fun x hx => by cases hx
    len := Nat.le_refl _ }
theorem Bld.block {fl : List (List Int)} {FV : Value} {i : Nat} {of : List Int} {s : SpS} (R : Bld fl FV i of s) {l : List Int} (hl : fl[i]? = some l) {b : Int} (hb : b ∉ of) (hn : 0 ≤ b) (hb0 : ∀ x ∈ of, 0 ≤ x) (v : Value) : Bld fl FV i (of ++ [b]) { rowS s b (i : Int) v with r := updN s.r i (xorI (s.r i) b) } :=
  { m := R.m, fv := R.fv, ss := R.ss
    k := by
      have := R.k
      show s.k + 1 ≤ _
      rw [List.length_append, List.length_singleton]
      omega
    G := fun a => by
      show (if a = b then s.G b ++ [(i : Int)] else s.G a) = _
      by_cases ha : a = b
      · subst ha
        rw [if_pos rfl, R.G, if_neg hb]
        simp
      · rw [if_neg ha, R.G]
        simp [ha]
    h := R.h
    r := fun e l' hl' => by
      show updN s.r i (xorI (s.r i) b) e = _
      by_cases he : e = i
      · subst he
        rw [updN_same, R.r e l hl]
        simp only [Nat.lt_irrefl, if_false, if_true]
        unfold xorI
        rw [xorN_append, Int.toNat_natCast]
        congr 2
        simp [xorN]
      · rw [updN_other he, R.r e l' hl']
        simp [he]
    F := R.F, N := R.N, len := R.len }
theorem Bld.leave {fl : List (List Int)} {FV : Value} {i : Nat} {of : List Int} {s : SpS} (R : Bld fl FV i of s) (hl : fl[i]? = some of) (u : Value) : Bld fl FV (i + 1) [] { s with h := updN s.h i (of.length : Int), fsv := u, FF := if (of.length : Int) = 1 then s.FF ++ [(i : Int)] else s.FF } :=
  have hi : i < fl.length := (List.getElem?_eq_some_iff.1 hl).1
  { m := R.m, fv := R.fv, ss := R.ss
    k := by
      have h1 := R.k
      have h2 : (fl.take (i + 1)).flatten = (fl.take i).flatten ++ of := by
        obtain ⟨h3, h4⟩ := List.getElem?_eq_some_iff.1 hl
        rw [List.take_succ_eq_append_getElem h3, List.flatten_append, h4]
        simp
      show s.k ≤ _
      rw [h2, List.length_append, List.length_nil]
      omega
    G := fun b => by
      show s.G b = _
      rw [R.G, inTo_next hl]
      simp
    h := fun e l' hl' => by
      show updN s.h i (of.length : Int) e = _
      by_cases he : e = i
      · subst he
        rw [hl] at hl'
        obtain rfl := Option.some.inj hl'
        rw [updN_same, if_pos (by omega)]
      · rw [updN_other he, R.h e l' hl']
        by_cases h1 : e < i
        · rw [if_pos h1, if_pos (by omega)]
        · rw [if_neg h1, if_neg (by omega)]
    r := fun e l' hl' => by
      show s.r e = _
      rw [R.r e l' hl']
      by_cases he : e = i
      · subst he
        rw [hl] at hl'
        obtain rfl := Option.some.inj hl'
        simp
      · by_cases h1 : e < i
        · rw [if_pos h1, if_pos (by omega)]
        · rw [if_neg h1, if_neg he, if_neg (by omega)]
          by_cases h2 : e = i + 1
          · rw [if_pos h2]; simp [xorN]
          · rw [if_neg h2]
    F := fun e he h1 => by
      have h1' : updN s.h i (of.length : Int) e = 1 := h1
      show (e : Int) ∈ (if (of.length : Int) = 1 then s.FF ++ [(i : Int)] else s.FF)
      by_cases hei : e = i
      · subst hei
        rw [updN_same] at h1'
        rw [if_pos h1']
        simp
      · rw [updN_other hei] at h1'
        have := R.F e he h1'
        split
        · exact List.mem_append_left _ this
        · exact this
    N := fun x hx => by
      have hx' : x ∈ (if (of.length : Int) = 1 then s.FF ++ [(i : Int)] else s.FF) := hx
      split at hx'
      · rcases List.mem_append.1 hx' with h | h
        · exact R.N x h
        · exact ⟨i, List.mem_singleton.1 h, hi⟩
      · exact R.N x hx'
    len := by
      have := R.len
      show (if (of.length : Int) = 1 then s.FF ++ [(i : Int)] else s.FF).length ≤ i + 1
      split
      · rw [List.length_append, List.length_singleton]; omega
      · omega }
theorem Bld.run {fl : List (List Int)} {FV : Value} {s : SpS} (R : Bld fl FV fl.length [] s) : Run fl FV s :=
  have hk : kn s = [] := by unfold kn; rw [R.ss]; rfl
  { m := R.m, fv := R.fv
    G := fun b => by rw [R.G]; simp [inTo, inAll]
    h := fun e l hl => by rw [R.h e l hl, if_pos (List.getElem?_eq_some_iff.1 hl).1, hk, leftZ_nil]
    r := fun e l hl => by rw [R.r e l hl, if_pos (List.getElem?_eq_some_iff.1 hl).1, hk, leftZ_nil]
    d := by rw [R.ss]; exact Deriv.nil fl
    F := R.F, N := R.N
    len := by
      have h1 := R.len
      have h2 : cnt2 fl.length s.h ≤ fl.length := by
        unfold cnt2
        have := List.countP_le_length (p := fun e => decide (2 ≤ s.h e)) (l := List.range fl.length)
        rwa [List.length_range] at this
      rw [R.ss]
      simp
      omega }

end

section
/-
  spreadOf.
-/
open Go.RowKit
set_option linter.unusedVariables false

def IsMp0 (B : Nat) : Value → World → Prop := fun v W => ∃ mb, v = .map (some mb) ∧ B ≤ mb ∧ MpO W mb 0 (fun _ => none)
theorem stays_mp0 (B : Nat) : Stays (IsMp0 B) := fun _ _ _ hb ⟨mb, h1, h2, h3⟩ => ⟨mb, h1, h2, h3.below hb⟩
def IsTb0 (B m : Nat) : Value → World → Prop := fun v W => ∃ q, v = .slice (some ⟨q, 0, none⟩) m m ∧ OwnZ B W (.slice (some ⟨q, 0, none⟩) m m) m (tabZ m (fun _ => 0))
theorem stays_tb0 (B m : Nat) : Stays (IsTb0 B m) := fun _ _ _ hb ⟨q, h1, h2⟩ => ⟨q, h1, h2.below hb⟩
theorem tb0_lt {B m : Nat} {v : Value} {W : World} (h : IsTb0 B m v W) : ∃ q, v.ownBlock = some q ∧ q < W.heap.size := by
  obtain ⟨q, rfl, h2⟩ := h
  exact ⟨q, rfl, (h2.lt q rfl).2⟩
theorem made_tab {B : Nat} {W : World} {q m : Nat} (h : W.ownsRow B 3 1 (.slice (some ⟨q, 0, none⟩) m m) m (madeCells (Value.int .i64 0).cells (m * 1)).toList) : OwnZ B W (.slice (some ⟨q, 0, none⟩) m m) m (tabZ m (fun _ => 0)) := by
  simp only [Value.cells, Nat.mul_one, toList_madeCells_one] at h
  have e : List.replicate m (Value.int .i64 0) = (tabZ m (fun _ => 0)).map (Value.int .i64) := by
    apply List.ext_getElem?
    intro i
    rw [List.getElem?_map, List.getElem?_replicate]
    by_cases hi : i < m
    · rw [if_pos hi, tab_get _ hi]; rfl
    · rw [if_neg hi, List.getElem?_eq_none (by rw [tab_length]; omega)]; rfl
  rw [e] at h
  exact h
/-- Nothing is known of a spread yet. -/
def spZero (mb lb rb m : Nat) (fv : Value) : SpS := ⟨mb, 0, fun _ => none, fun _ => [], lb, rb, m, fun _ => 0, fun _ => 0, .slice none 0 0, [], .slice none 0 0, [], fv⟩
def IsAg8 (B m : Nat) (fv : Value) : Value → World → Prop := fun v W => ∃ mb lb rb, v = .agg #[.map (some mb), .slice (some ⟨lb, 0, none⟩) m m, .slice (some ⟨rb, 0, none⟩) m m, fv, .slice none 0 0, .slice none 0 0, .slice none 0 0] ∧ B ≤ mb ∧ MpO W mb 0 (fun _ => none) ∧
  OwnZ B W (.slice (some ⟨lb, 0, none⟩) m m) m (tabZ m (fun _ => 0)) ∧ OwnZ B W (.slice (some ⟨rb, 0, none⟩) m m) m (tabZ m (fun _ => 0)) ∧ lb ≠ rb
theorem stays_ag8 (B m : Nat) (fv : Value) : Stays (IsAg8 B m fv) := fun _ _ _ hb ⟨mb, lb, rb, h1, h2, h3, h4, h5, h6⟩ => ⟨mb, lb, rb, h1, h2, h3.below hb, h4.below hb, h5.below hb, h6⟩
theorem inAll_len (fl : List (List Int)) (b : Int) : (inAll fl b).length ≤ fl.length := by
  unfold inAll
  rw [List.length_map]
  have := List.length_filter_le (fun e => decide (b ∈ fl.getD e [])) (List.range fl.length)
  rwa [List.length_range] at this
theorem flat_le {fl : List (List Int)} {i : Nat} {l : List Int} (h : fl[i]? = some l) : l.length ≤ fl.flatten.length := by
  obtain ⟨h1, h2⟩ := List.getElem?_eq_some_iff.1 h
  have h3 : fl.flatten = (fl.take i).flatten ++ (l ++ (fl.drop (i + 1)).flatten) := by
    rw [← h2, ← List.flatten_cons, ← List.flatten_append, List.getElem_cons_drop, List.take_append_drop]
  rw [h3, List.length_append, List.length_append]
  omega
theorem flat_take_le (fl : List (List Int)) (i : Nat) : (fl.take i).flatten.length ≤ fl.flatten.length := by
  have h3 : fl.flatten = (fl.take i).flatten ++ (fl.drop i).flatten := by rw [← List.flatten_append, List.take_append_drop]
  rw [h3, List.length_append]
  omega
/-- What is still to be done. -/
def muW (p lb m : Nat) (W : World) : Nat := (match W.cell? ⟨p, 4, none⟩ with | some (.slice _ n _) => n | _ => 0) + 2 * (List.range m).countP (fun e => match W.cell? ⟨lb, e, none⟩ with | some (.int _ z) => decide (2 ≤ z) | _ => false)
def IsSrcI (z : Int) : Value → World → Prop := fun v W => Sl 1 W v 1 ([z].map (Value.int .i64))
theorem stays_srci (z : Int) : Stays (IsSrcI z) := fun _ _ _ hb h => Sl.below h hb
/-- The row that is appended to, and the map. -/
def RowBl (s : SpS) (v0 : Value) : Nat → Prop := fun z => z = s.mb ∨ v0.ownBlock = some z

end

end Go.Proofs.Ytkckbeekehecnaa
