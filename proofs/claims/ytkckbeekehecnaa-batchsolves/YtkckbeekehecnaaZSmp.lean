/-
  Texts that lie together: SmpM LInts SmpA SmpB SmpC SmpS LIntsB LDrw.
-/
import Derived.Test.YtkckbeekehecnaaZRng
import Derived.Test.YtkckbeekehecnaaRows
import Derived.Test.YtkckbeekehecnaaZBase
import Derived.Test.YtkckbeekehecnaaShelf
import Derived.Sort.OwnSortedInts
import Derived.Maps.Own
import Derived.Maps.OwnOps
import Derived.Maps.Views
import Derived.BigQuiet
import Derived.Test.YtkckbeekehecnaaZPar
namespace Go.Proofs.Ytkckbeekehecnaa

section
/-
  sample: what is drawn, in plain words; sorted, and put in one by one. No program.
-/
open Go.RowKit
set_option linter.unusedVariables false

theorem belowD_at (s : Nat) (n : Int) : 0 ≤ (belowD s n).2 ∧ (1 ≤ n → (belowD s n).2 < n) ∧ (n < 1 → (belowD s n).2 = 0) := by
  by_cases h1 : n < 1
  · rw [belowD_none h1]
    exact ⟨Int.le_refl _, fun h => by omega, fun _ => rfl⟩
  · rw [belowD_some h1]
    generalize (fairD (fewOf n.toNat) 15 s).2 = X
    have := Nat.mod_lt X (show n.toNat > 0 by omega)
    exact ⟨by omega, fun _ => by omega, fun h => absurd h h1⟩
theorem belowD_lt {s : Nat} {n : Int} (h : 1 ≤ n) : 0 ≤ (belowD s n).2 ∧ (belowD s n).2 < n := ⟨(belowD_at s n).1, (belowD_at s n).2.1 h⟩

/-- A number is drawn below j + 1; if it was taken, j is taken. -/
def pickD (j : Int) (p : Nat × List Int) : Nat × List Int :=
  ((belowD p.1 (j + 1)).1, p.2 ++ [if (belowD p.1 (j + 1)).2 ∈ p.2 then j else (belowD p.1 (j + 1)).2])

/-- i numbers are drawn, from a on. -/
def picks (s : Nat) (a : Int) : Nat → Nat × List Int
  | 0 => (s, [])
  | i + 1 => pickD (a + i) (picks s a i)

theorem picks_length (s : Nat) (a : Int) (i : Nat) : (picks s a i).2.length = i := by
  induction i with
  | zero => rfl
  | succ i ih => simp [picks, pickD, ih]

theorem mem_picks {s : Nat} {a : Int} (ha : 0 ≤ a) {i : Nat} {x : Int} (h : x ∈ (picks s a i).2) : 0 ≤ x ∧ x < a + i := by
  induction i with
  | zero => simp [picks] at h
  | succ i ih =>
    simp only [picks, pickD, List.mem_append, List.mem_singleton] at h
    rcases h with h | h
    · have := ih h
      omega
    · split at h
      · omega
      · have := belowD_lt (s := (picks s a i).1) (n := a + i + 1) (by omega)
        omega

theorem nodup_picks {s : Nat} {a : Int} (ha : 0 ≤ a) (i : Nat) : (picks s a i).2.Nodup := by
  induction i with
  | zero => simp [picks]
  | succ i ih =>
    simp only [picks, pickD]
    rw [List.nodup_append]
    refine ⟨ih, by simp, ?_⟩
    intro x hx y hy e
    simp only [List.mem_singleton] at hy
    subst hy
    subst e
    split at hx
    · have := (mem_picks ha hx).2
      omega
    · rename_i hn
      exact hn hx

/-- A number among some that rise. -/
def insI (n : Int) : List Int → List Int
  | [] => [n]
  | x :: l => if n < x then n :: x :: l else x :: insI n l

def leI (x y : Int) : Bool := decide (x ≤ y)
def sortI (l : List Int) : List Int := l.mergeSort leI

theorem sortI_perm (l : List Int) : (sortI l).Perm l := List.mergeSort_perm l leI
theorem sortI_length (l : List Int) : (sortI l).length = l.length := (sortI_perm l).length_eq
theorem mem_sortI {l : List Int} {x : Int} : x ∈ sortI l ↔ x ∈ l := (sortI_perm l).mem_iff
theorem sortI_sorted (l : List Int) : (sortI l).Pairwise (· ≤ ·) := by
  have := List.pairwise_mergeSort (le := leI) (fun a b c h1 h2 => by simp [leI] at *; omega) (fun a b => by simp [leI]; omega) l
  exact this.imp (by simp [leI])

theorem sorted_unique {l m : List Int} (hp : l.Perm m) (hl : l.Pairwise (· ≤ ·)) (hm : m.Pairwise (· ≤ ·)) : l = m :=
  hp.eq_of_pairwise (fun a b _ _ h1 h2 => by omega) hl hm

theorem insI_perm (n : Int) (l : List Int) : (insI n l).Perm (n :: l) := by
  induction l with
  | nil => exact List.Perm.refl _
  | cons x l ih =>
    unfold insI
    split
    · exact List.Perm.refl _
    · exact (ih.cons x).trans (List.Perm.swap n x l)

theorem insI_sorted (n : Int) {l : List Int} (h : l.Pairwise (· ≤ ·)) : (insI n l).Pairwise (· ≤ ·) := by
  induction l with
  | nil => simp [insI]
  | cons x l ih =>
    rw [List.pairwise_cons] at h
    unfold insI
    split
    · rename_i hx
      rw [List.pairwise_cons, List.pairwise_cons]
      refine ⟨?_, h⟩
      intro y hy
      rcases List.mem_cons.1 hy with rfl | hy
      · omega
      · have := h.1 y hy
        omega
    · rename_i hx
      rw [List.pairwise_cons]
      refine ⟨?_, ih h.2⟩
      intro y hy
      have := (insI_perm n l).mem_iff.1 hy
      rcases List.mem_cons.1 this with rfl | hy
      · omega
      · exact h.1 y hy

theorem insI_sortI (x : Int) (l : List Int) : insI x (sortI l) = sortI (l ++ [x]) := by
  refine sorted_unique ?_ (insI_sorted x (sortI_sorted l)) (sortI_sorted _)
  have h1 := (insI_perm x (sortI l)).trans ((sortI_perm l).cons x)
  have h2 : (x :: l).Perm (l ++ [x]) := by simpa using (List.perm_append_comm (l₁ := [x]) (l₂ := l))
  exact (h1.trans h2).trans (sortI_perm _).symm

theorem insI_length (n : Int) (l : List Int) : (insI n l).length = l.length + 1 := (insI_perm n l).length_eq

/-- How many are drawn. -/
def howMany (b m : Int) : Nat := if m < 1 ∨ b < 1 then 0 else (min m b).toNat

theorem howMany_le (b m : Int) : (howMany b m : Int) ≤ max b 0 := by unfold howMany; split <;> omega
theorem howMany_none {b m : Int} (h : m < 1 ∨ b < 1) : howMany b m = 0 := if_pos h
theorem howMany_some {b m : Int} (h : ¬ (m < 1 ∨ b < 1)) : howMany b m = (min m b).toNat := if_neg h

/-- All that is drawn: the state behind it, and the numbers, rising. -/
def someD (s : Nat) (b m : Int) : Nat × List Int := ((picks s (b - howMany b m) (howMany b m)).1, sortI (picks s (b - howMany b m) (howMany b m)).2)

theorem someD_length (s : Nat) (b m : Int) : (someD s b m).2.length = howMany b m := by
  unfold someD
  rw [sortI_length, picks_length]

theorem someD_mem {s : Nat} {b m x : Int} (h : x ∈ (someD s b m).2) : 0 ≤ x ∧ x < b := by
  unfold someD at h
  have h0 := howMany_le b m
  by_cases hb : b < 1
  · rw [howMany_none (.inr hb)] at h
    simp [picks, sortI] at h
  · have := mem_picks (by omega) (mem_sortI.1 h)
    omega

theorem someD_sorted (s : Nat) (b m : Int) : (someD s b m).2.Pairwise (· ≤ ·) := sortI_sorted _
theorem someD_nodup (s : Nat) (b m : Int) : (someD s b m).2.Nodup := by
  have h0 := howMany_le b m
  by_cases hb : b < 1
  · unfold someD
    rw [howMany_none (.inr hb)]
    simp [picks, sortI]
  · unfold someD
    exact (sortI_perm _).nodup_iff.2 (nodup_picks (by omega) _)

theorem someD_rises (s : Nat) (b m : Int) : (someD s b m).2.Pairwise (· < ·) := by
  have h1 := someD_sorted s b m
  have h2 := someD_nodup s b m
  exact (List.pairwise_and_iff.2 ⟨h1, h2⟩).imp (fun ⟨a, b⟩ => by omega)

theorem someD_none {s : Nat} {b m : Int} (h : m < 1 ∨ b < 1) : someD s b m = (s, []) := by
  unfold someD
  rw [howMany_none h]
  simp [picks, sortI]

end

section
/-
  Slices of whole numbers: what they read as; 'append' onto one's own.
-/
open Go.RowKit
set_option linter.unusedVariables false

theorem Try.infoZ : (Try.prog.info? 3).map (fun i => (i.zero, i.size, i.bytes)) = some (some (.int .i64 0), 1, 8) := by kernel_rfl

theorem infoZ_parts : ∃ i, Try.prog.info? 3 = some i ∧ i.zero = some (.int .i64 0) ∧ i.size = 1 ∧ i.bytes = 8 := by
  have h := Try.infoZ
  cases hi : Try.prog.info? 3 with
  | none => rw [hi] at h; cases h
  | some i =>
    rw [hi] at h
    simp only [Option.map_some, Option.some.injEq, Prod.mk.injEq] at h
    exact ⟨i, rfl, h.1, h.2.1, h.2.2⟩

/-- Numbers in a slice. -/
def Zs (w : World) (v : Value) (l : List Int) : Prop := Sl 1 w v l.length (l.map (Value.int .i64))

theorem Zs.below {w w' : World} {v : Value} {l : List Int} (h : Zs w v l) (hb : Below w.heap.size w w') : Zs w' v l := Sl.below h hb

/-- Numbers in a slice of one's own. -/
def OwnZ (B : Nat) (w : World) (v : Value) (n : Nat) (l : List Int) : Prop := w.ownsRow B 3 1 v n (l.map (Value.int .i64))

theorem OwnZ.len {B : Nat} {w : World} {v : Value} {n : Nat} {l : List Int} (h : OwnZ B w v n l) : l.length = n := by
  have := h.1
  simpa using this
theorem OwnZ.zs {B : Nat} {w : World} {v : Value} {n : Nat} {l : List Int} (h : OwnZ B w v n l) : Zs w v l := by
  unfold Zs
  rw [h.len]
  exact owned_sl h
theorem OwnZ.lt {B : Nat} {w : World} {v : Value} {n : Nat} {l : List Int} (h : OwnZ B w v n l) : ∀ q, v.ownBlock = some q → B ≤ q ∧ q < w.heap.size := fun q hq => World.ownsRow.lt h q hq
theorem OwnZ.kept {B : Nat} {w w' : World} {v : Value} {n : Nat} {l : List Int} (h : OwnZ B w v n l) (hk : ∀ q, v.ownBlock = some q → w'.heap[q]? = w.heap[q]?) : OwnZ B w' v n l := owns_kept h hk
theorem OwnZ.below {B : Nat} {w w' : World} {v : Value} {n : Nat} {l : List Int} (h : OwnZ B w v n l) (hb : Below w.heap.size w w') : OwnZ B w' v n l := h.kept (fun q hq => hb.block q (h.lt q hq).2)
theorem OwnZ.alloc {B : Nat} {w : World} {v : Value} {n : Nat} {l : List Int} (h : OwnZ B w v n l) (o : Obj) : OwnZ B (w.alloc o) v n l := h.below (below_alloc _ _)
theorem OwnZ.mono {B B' : Nat} {w : World} {v : Value} {n : Nat} {l : List Int} (h : OwnZ B w v n l) (hB : B' ≤ B) : OwnZ B' w v n l := by
  refine ⟨h.1, ?_⟩
  rcases h.2 with h' | ⟨g, cap, cur, hv, hg, hh, hx⟩
  · exact .inl h'
  · exact .inr ⟨g, cap, cur, hv, Nat.le_trans hB hg, hh, hx⟩
theorem OwnZ.nil (B : Nat) (w : World) : OwnZ B w (.slice none 0 0) 0 [] := ⟨rfl, .inl ⟨rfl, rfl⟩⟩
theorem OwnZ.new (w : World) : OwnZ w.heap.size (w.alloc (.cells #[] 3)) (.slice (some ⟨w.heap.size, 0, none⟩) 0 0) 0 [] := World.ownsRow_lit w #[] 0 (Nat.le_refl _) (by simp [maxLen]) rfl
theorem OwnZ.newB {B : Nat} (w : World) (h : B ≤ w.heap.size) : OwnZ B (w.alloc (.cells #[] 3)) (.slice (some ⟨w.heap.size, 0, none⟩) 0 0) 0 [] := World.ownsRow_lit w #[] 0 h (by simp [maxLen]) rfl

theorem zs_one (w : World) (z : Int) (e : TypeId) : Sl 1 (w.alloc (.cells #[.int .i64 z] e)) (.slice (some ⟨w.heap.size, 0, none⟩) 1 1) 1 ([z].map (Value.int .i64)) := alloc_one _ _

theorem z_oneCell (l : List Int) : ∀ u ∈ l.map (Value.int .i64), u.oneCell' = true := by
  intro u hu
  obtain ⟨_, _, rfl⟩ := List.mem_map.1 hu
  rfl

theorem map_z_at (l : List Int) (j : Nat) (h : j < l.length) : (l.map (Value.int .i64))[j]? = some (.int .i64 l[j]) := by
  simp [h]

/-- At the list of a plain region's operations: numbers behind numbers of one's own. -/
theorem wpList_addZ (w : World) {ops : Array Oper} {rest : List Oper} {o : Oper} {a : Act} {Q : Exit → Act → World → Prop} (hgd : o.guard = none) (s x : Operand)
    (ho : o.op = .call { callee := .builtin .append, args := #[s, x], argTypes := #[31, 31] })
    (B : Nat) (v : Value) (n : Nat) (l : List Int) (hs : a.eval s = v) (hown : OwnZ B w v n l)
    (xv : Value) (m : Nat) (news : List Int) (hx : a.eval x = xv) (hsrc : Sl 1 w xv m (news.map (Value.int .i64)))
    (hlen : n + m ≤ 1000000000) (hbase : B ≤ w.heap.size)
    (h : ∀ ao cap w', OwnZ B w' (.slice ao (n + m) cap) (n + m) (l ++ news) → w.grownBy w' v.ownBlock → ((Value.slice ao (n + m) cap).ownBlock = v.ownBlock ∨ (Value.slice ao (n + m) cap).ownBlock = some w.heap.size) → n + m ≤ cap → cap ≤ maxLen → wpList Try.prog ops Q rest (a.put o.dst (.slice ao (n + m) cap)) w') : wpList Try.prog ops Q (o :: rest) a w := by
  obtain ⟨i, hi, hz, h1, h8⟩ := infoZ_parts
  refine wpList_app w hgd s x 31 ho B 3 i (.int .i64 0) 1 8 Try.underlying31 hi hz h1 h8 rfl (by decide) v n _ hs hown xv m _ hx hsrc (z_oneCell _) (by unfold maxLen; omega) (by omega) hbase ?_
  intro ao cap w' h2 h3 h4 h5 h6 h7
  refine h ao cap w' ?_ h3 h4 h6 h7
  unfold OwnZ
  rw [List.map_append]
  exact h2

theorem below_fresh {w w' : World} (hg : w.grownBy w' none) : Below w.heap.size w w' := (Below.refl _ _).grown hg (Nat.le_refl _) (by intro k hk; cases hk)

theorem below_added {B0 B : Nat} {w w1 w2 : World} {v : Value} {n : Nat} {l : List Int} (hb : Below B0 w w1) (ho : OwnZ B w1 v n l) (hB : B0 ≤ B) (hs : B0 ≤ w1.heap.size) (hg : w1.grownBy w2 v.ownBlock) : Below B0 w w2 :=
  hb.grown hg hs (fun k hk => Nat.le_trans hB (ho.lt k hk).1)

end

section
/-
  sample: the document's Has, Insert; Same.
-/
open Go.RowKit
set_option linter.unusedVariables false

theorem mem_drop_cons {l : List Int} {k : Nat} (h : k < l.length) (x : Int) : decide (x ∈ l.drop k) = (decide (x = l[k]) || decide (x ∈ l.drop (k + 1))) := by
  rw [Bool.eq_iff_iff]
  simp only [decide_eq_true_eq, Bool.or_eq_true]
  rw [List.drop_eq_getElem_cons h, List.mem_cons]

set_option maxHeartbeats 400000 in
/-- The document's Has. -/
theorem rhas_any (x : Int) (v : Value) (l : List Int) (w : World) (h : Zs w v l) :
    Calls Try.prog 16 #[v, .int .i64 x] w fun e w' => e = .returned (.bool (decide (x ∈ l))) ∧ w' = w := by
  obtain ⟨-, ao, cap, rfl, h2, h3, -, h5⟩ := h
  unfold maxLen at h3
  obtain ⟨m, hm⟩ : ∃ m, l.length = m := ⟨_, rfl⟩
  rw [hm] at h2 h5 ⊢
  have Hm : Hid (l.length = m) := hm
  have HC : Hid (m = 0 ∨ ∃ b off, ao = some ⟨b, off, none⟩ ∧ ∀ j u, (l.map (Value.int .i64))[j]? = some u → w.cell? ⟨b, off + j, none⟩ = some u) := h5
  clear hm h5
  go_enter Try.func16, Try.ntmps16
  go_wp2
  go_loop [5] (fun i => ∃ k : Nat, k ≤ m ∧ i = .int .i64 k ∧ Hid (decide (x ∈ l) = decide (x ∈ l.drop k))) (fun i => m - (intOf i).toNat)
  case atStart => exact ⟨0, by omega, rfl, rfl⟩
  case round =>
    obtain ⟨k, hk, rfl, HE⟩ := hrel
    by_cases hlt : k < m
    · have hkl : k < l.length := by rw [Hm.out]; exact hlt
      obtain ⟨b, off, rfl, hc⟩ : ∃ b off, ao = some ⟨b, off, none⟩ ∧ ∀ j u, (l.map (Value.int .i64))[j]? = some u → w.cell? ⟨b, off + j, none⟩ = some u := by
        rcases HC.out with h | h
        · omega
        · exact h
      have hck := hc k _ (map_z_at l k hkl)
      have HD : Hid (decide (x ∈ l.drop k) = (decide (x = l[k]) || decide (x ∈ l.drop (k + 1)))) := mem_drop_cons hkl x
      clear hc
      generalize l[k] = y at *
      by_cases hy : y = x
      · have hy' : (y == x) = true := by simpa using hy
        have HR : Hid (decide (x ∈ l) = true) := by unfold Hid; rw [HE.out, HD.out, hy]; simp
        clear HE HD
        go_wp2
        go_ret
        exact ⟨ret_bool HR.out.symm, rfl⟩
      · have hy' : (y == x) = false := by simpa using hy
        have HR : Hid (decide (x ∈ l) = decide (x ∈ l.drop (k + 1))) := by unfold Hid; rw [HE.out, HD.out, show decide (x = y) = false from by simpa using (fun e => hy e.symm), Bool.false_or]
        clear HE HD
        go_wp2
        go_round
        case rel => exact ⟨k + 1, by omega, by go_num, HR⟩
        case measure => simp [intOf]; omega
    · have HR : Hid (decide (x ∈ l) = false) := by unfold Hid; rw [HE.out, List.drop_eq_nil_of_le (by rw [Hm.out]; omega)]; simp
      clear HE
      go_wp2
      go_ret
      exact ⟨ret_bool HR.out.symm, rfl⟩

/-- What Insert has put so far. -/
def InsR (n : Int) (l : List Int) (k : Nat) (p : Bool) (o : List Int) : Prop :=
  (p = false ∧ o = l.take k ∧ ∀ x ∈ l.take k, ¬ n < x) ∨ (p = true ∧ o ++ l.drop k = insI n l ∧ o.length = k + 1)

theorem insI_split (n : Int) (a b : List Int) (h : ∀ x ∈ a, ¬ n < x) : insI n (a ++ b) = a ++ insI n b := by
  induction a with
  | nil => rfl
  | cons x a ih =>
    simp only [List.cons_append]
    rw [insI, if_neg (h x (by simp)), ih (fun y hy => h y (by simp [hy]))]

theorem InsR.start (n : Int) (l : List Int) : InsR n l 0 false [] := .inl ⟨rfl, rfl, by simp⟩
theorem InsR.put {n : Int} {l : List Int} {k : Nat} {o : List Int} (h : InsR n l k false o) (hk : k < l.length) (hx : n < l[k]) : InsR n l (k + 1) true (o ++ [n] ++ [l[k]]) := by
  rcases h with ⟨_, rfl, h2⟩ | ⟨h, _⟩
  · refine .inr ⟨rfl, ?_, by simp; omega⟩
    have e := insI_split n (l.take k) (l.drop k) h2
    rw [List.take_append_drop, List.drop_eq_getElem_cons hk, insI, if_pos hx] at e
    rw [e]
    simp
  · cases h
theorem InsR.pass {n : Int} {l : List Int} {k : Nat} {o : List Int} (h : InsR n l k false o) (hk : k < l.length) (hx : ¬ n < l[k]) : InsR n l (k + 1) false (o ++ [l[k]]) := by
  rcases h with ⟨_, rfl, h2⟩ | ⟨h, _⟩
  · refine .inl ⟨rfl, by rw [List.take_succ_eq_append_getElem hk], ?_⟩
    intro x hx'
    rw [List.take_succ_eq_append_getElem hk] at hx'
    rcases List.mem_append.1 hx' with h | h
    · exact h2 x h
    · obtain rfl := List.mem_singleton.1 h
      exact hx
  · cases h
theorem InsR.go {n : Int} {l : List Int} {k : Nat} {o : List Int} (h : InsR n l k true o) (hk : k < l.length) : InsR n l (k + 1) true (o ++ [l[k]]) := by
  rcases h with ⟨h, _⟩ | ⟨_, h2, h3⟩
  · cases h
  · refine .inr ⟨rfl, ?_, by simp [h3]⟩
    rw [List.drop_eq_getElem_cons hk] at h2
    rw [← h2]
    simp
theorem InsR.last {n : Int} {l : List Int} {k : Nat} {o : List Int} (h : InsR n l k false o) (hk : l.length ≤ k) : insI n l = o ++ [n] := by
  rcases h with ⟨_, rfl, h2⟩ | ⟨h, _⟩
  · have e := insI_split n (l.take k) (l.drop k) h2
    rw [List.take_append_drop, List.drop_eq_nil_of_le hk] at e
    exact e
  · cases h
theorem InsR.done {n : Int} {l : List Int} {k : Nat} {o : List Int} (h : InsR n l k true o) (hk : l.length ≤ k) : insI n l = o := by
  rcases h with ⟨h, _⟩ | ⟨_, h2, _⟩
  · cases h
  · rw [List.drop_eq_nil_of_le hk, List.append_nil] at h2
    exact h2.symm
theorem InsR.len0 {n : Int} {l : List Int} {k : Nat} {o : List Int} (h : InsR n l k false o) : o.length ≤ k := by
  rcases h with ⟨_, rfl, _⟩ | ⟨h, _⟩
  · simp; omega
  · cases h
theorem InsR.len {n : Int} {l : List Int} {k : Nat} {p : Bool} {o : List Int} (h : InsR n l k p o) (hk : k ≤ l.length) : o.length ≤ k + 1 := by
  rcases h with ⟨_, rfl, _⟩ | ⟨_, _, h⟩
  · simp; omega
  · omega

set_option maxRecDepth 100000 in
set_option maxHeartbeats 1000000 in
/-- The document's Insert. -/
theorem rins_any (x : Int) (v : Value) (l : List Int) (m : Nat) (w : World) (h : Zs w v l) (hlm : l.length = m) (hl : m ≤ 1000000) :
    Calls Try.prog 40 #[v, .int .i64 x] w fun e w' => ∃ a c, e = .returned (.slice a (m + 1) c) ∧ OwnZ w.heap.size w' (.slice a (m + 1) c) (m + 1) (insI x l) ∧ Below w.heap.size w w' := by
  obtain ⟨-, ao, cap, rfl, h2, h3, -, h5⟩ := h
  unfold maxLen at h3
  rw [hlm] at h2 h5 ⊢
  have Hm : Hid (l.length = m) := hlm
  have HC : Hid (m = 0 ∨ ∃ b off, ao = some ⟨b, off, none⟩ ∧ ∀ j u, (l.map (Value.int .i64))[j]? = some u → w.cell? ⟨b, off + j, none⟩ = some u) := h5
  clear hlm h5
  go_enter Try.func40, Try.ntmps40
  go_wp2
  go_loopw [5, 6, 7] (fun ov pv i wr => ∃ (k n c : Nat) (a : Option Addr) (p : Bool) (o : List Int), k ≤ m ∧ i = .int .i64 k ∧ pv = .bool p ∧ ov = .slice a n c ∧ n ≤ k + 1 ∧ Hid (InsR x l k p o) ∧ Hid (OwnZ w.heap.size wr (.slice a n c) n o) ∧ Hid (Below w.heap.size w wr)) (fun _ _ i _ => m - (intOf i).toNat)
  case atStart => exact ⟨0, 0, 0, _, false, [], by omega, rfl, rfl, rfl, by omega, InsR.start x l, OwnZ.new w, below_alloc _ _⟩
  case round =>
    obtain ⟨k, n, c, a, p, o, hk, rfl, rfl, rfl, hn, HI, HO, HB⟩ := hrel
    by_cases hlt : k < m
    · have hkl : k < l.length := by rw [Hm.out]; exact hlt
      obtain ⟨b, off, rfl, hc⟩ : ∃ b off, ao = some ⟨b, off, none⟩ ∧ ∀ j u, (l.map (Value.int .i64))[j]? = some u → w.cell? ⟨b, off + j, none⟩ = some u := by
        rcases HC.out with h | h
        · omega
        · exact h
      have hck0 := hc k _ (map_z_at l k hkl)
      have hck := (HB.out.cell (cell_block_lt hck0)).trans hck0
      cases p with
      | false =>
        by_cases hx : x < l[k]
        · have HI2 : Hid (InsR x l (k + 1) true (o ++ [x] ++ [l[k]])) := HI.out.put hkl hx
          have HCk : Hid (∀ W, Below w.heap.size w W → W.cell? ⟨b, off + k, none⟩ = some (.int .i64 l[k])) := fun W hW => (hW.cell (cell_block_lt hck0)).trans hck0
          have HL2 : Hid (n + 1 + 1 ≤ k + 1 + 1) := by have h1 := HI.out.len0; have h2 := HO.out.len; unfold Hid; omega
          clear hc HC HI hck0
          generalize l[k] = y at *
          go_wp2_with (first
            | (at_builtin; refine wpList_addZ _ rfl (.tmp 25) (.tmp 27) rfl w.heap.size (.slice a n c) n o rfl (HO.out.alloc _) _ 1 [x] rfl (zs_one _ _ _) (by omega) (by have := HB.out.size; simp; omega) ?_; intro a1 c1 w1 ho1 hg1 hat1 hnc1 hcm1; have O1 : Hid (OwnZ w.heap.size w1 (.slice a1 (n + 1) c1) (n + 1) (o ++ [x])) := ho1; have B1 : Hid (Below w.heap.size w w1) := below_added (HB.out.alloc HB.out.size _) (HO.out.alloc _) (Nat.le_refl _) (by have := HB.out.size; simp; omega) hg1; have hc1 := HCk.out w1 B1.out; clear ho1 hg1 hat1)
            | (at_builtin; refine wpList_addZ _ rfl (.tmp 29) (.tmp 34) rfl w.heap.size (.slice a1 (n + 1) c1) (n + 1) (o ++ [x]) rfl (O1.out.alloc _) _ 1 [y] rfl (zs_one _ _ _) (by omega) (by have := B1.out.size; simp; omega) ?_; intro a2 c2 w2 ho2 hg2 hat2 hnc2 hcm2))
          have O2 : Hid (OwnZ w.heap.size w2 (.slice a2 (n + 1 + 1) c2) (n + 1 + 1) (o ++ [x] ++ [y])) := ho2
          have B2 : Hid (Below w.heap.size w w2) := below_added (B1.out.alloc B1.out.size _) (O1.out.alloc _) (Nat.le_refl _) (by have := B1.out.size; simp; omega) hg2
          clear ho2 hg2 hat2
          go_roundw
          case rel => exact ⟨k + 1, n + 1 + 1, c2, a2, true, _, by omega, by go_num, rfl, rfl, HL2.out, HI2, O2, B2⟩
          case measure => simp [intOf]; omega
        · have HI2 : Hid (InsR x l (k + 1) false (o ++ [l[k]])) := HI.out.pass hkl hx
          have HL2 : Hid (n + 1 ≤ k + 1 + 1) := by have h1 := HI.out.len0; have h2 := HO.out.len; unfold Hid; omega
          clear hc HC HI hck0
          generalize l[k] = y at *
          go_wp2_with (at_builtin; refine wpList_addZ _ rfl (.tmp 29) (.tmp 34) rfl w.heap.size (.slice a n c) n o rfl (HO.out.alloc _) _ 1 [y] rfl (zs_one _ _ _) (by omega) (by have := HB.out.size; simp; omega) ?_; intro a2 c2 w2 ho2 hg2 hat2 hnc2 hcm2)
          have O2 : Hid (OwnZ w.heap.size w2 (.slice a2 (n + 1) c2) (n + 1) (o ++ [y])) := ho2
          have B2 : Hid (Below w.heap.size w w2) := below_added (HB.out.alloc HB.out.size _) (HO.out.alloc _) (Nat.le_refl _) (by have := HB.out.size; simp; omega) hg2
          clear ho2 hg2 hat2
          go_roundw
          case rel => exact ⟨k + 1, n + 1, c2, a2, false, _, by omega, by go_num, rfl, rfl, by omega, HI2, O2, B2⟩
          case measure => simp [intOf]; omega
      | true =>
        have HI2 : Hid (InsR x l (k + 1) true (o ++ [l[k]])) := HI.out.go hkl
        clear hc HC HI hck0
        generalize l[k] = y at *
        go_wp2_with (at_builtin; refine wpList_addZ _ rfl (.tmp 29) (.tmp 34) rfl w.heap.size (.slice a n c) n o rfl (HO.out.alloc _) _ 1 [y] rfl (zs_one _ _ _) (by omega) (by have := HB.out.size; simp; omega) ?_; intro a2 c2 w2 ho2 hg2 hat2 hnc2 hcm2)
        have O2 : Hid (OwnZ w.heap.size w2 (.slice a2 (n + 1) c2) (n + 1) (o ++ [y])) := ho2
        have B2 : Hid (Below w.heap.size w w2) := below_added (HB.out.alloc HB.out.size _) (HO.out.alloc _) (Nat.le_refl _) (by have := HB.out.size; simp; omega) hg2
        clear ho2 hg2 hat2
        go_roundw
        case rel => exact ⟨k + 1, n + 1, c2, a2, true, _, by omega, by go_num, rfl, rfl, by omega, HI2, O2, B2⟩
        case measure => simp [intOf]; omega
    · cases p with
      | false =>
        have HE : Hid (insI x l = o ++ [x]) := HI.out.last (by rw [Hm.out]; omega)
        have HN : Hid (n = m) := by
          have e1 := HO.out.len
          have e2 := insI_length x l
          rw [HE.out, Hm.out] at e2
          simp at e2
          unfold Hid
          omega
        obtain rfl := HN.out
        clear HI HC HN
        go_wp2_with (at_builtin; refine wpList_addZ _ rfl (.tmp 38) (.tmp 40) rfl w.heap.size (.slice a n c) n o rfl (HO.out.alloc _) _ 1 [x] rfl (zs_one _ _ _) (by omega) (by have := HB.out.size; simp; omega) ?_; intro a2 c2 w2 ho2 hg2 hat2 hnc2 hcm2)
        have B2 : Hid (Below w.heap.size w w2) := below_added (HB.out.alloc HB.out.size _) (HO.out.alloc _) (Nat.le_refl _) (by have := HB.out.size; simp; omega) hg2
        go_ret
        exact ⟨a2, c2, rfl, by rw [HE.out]; exact ho2, B2.out⟩
      | true =>
        have HE : Hid (insI x l = o) := HI.out.done (by rw [Hm.out]; omega)
        have HN : Hid (n = m + 1) := by
          have e1 := HO.out.len
          have e2 := insI_length x l
          rw [HE.out, Hm.out] at e2
          unfold Hid
          omega
        obtain rfl := HN.out
        clear HI HC HN
        go_wp2
        go_ret
        exact ⟨a, c, rfl, by rw [HE.out]; exact HO.out, HB.out⟩

end

section
/-
  sample: Some and Has, as the program has them.
-/
open Go.RowKit Go.Maps
set_option linter.unusedVariables false

theorem min2Z (a b : Int) (W : World) : (Builtin.min_ #[3, 3] 3 #[.int .i64 a, .int .i64 b]).run Try.prog W = .ok (.int .i64 (min a b)) W := by
  simp only [Builtin.min_, List.foldlM, Builtin.min2, Sem.run_pure, pure_bind]
  congr 2
  split <;> omega

theorem run_mapHint (n : Int) (w : World) : (Instr.makeMap 49 (some (.int .i64 n))).run Try.prog w = .ok (.map (some w.heap.size)) (w.alloc (.map #[] 0)) := by
  simp [Instr.makeMap, run_underlying Try.underlying49, asInt, asIntOf, Result.andThen]

/-- SORT: numbers of one's own. -/
theorem sort_own (B : Nat) (a : Option Addr) (n c : Nat) (l : List Int) (w : World) (h : OwnZ B w (.slice a n c) n l) (hn : n ≤ 1000000000) :
    Calls Try.prog 60 #[.slice a n c] w fun e w' => e = .returned (.tuple #[]) ∧ OwnZ B w' (.slice a n c) n (sortI l) ∧ w.grownBy w' (Value.slice a n c).ownBlock := by
  have hl := h.len
  rcases h.2 with ⟨hv, h0⟩ | ⟨g, cap, cur, hv, hg, hh, hnc, hcm, hcs, htake⟩
  · injection hv with e1 e2 e3
    subst e1; subst e2; subst e3
    refine (Any.slices_Sort_int_none Try.lays189 none 0 w).mono ?_
    rintro e w' ⟨rfl, rfl⟩
    obtain rfl : l = [] := List.eq_nil_of_length_eq_zero hl
    exact ⟨rfl, by rw [show sortI [] = [] from by simp [sortI]]; exact h, World.grownBy.refl _ _⟩
  · injection hv with e1 e2 e3
    subst e1; subst e3
    have hH : Sort.Holds (Value.int .i64) w g 0 l.toArray := holds_of_blockI hh (by
      have := htake
      simp only [Nat.mul_one] at this
      rw [hl]
      exact this)
    have hlt : g < w.heap.size := (Array.getElem?_eq_some_iff.1 hh).1
    subst hl
    refine (Any.slices_Sort_int Try.lays189 g 0 c l w hH hlt (by omega)).mono ?_
    rintro e w' ⟨rfl, k, os, rfl⟩
    exact ⟨rfl, ownsRow_sortedI (sortI_length l) hg hh hnc hcm hcs, grownBy_sortedI _⟩

theorem zs_cells {w : World} {a : Option Addr} {n c : Nat} {l : List Int} (h : Zs w (.slice a n c) l) : n = l.length ∧ (l.length = 0 ∨ ∃ b off, a = some ⟨b, off, none⟩ ∧ ∀ j, j < l.length → w.cell? ⟨b, off + j, none⟩ = some (.int .i64 (l.getD j 0))) := by
  obtain ⟨_, ao, cap, hv, h2, h3, _, h5⟩ := h
  injection hv with e1 e2 e3
  subst e1
  refine ⟨e2, ?_⟩
  rcases h5 with h0 | ⟨b, off, rfl, hc⟩
  · exact .inl h0
  · refine .inr ⟨b, off, rfl, fun j hj => ?_⟩
    rw [hc j _ (map_z_at l j hj)]
    simp [List.getD, hj]

/-- How a bool of a map reads. -/
def boolR : Value → Option (DataW Unit × List MemPlace)
  | .bool x => some (.lit (.bool x), [])
  | _ => none

theorem boolR_inv {v : Value} {x : Bool} {ps : List MemPlace} (h : boolR v = some (.lit (.bool x), ps)) : v = .bool x := by
  cases v <;> simp [boolR] at h
  rw [h.1]

theorem Try.lawZ : Keyed Try.prog 3 := int_keyed Try.underlying3
theorem Try.zeroB (w : World) : (zeroValue 4).run Try.prog w = .ok (.bool false) w := by kernel_rfl

/-- The map: which numbers were taken. -/
def TakI (w : World) (mb k : Nat) (l : List Int) : Prop :=
  ∃ D, w.ownsMap Try.prog 3 boolR mb k D ∧ IsMap D ∧ ∀ x : Int, D.atKey (.int .i64 x) (.lit (.bool false)) = .lit (.bool (decide (x ∈ l)))

theorem TakI.start (w : World) : TakI (w.alloc (.map #[] 0)) w.heap.size 0 [] := ⟨_, World.ownsMap_made _ _ _ _, isMap_empty, fun x => by simp; rfl⟩
theorem TakI.kept {w w' : World} {mb k : Nat} {l : List Int} (h : TakI w mb k l) (hk : w'.heap[mb]? = w.heap[mb]?) : TakI w' mb k l := by
  obtain ⟨D, ⟨es, clock, h1, h2⟩, h3, h4⟩ := h
  exact ⟨D, ⟨es, clock, hk.trans h1, h2⟩, h3, h4⟩
theorem TakI.lt {w : World} {mb k : Nat} {l : List Int} (h : TakI w mb k l) : mb < w.heap.size := by
  obtain ⟨D, h1, _⟩ := h
  exact h1.lt
theorem TakI.look {w : World} {mb k : Nat} {l : List Int} (h : TakI w mb k l) (x : Int) (hx : (Lit.int .i64 x).wf = true) : (Instr.lookup 49 (.map (some mb)) (.int .i64 x) false).run Try.prog w = .ok (.bool (decide (x ∈ l))) w := by
  obtain ⟨D, h1, h2, h3⟩ := h
  obtain ⟨v, ps, hrun, hv⟩ := h1.lookup Try.lawZ Try.underlying49 (Try.zeroB _) (show boolR (.bool false) = some (.lit (.bool false), []) from rfl) (keyOf_int_mk Try.underlying3 hx)
  rw [h3 x] at hv
  rw [hrun, boolR_inv hv]
theorem TakI.put {w : World} {mb k : Nat} {l : List Int} (h : TakI w mb k l) (x : Int) (hx : (Lit.int .i64 x).wf = true) (hk : k ≤ 1000000000) : ∃ w', (Instr.mapUpdate 49 (.map (some mb)) (.int .i64 x) (.bool true)).run Try.prog w = .ok () w' ∧ TakI w' mb (k + 1) (l ++ [x]) ∧ w.grownBy w' (some mb) := by
  obtain ⟨D, h1, h2, h3⟩ := h
  obtain ⟨w', hrun, ho, hg⟩ := h1.update Try.lawZ Try.underlying49 (by unfold maxLen; omega) (keyOf_int_mk Try.underlying3 hx) (show boolR (.bool true) = some (.lit (.bool true), []) from rfl)
  refine ⟨w', hrun, ⟨_, ho, h2.put _ _, fun y => ?_⟩, hg⟩
  by_cases hy : y = x
  · subst hy
    rw [atKey_put_same h2 (by simp [WideAt.IsKeyLit])]
    simp
  · rw [atKey_put_other (fun q => hy (by injection q)), h3 y]
    simp [hy]
theorem TakI.not_cells {w : World} {mb k : Nat} {l : List Int} (h : TakI w mb k l) {cs : Array Value} {t : TypeId} {fr : Nat × Nat} : w.heap[mb]? ≠ some (.cells cs t fr) := by
  obtain ⟨D, ⟨es, clock, h1, _⟩, _⟩ := h
  rw [h1]
  intro e
  cases e
theorem TakI.ne_cell {w : World} {mb k : Nat} {l : List Int} (h : TakI w mb k l) {p : Addr} {u : Value} (hc : w.cell? p = some u) : p.block ≠ mb := by
  intro e
  obtain ⟨D, ⟨es, clock, h1, _⟩, _⟩ := h
  rw [← e] at h1
  simp [World.cell?, h1] at hc

/-- What Some keeps while it draws. -/
structure SmI (w : World) (r mb st : Nat) (l : List Int) (v : Value) (i : Nat) (lt : List Int) (it : Nat) (W : World) : Prop where
  o : OwnZ w.heap.size W v i l
  t : TakI W mb it lt
  hr : IsRand W r st
  k : KeepsBut (fun x => x = r) w W
  r0 : r < w.heap.size
  m0 : w.heap.size ≤ mb

theorem SmI.ne {w : World} {r mb st : Nat} {l : List Int} {v : Value} {i : Nat} {lt : List Int} {it : Nat} {W : World} (h : SmI w r mb st l v i lt it W) {q : Nat} (hq : v.ownBlock = some q) : q ≠ mb := by
  rintro rfl
  rcases h.o.2 with ⟨hv, _⟩ | ⟨g, cap, cur, hv, _, hh, _⟩
  · rw [hv] at hq
    cases hq
  · rw [hv] at hq
    injection hq with hq
    subst hq
    exact h.t.not_cells hh

theorem SmI.drawn {w : World} {r mb st st' : Nat} {l : List Int} {v : Value} {i : Nat} {lt : List Int} {it : Nat} {W W' : World} (h : SmI w r mb st l v i lt it W) (hr : IsRand W' r st') (hk : KeepsBut (fun x => x = r) W W') : SmI w r mb st' l v i lt it W' := by
  have := h.r0
  have := h.m0
  exact ⟨h.o.kept (fun q hq => hk.block q (h.o.lt q hq).2 (by have := (h.o.lt q hq).1; omega)), h.t.kept (hk.block mb h.t.lt (by omega)), hr, h.k.trans hk, h.r0, h.m0⟩

theorem SmI.took {w : World} {r mb st : Nat} {l : List Int} {v : Value} {i : Nat} {lt lt' : List Int} {it it' : Nat} {W W' : World} (h : SmI w r mb st l v i lt it W) (ht : TakI W' mb it' lt') (hg : W.grownBy W' (some mb)) : SmI w r mb st l v i lt' it' W' := by
  have := h.r0
  have := h.m0
  have hk : KeepsBut (fun x => x = mb) W W' := KeepsBut.ofGrown hg rfl
  exact ⟨h.o.kept (fun q hq => hk.block q (h.o.lt q hq).2 (h.ne hq)), ht, h.hr.keeps hk (by omega), ⟨hk.os.trans h.k.os, hk.tape.trans h.k.tape, hk.output.trans h.k.output, Nat.le_trans h.k.size hk.size, fun j hj hs => (hk.block j (Nat.lt_of_lt_of_le hj h.k.size) (by omega)).trans (h.k.block j hj hs)⟩, h.r0, h.m0⟩

theorem SmI.added {w : World} {r mb st : Nat} {l l' : List Int} {v v' : Value} {i i' : Nat} {lt : List Int} {it : Nat} {W W' : World} {ob : Obj} (h : SmI w r mb st l v i lt it W) (ho : OwnZ w.heap.size W' v' i' l') (hg : (W.alloc ob).grownBy W' v.ownBlock) : SmI w r mb st l' v' i' lt it W' := by
  have h1 := h.r0
  have h2 := h.m0
  have key : ∀ j, j < W.heap.size → some j ≠ v.ownBlock → W'.heap[j]? = W.heap[j]? := fun j hj hne => (hg.block j (by simp; omega) hne).trans (Below.heap_alloc _ _ _ hj)
  have hsz : W.heap.size ≤ W'.heap.size := by have := hg.size; simp at this; omega
  refine ⟨ho, h.t.kept (key mb h.t.lt (fun e => h.ne e.symm rfl)), h.hr.kept (key r (cell_block_lt h.hr.cell) (fun e => by have := (h.o.lt r e.symm).1; omega)), ⟨hg.os.trans h.k.os, hg.tape.trans h.k.tape, hg.output.trans h.k.output, Nat.le_trans h.k.size hsz, fun j hj hs => (key j (Nat.lt_of_lt_of_le hj h.k.size) (fun e => by have := (h.o.lt j e.symm).1; omega)).trans (h.k.block j hj hs)⟩, h.r0, h.m0⟩

theorem picks_next {s : Nat} {A : Int} {i st : Nat} {l : List Int} (h : picks s A i = (st, l)) {j : Int} (hj : A + i = j) {t : Nat} {x : Int} (hx : belowD st (j + 1) = (t, x)) {y : Int} (hy : (if x ∈ l then j else x) = y) : picks s A (i + 1) = (t, l ++ [y]) := by
  subst hj
  subst hy
  unfold picks pickD
  rw [h]
  dsimp only
  rw [hx]

theorem wf_i64 {x : Int} (h0 : -9223372036854775808 ≤ x) (h1 : x < 9223372036854775808) : (Lit.int .i64 x).wf = true := by
  simp [Lit.wf, IntKind.min, IntKind.max, IntKind.bits, IntKind.signed]
  omega

end

section
/-
  sample: the document's Some; Same; what the statements' speaks says.
-/
open Go.RowKit
set_option linter.unusedVariables false

theorem decide_sortI (x : Int) (l : List Int) : decide (x ∈ sortI l) = decide (x ∈ l) := by
  rw [Bool.eq_iff_iff]
  simp [mem_sortI]

/-- 1, if two lists are the same. -/
def sameI (l m : List Int) : Int := if l = m then 1 else 0
theorem sameI_self (l : List Int) : sameI l l = 1 := if_pos rfl
theorem sameI_no {l m : List Int} (h : l ≠ m) : sameI l m = 0 := if_neg h
theorem sameI_yes {l m : List Int} (h : l = m) : sameI l m = 1 := if_pos h

theorem below_drewN {B : Nat} {w w1 : World} (h : Below B w w1) (n : Nat) : Below B w (w1.drewN n) := ⟨h.os, h.tape, h.output, by simpa using h.size, fun k hk => by simpa using h.block k hk⟩

theorem eq_at {l m : List Int} {k : Nat} (hl : l.length = m.length) (hk : k < l.length) (hne : l[k] ≠ m[k]'(by omega)) : l ≠ m := by
  rintro rfl
  exact hne rfl

set_option maxRecDepth 100000 in
set_option maxHeartbeats 1000000 in
/-- SAME: two lists. -/
theorem same9_any (v1 v2 : Value) (l1 l2 : List Int) (w : World) (h1 : Zs w v1 l1) (h2 : Zs w v2 l2) :
    Calls Try.prog 15 #[v1, v2] w fun e w' => e = .returned (.int .i64 (sameI l1 l2)) ∧ Below w.heap.size w w' := by
  obtain ⟨-, a1, c1, rfl, g1, g2, -, g3⟩ := h1
  obtain ⟨-, a2, c2, rfl, k1, k2, -, k3⟩ := h2
  unfold maxLen at g2 k2
  obtain ⟨n1, hn1⟩ : ∃ n, l1.length = n := ⟨_, rfl⟩
  obtain ⟨n2, hn2⟩ : ∃ n, l2.length = n := ⟨_, rfl⟩
  rw [hn1] at g1 g3 ⊢
  rw [hn2] at k1 k3 ⊢
  have N1 : Hid (l1.length = n1) := hn1
  have N2 : Hid (l2.length = n2) := hn2
  have C1 : Hid (n1 = 0 ∨ ∃ b off, a1 = some ⟨b, off, none⟩ ∧ ∀ j u, (l1.map (Value.int .i64))[j]? = some u → w.cell? ⟨b, off + j, none⟩ = some u) := g3
  have C2 : Hid (n2 = 0 ∨ ∃ b off, a2 = some ⟨b, off, none⟩ ∧ ∀ j u, (l2.map (Value.int .i64))[j]? = some u → w.cell? ⟨b, off + j, none⟩ = some u) := k3
  clear hn1 hn2 g3 k3
  by_cases hn : n1 = n2
  · subst hn
    go_enter Try.func15, Try.ntmps15
    go_wp2
    go_loopw [13] (fun iv wr => ∃ i : Nat, i ≤ n1 ∧ iv = .int .i64 i ∧ Hid (l1.take i = l2.take i) ∧ Hid (Below w.heap.size w wr)) (fun iv _ => n1 - (intOf iv).toNat)
    case atStart => exact ⟨0, by omega, rfl, rfl, Below.refl _ _⟩
    case round =>
      obtain ⟨i, hi, rfl, HT, HB⟩ := hrel
      by_cases hlt : i < n1
      · have i1 : i < l1.length := by rw [N1.out]; exact hlt
        have i2 : i < l2.length := by rw [N2.out]; exact hlt
        obtain ⟨b1, o1, rfl, hc1⟩ : ∃ b off, a1 = some ⟨b, off, none⟩ ∧ ∀ j u, (l1.map (Value.int .i64))[j]? = some u → w.cell? ⟨b, off + j, none⟩ = some u := by
          rcases C1.out with h | h
          · omega
          · exact h
        obtain ⟨b2, o2, rfl, hc2⟩ : ∃ b off, a2 = some ⟨b, off, none⟩ ∧ ∀ j u, (l2.map (Value.int .i64))[j]? = some u → w.cell? ⟨b, off + j, none⟩ = some u := by
          rcases C2.out with h | h
          · omega
          · exact h
        have x1 := hc1 i _ (map_z_at l1 i i1)
        have x2 := hc2 i _ (map_z_at l2 i i2)
        have y1 := (HB.out.cell (cell_block_lt x1)).trans x1
        have y2 := (HB.out.cell (cell_block_lt x2)).trans x2
        have HE : Hid (l1[i] = l2[i] → l1.take (i + 1) = l2.take (i + 1)) := by
          intro e
          rw [List.take_succ_eq_append_getElem i1, List.take_succ_eq_append_getElem i2, HT.out, e]
        have HD : Hid (l1[i] ≠ l2[i] → sameI l1 l2 = 0) := fun e => sameI_no (eq_at (by rw [N1.out, N2.out]) i1 e)
        clear hc1 hc2 x1 x2
        generalize l1[i] = z1 at *
        generalize l2[i] = z2 at *
        by_cases hz : z1 = z2
        · have hne : (z1 != z2) = false := by simpa using hz
          have HE2 : Hid (l1.take (i + 1) = l2.take (i + 1)) := HE.out hz
          clear HE HD
          go_wp2_with fail
          go_quiet (fail)
          go_wp2
          go_roundw
          case rel => exact ⟨i + 1, by omega, by go_num, HE2, below_drewN HB.out _⟩
          case measure => simp [intOf]; omega
        · have hne : (z1 != z2) = true := by simpa using hz
          have HD2 : Hid (sameI l1 l2 = 0) := HD.out hz
          clear HE HD
          go_wp2_with fail
          go_quiet (fail)
          go_wp2
          go_ret
          exact ⟨ret_int HD2.out.symm, below_drewN HB.out _⟩
      · have HE : Hid (sameI l1 l2 = 1) := by
          refine sameI_yes ?_
          have := HT.out
          rw [List.take_of_length_le (by rw [N1.out]; omega), List.take_of_length_le (by rw [N2.out]; omega)] at this
          exact this
        clear HT
        go_wp2
        go_ret
        exact ⟨ret_int HE.out.symm, HB.out⟩
  · have HE : Hid (sameI l1 l2 = 0) := sameI_no (fun e => hn (by rw [← N1.out, ← N2.out, e]))
    have hne : ((n1 : Int) != (n2 : Int)) = true := by simp; omega
    go_enter Try.func15, Try.ntmps15
    go_wp2
    go_ret
    exact ⟨ret_int HE.out.symm, Below.refl _ _⟩

end

section
/-
  sample: of all numbers all are drawn; what the statements' speaks says.
-/
open Go.RowKit
set_option linter.unusedVariables false

theorem risen (l : List Int) : ∀ a : Int, l.Pairwise (· < ·) → (∀ x ∈ l, a ≤ x ∧ x < a + l.length) → l = (List.range l.length).map (fun i : Nat => a + i) := by
  induction l with
  | nil => intro a _ _; rfl
  | cons x l ih =>
    intro a hp hx
    rw [List.pairwise_cons] at hp
    have h0 := hx x (by simp)
    have h1 := ih (a + 1) hp.2 (fun y hy => by
      have e1 := hp.1 y hy
      have e2 := hx y (by simp [hy])
      simp at e2
      omega)
    have hxa : x = a := by
      by_cases hl : l.length = 0
      · simp [hl] at h0
        omega
      · have h2 : a + 1 ∈ l := by
          rw [h1]
          rw [List.mem_map]
          exact ⟨0, by simp; omega, by simp⟩
        have := hp.1 _ h2
        omega
    subst hxa
    rw [List.length_cons, List.range_succ_eq_map, List.map_cons, List.map_map]
    have e : l = (List.range l.length).map ((fun i : Nat => x + (i : Int)) ∘ Nat.succ) := by
      conv => lhs; rw [h1]
      apply List.map_congr_left
      intro i _
      simp
      omega
    simp only [Int.ofNat_zero, Int.add_zero]
    rw [← e]

/-- Of all numbers all are drawn. -/
theorem someD_all (s n : Nat) : (someD s n n).2 = (List.range n).map (fun i : Nat => (i : Int)) := by
  have hl := someD_length s n n
  have hk : howMany n n = n := by unfold howMany; split <;> omega
  rw [hk] at hl
  have h := risen (someD s n n).2 0 (someD_rises s n n) (fun x hx => by have := someD_mem hx; rw [hl]; omega)
  rw [hl] at h
  rw [h]
  apply List.map_congr_left
  intro i _
  simp

theorem us_lit (w : World) (t : TypeId) (x : Nat) (hx : x < 18446744073709551616) (b : Nat) (hb : b = w.heap.size) : Us (w.alloc (.cells #[.int .u64 (x : Int)] t)) (.slice (some ⟨b, 0, none⟩) 1 1) [x] := ⟨Sl.lit w [uv x] t b 1 hb rfl (by simp), by simpa using hx⟩

theorem zs_lit3 (w : World) (a b c : Int) (t : TypeId) (q : Nat) (hq : q = w.heap.size) : Zs (w.alloc (.cells #[.int .i64 a, .int .i64 b, .int .i64 c] t)) (.slice (some ⟨q, 0, none⟩) 3 3) [a, b, c] := Sl.lit w [.int .i64 a, .int .i64 b, .int .i64 c] t q 3 hq rfl (by simp)
theorem zs_lit2 (w : World) (a b : Int) (t : TypeId) (q : Nat) (hq : q = w.heap.size) : Zs (w.alloc (.cells #[.int .i64 a, .int .i64 b] t)) (.slice (some ⟨q, 0, none⟩) 2 2) [a, b] := Sl.lit w [.int .i64 a, .int .i64 b] t q 2 hq rfl (by simp)
theorem zs_lit1 (w : World) (a : Int) (t : TypeId) (q : Nat) (hq : q = w.heap.size) : Zs (w.alloc (.cells #[.int .i64 a] t)) (.slice (some ⟨q, 0, none⟩) 1 1) [a] := Sl.lit w [.int .i64 a] t q 1 hq rfl (by simp)

theorem below_keeps {w w1 W : World} {r : Nat} (h : Below w.heap.size w w1) (hr : w.heap.size ≤ r) (hk : KeepsBut (fun x => x = r) w1 W) : Below w.heap.size w W := h.trans (hk.below h.size (fun k e => by omega))

/-- Numbers of one's own stay where an older block alone is changed. -/
theorem OwnZ.keeps {B r : Nat} {w w' : World} {v : Value} {n : Nat} {l : List Int} (h : OwnZ B w v n l) (hr : r < B) (hk : KeepsBut (fun x => x = r) w w') : OwnZ B w' v n l :=
  h.kept (fun q hq => hk.block q (h.lt q hq).2 (by have := (h.lt q hq).1; omega))

end

section
/-
  Slices of whole numbers in regions that draw their order: 'append', 'make'.
-/
open Go.RowKit
set_option linter.unusedVariables false

theorem step_addZ (w : World) {ops : Array Oper} {o : Oper} {a : Act} {K : Act → World → Prop} {Q : Exit → Act → World → Prop} {E : Prop} (hgd : o.guard = none) (s x : Operand)
    (ho : o.op = .call { callee := .builtin .append, args := #[s, x], argTypes := #[31, 31] })
    (B : Nat) (v : Value) (n : Nat) (l : List Int) (hs : a.eval s = v) (hown : OwnZ B w v n l)
    (xv : Value) (m : Nat) (news : List Int) (hx : a.eval x = xv) (hsrc : Sl 1 w xv m (news.map (Value.int .i64)))
    (hlen : n + m ≤ 1000000000) (hbase : B ≤ w.heap.size)
    (h : ∀ ao cap w', OwnZ B w' (.slice ao (n + m) cap) (n + m) (l ++ news) → w.grownBy w' v.ownBlock → ((Value.slice ao (n + m) cap).ownBlock = v.ownBlock ∨ (Value.slice ao (n + m) cap).ownBlock = some w.heap.size) → n + m ≤ cap → cap ≤ maxLen → K (a.put o.dst (.slice ao (n + m) cap)) w') :
    if Region.wanted o (yielded ops a.tmps) = true then Oper.wp Try.prog o a w K Q else E := by
  obtain ⟨i, hi, hz, h1, h8⟩ := infoZ_parts
  refine step_app w hgd s x 31 ho B 3 i (.int .i64 0) 1 8 Try.underlying31 hi hz h1 h8 rfl (by decide) v n _ hs hown xv m _ hx hsrc (z_oneCell _) (by unfold maxLen; omega) (by omega) hbase ?_
  intro ao cap w' h2 h3 h4 h5 h6 h7
  refine h ao cap w' ?_ h3 h4 h6 h7
  unfold OwnZ
  rw [List.map_append]
  exact h2

theorem step_make {P : Program} (w : World) {ops : Array Oper} {o : Oper} {a : Act} {K : Act → World → Prop} {Q : Exit → Act → World → Prop} {E : Prop}
    (hgd : o.guard = none) (l c : Operand) (t : TypeId) (hop : o.op = Op.makeSlice t l c)
    (base : Nat) (e : TypeId) (i : TypeInfo) (z : Value) (size : Nat) (h1 : P.underlying t = some (.slice e)) (h2 : P.info? e = some i) (h3 : i.zero = some z) (h4 : i.size = size)
    (kl kc : IntKind) (n : Nat) (hl : a.eval l = .int kl (n : Int)) (hc : a.eval c = .int kc (n : Int)) (b2 : i.bytes * n ≤ 281474976710656) (b3 : n ≤ maxLen) (b4 : base ≤ w.heap.size)
    (hK : ∀ w', w'.ownsRow base e size (.slice (some ⟨w.heap.size, 0, none⟩) n n) n (madeCells z.cells (n * size)).toList → w.grownBy w' none → K (a.put o.dst (.slice (some ⟨w.heap.size, 0, none⟩) n n)) w') :
    if Region.wanted o (yielded ops a.tmps) = true then Oper.wp P o a w K Q else E := by
  have hw : Region.wanted o (yielded ops a.tmps) = true := by simp [Region.wanted, hgd]
  rw [if_pos hw]
  obtain ⟨w', hrun, r1, r2⟩ := run_make_full (P := P) w base t e i z size h1 h2 h3 h4 kl kc n b2 b3 b4
  unfold Oper.wp
  simp [execOp, hop, hl, hc, hrun, Result.andThen]
  exact hK w' r1 r2

def IsZ1 (x : Int) : Value → World → Prop := fun v W => Sl 1 W v 1 ([x].map (Value.int .i64))
theorem stays_z1 (x : Int) : Stays (IsZ1 x) := fun _ _ _ hb h => Sl.below h hb

theorem Fe.not {listed : Array Bool} {xv : Nat → Value} {W : World} {i : Nat} {p : Value → World → Prop} (h : listed.getD i false = false) : Fe listed xv W i p := by
  intro a
  rw [h] at a
  cases a

end

section
/-
  Seeds, a generator, lists of one's own as values of a drawn region; Params as numbers from 0 on.
-/
open Go.RowKit
set_option linter.unusedVariables false

def IsUs (l : List Nat) : Value → World → Prop := fun v W => Us W v l
theorem stays_us (l : List Nat) : Stays (IsUs l) := fun _ _ _ hb h => Us.below h hb
def IsRd (B s : Nat) : Value → World → Prop := fun v W => ∃ r, v = .pointer (some ⟨r, 0, none⟩) ∧ B ≤ r ∧ IsRand W r s
theorem stays_rd (B s : Nat) : Stays (IsRd B s) := fun _ _ _ hb ⟨r, h1, h2, h3⟩ => ⟨r, h1, h2, h3.below hb⟩
def IsOz (B n : Nat) (l : List Int) : Value → World → Prop := fun v W => ∃ a c, v = .slice a n c ∧ OwnZ B W (.slice a n c) n l
theorem stays_oz (B n : Nat) (l : List Int) : Stays (IsOz B n l) := fun _ _ _ hb ⟨a, c, h1, h2⟩ => ⟨a, c, h1, h2.below hb⟩
theorem IsOz.zs {B n : Nat} {l : List Int} {v : Value} {W : World} (h : IsOz B n l v W) : Zs W v l := by
  obtain ⟨a, c, rfl, h⟩ := h
  exact h.zs
theorem us_lit3 (w : World) (t : TypeId) (x y z : Nat) (hx : x < 18446744073709551616) (hy : y < 18446744073709551616) (hz : z < 18446744073709551616) (b : Nat) (hb : b = w.heap.size) : Us (w.alloc (.cells #[.int .u64 (x : Int), .int .u64 (y : Int), .int .u64 (z : Int)] t)) (.slice (some ⟨b, 0, none⟩) 3 3) [x, y, z] :=
  ⟨Sl.lit w [uv x, uv y, uv z] t b 3 hb rfl (by simp), by intro q hq; simp at hq; rcases hq with rfl | rfl | rfl <;> assumption⟩
def IsTo (B t n : Nat) (l : List Int) : Value → World → Prop := fun v W => ∃ a c, v = .tuple #[.int .u64 (t : Int), .slice a n c] ∧ OwnZ B W (.slice a n c) n l
theorem stays_to (B t n : Nat) (l : List Int) : Stays (IsTo B t n l) := fun _ _ _ hb ⟨a, c, h1, h2⟩ => ⟨a, c, h1, h2.below hb⟩

/-- Params that may be, and what is made of them. -/
structure PrOk (N B Q E F : Int) (n q A : Nat) : Prop where
  may : May N B Q E F
  en : N = (n : Int)
  eq : Q = (q : Int)
  ea : aux N Q E = (A : Int)

theorem PrOk.of {N B Q E F : Int} (h : May N B Q E F) : ∃ n q A, PrOk N B Q E F n q A := by
  obtain ⟨h1, h2, h3, h4, h5, h6⟩ := h
  have r := aux_range h1 h3 h4
  exact ⟨N.toNat, Q.toNat, (aux N Q E).toNat, ⟨h1, h2, h3, h4, h5, h6⟩, by omega, by omega, by omega⟩

end

end Go.Proofs.Ytkckbeekehecnaa
