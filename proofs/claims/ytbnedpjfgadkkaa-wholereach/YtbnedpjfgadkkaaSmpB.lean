/-
  sample: Some and Has, as the program has them.
-/
import Derived.Test.YtbnedpjfgadkkaaLInts
import Derived.Test.YtbnedpjfgadkkaaSmpM
import Derived.Test.YtbnedpjfgadkkaaShelf
import Derived.Test.YtbnedpjfgadkkaaLSlice
import Derived.Sort.OwnSortedInts
import Derived.Maps.Own
import Derived.Maps.OwnOps
import Derived.Maps.Views
namespace Go.Proofs.Ytbnedpjfgadkkaa
open Go.RowKit Go.Maps
set_option linter.unusedVariables false

theorem min2Z (a b : Int) (W : World) : (Builtin.min_ #[3, 3] 3 #[.int .i64 a, .int .i64 b]).run Try.prog W = .ok (.int .i64 (min a b)) W := by
  simp only [Builtin.min_, List.foldlM, Builtin.min2, Sem.run_pure, pure_bind]
  congr 2
  split <;> omega

theorem run_mapHint (n : Int) (w : World) : (Instr.makeMap 81 (some (.int .i64 n))).run Try.prog w = .ok (.map (some w.heap.size)) (w.alloc (.map #[] 0)) := by
  simp [Instr.makeMap, run_underlying Try.underlying81, asInt, asIntOf, Result.andThen]

/-- SORT: numbers of one's own. -/
theorem sort_own (B : Nat) (a : Option Addr) (n c : Nat) (l : List Int) (w : World) (h : OwnZ B w (.slice a n c) n l) (hn : n ≤ 1000000000) :
    Calls Try.prog 43 #[.slice a n c] w fun e w' => e = .returned (.tuple #[]) ∧ OwnZ B w' (.slice a n c) n (sortI l) ∧ w.grownBy w' (Value.slice a n c).ownBlock := by
  have hl := h.len
  rcases h.2 with ⟨hv, h0⟩ | ⟨g, cap, cur, hv, hg, hh, hnc, hcm, hcs, htake⟩
  · injection hv with e1 e2 e3
    subst e1; subst e2; subst e3
    refine (Any.slices_Sort_int_none Try.lays189 none 0 w).mono ?_
    rintro e w' ⟨rfl, rfl⟩
    obtain rfl : l = [] := List.eq_nil_of_length_eq_zero hl
    exact ⟨rfl, by rw [show sortI [] = [] from by simp [sortI]]; exact h, World.grownBy.refl _ _⟩
  · injection hv with e1 e2 e3
    subst e1; subst e3
    have hH : Sort.Holds (Value.int .i64) w g 0 l.toArray := holds_of_blockI hh (by
      have := htake
      simp only [Nat.mul_one] at this
      rw [hl]
      exact this)
    have hlt : g < w.heap.size := (Array.getElem?_eq_some_iff.1 hh).1
    subst hl
    refine (Any.slices_Sort_int Try.lays189 g 0 c l w hH hlt (by omega)).mono ?_
    rintro e w' ⟨rfl, k, os, rfl⟩
    exact ⟨rfl, ownsRow_sortedI (sortI_length l) hg hh hnc hcm hcs, grownBy_sortedI _⟩

theorem zs_cells {w : World} {a : Option Addr} {n c : Nat} {l : List Int} (h : Zs w (.slice a n c) l) : n = l.length ∧ (l.length = 0 ∨ ∃ b off, a = some ⟨b, off, none⟩ ∧ ∀ j, j < l.length → w.cell? ⟨b, off + j, none⟩ = some (.int .i64 (l.getD j 0))) := by
  obtain ⟨_, ao, cap, hv, h2, h3, _, h5⟩ := h
  injection hv with e1 e2 e3
  subst e1
  refine ⟨e2, ?_⟩
  rcases h5 with h0 | ⟨b, off, rfl, hc⟩
  · exact .inl h0
  · refine .inr ⟨b, off, rfl, fun j hj => ?_⟩
    rw [hc j _ (map_z_at l j hj)]
    simp [List.getD, hj]

/-- How a bool of a map reads. -/
def boolR : Value → Option (DataW Unit × List MemPlace)
  | .bool x => some (.lit (.bool x), [])
  | _ => none

theorem boolR_inv {v : Value} {x : Bool} {ps : List MemPlace} (h : boolR v = some (.lit (.bool x), ps)) : v = .bool x := by
  cases v <;> simp [boolR] at h
  rw [h.1]

theorem Try.lawZ : Keyed Try.prog 3 := int_keyed Try.underlying3
theorem Try.zeroB (w : World) : (zeroValue 4).run Try.prog w = .ok (.bool false) w := by kernel_rfl

/-- The map: which numbers were taken. -/
def TakI (w : World) (mb k : Nat) (l : List Int) : Prop :=
  ∃ D, w.ownsMap Try.prog 3 boolR mb k D ∧ IsMap D ∧ ∀ x : Int, D.atKey (.int .i64 x) (.lit (.bool false)) = .lit (.bool (decide (x ∈ l)))

theorem TakI.start (w : World) : TakI (w.alloc (.map #[] 0)) w.heap.size 0 [] := ⟨_, World.ownsMap_made _ _ _ _, isMap_empty, fun x => by simp; rfl⟩
theorem TakI.kept {w w' : World} {mb k : Nat} {l : List Int} (h : TakI w mb k l) (hk : w'.heap[mb]? = w.heap[mb]?) : TakI w' mb k l := by
  obtain ⟨D, ⟨es, clock, h1, h2⟩, h3, h4⟩ := h
  exact ⟨D, ⟨es, clock, hk.trans h1, h2⟩, h3, h4⟩
theorem TakI.lt {w : World} {mb k : Nat} {l : List Int} (h : TakI w mb k l) : mb < w.heap.size := by
  obtain ⟨D, h1, _⟩ := h
  exact h1.lt
theorem TakI.look {w : World} {mb k : Nat} {l : List Int} (h : TakI w mb k l) (x : Int) (hx : (Lit.int .i64 x).wf = true) : (Instr.lookup 81 (.map (some mb)) (.int .i64 x) false).run Try.prog w = .ok (.bool (decide (x ∈ l))) w := by
  obtain ⟨D, h1, h2, h3⟩ := h
  obtain ⟨v, ps, hrun, hv⟩ := h1.lookup Try.lawZ Try.underlying81 (Try.zeroB _) (show boolR (.bool false) = some (.lit (.bool false), []) from rfl) (keyOf_int_mk Try.underlying3 hx)
  rw [h3 x] at hv
  rw [hrun, boolR_inv hv]
theorem TakI.put {w : World} {mb k : Nat} {l : List Int} (h : TakI w mb k l) (x : Int) (hx : (Lit.int .i64 x).wf = true) (hk : k ≤ 1000000000) : ∃ w', (Instr.mapUpdate 81 (.map (some mb)) (.int .i64 x) (.bool true)).run Try.prog w = .ok () w' ∧ TakI w' mb (k + 1) (l ++ [x]) ∧ w.grownBy w' (some mb) := by
  obtain ⟨D, h1, h2, h3⟩ := h
  obtain ⟨w', hrun, ho, hg⟩ := h1.update Try.lawZ Try.underlying81 (by unfold maxLen; omega) (keyOf_int_mk Try.underlying3 hx) (show boolR (.bool true) = some (.lit (.bool true), []) from rfl)
  refine ⟨w', hrun, ⟨_, ho, h2.put _ _, fun y => ?_⟩, hg⟩
  by_cases hy : y = x
  · subst hy
    rw [atKey_put_same h2 (by simp [WideAt.IsKeyLit])]
    simp
  · rw [atKey_put_other (fun q => hy (by injection q)), h3 y]
    simp [hy]
theorem TakI.not_cells {w : World} {mb k : Nat} {l : List Int} (h : TakI w mb k l) {cs : Array Value} {t : TypeId} {fr : Nat × Nat} : w.heap[mb]? ≠ some (.cells cs t fr) := by
  obtain ⟨D, ⟨es, clock, h1, _⟩, _⟩ := h
  rw [h1]
  intro e
  cases e
theorem TakI.ne_cell {w : World} {mb k : Nat} {l : List Int} (h : TakI w mb k l) {p : Addr} {u : Value} (hc : w.cell? p = some u) : p.block ≠ mb := by
  intro e
  obtain ⟨D, ⟨es, clock, h1, _⟩, _⟩ := h
  rw [← e] at h1
  simp [World.cell?, h1] at hc

/-- What Some keeps while it draws. -/
structure SmI (w : World) (r mb st : Nat) (l : List Int) (v : Value) (i : Nat) (lt : List Int) (it : Nat) (W : World) : Prop where
  o : OwnZ w.heap.size W v i l
  t : TakI W mb it lt
  hr : IsRand W r st
  k : KeepsBut (fun x => x = r) w W
  r0 : r < w.heap.size
  m0 : w.heap.size ≤ mb

theorem SmI.ne {w : World} {r mb st : Nat} {l : List Int} {v : Value} {i : Nat} {lt : List Int} {it : Nat} {W : World} (h : SmI w r mb st l v i lt it W) {q : Nat} (hq : v.ownBlock = some q) : q ≠ mb := by
  rintro rfl
  rcases h.o.2 with ⟨hv, _⟩ | ⟨g, cap, cur, hv, _, hh, _⟩
  · rw [hv] at hq
    cases hq
  · rw [hv] at hq
    injection hq with hq
    subst hq
    exact h.t.not_cells hh

theorem SmI.drawn {w : World} {r mb st st' : Nat} {l : List Int} {v : Value} {i : Nat} {lt : List Int} {it : Nat} {W W' : World} (h : SmI w r mb st l v i lt it W) (hr : IsRand W' r st') (hk : KeepsBut (fun x => x = r) W W') : SmI w r mb st' l v i lt it W' := by
  have := h.r0
  have := h.m0
  exact ⟨h.o.kept (fun q hq => hk.block q (h.o.lt q hq).2 (by have := (h.o.lt q hq).1; omega)), h.t.kept (hk.block mb h.t.lt (by omega)), hr, h.k.trans hk, h.r0, h.m0⟩

theorem SmI.took {w : World} {r mb st : Nat} {l : List Int} {v : Value} {i : Nat} {lt lt' : List Int} {it it' : Nat} {W W' : World} (h : SmI w r mb st l v i lt it W) (ht : TakI W' mb it' lt') (hg : W.grownBy W' (some mb)) : SmI w r mb st l v i lt' it' W' := by
  have := h.r0
  have := h.m0
  have hk : KeepsBut (fun x => x = mb) W W' := KeepsBut.ofGrown hg rfl
  exact ⟨h.o.kept (fun q hq => hk.block q (h.o.lt q hq).2 (h.ne hq)), ht, h.hr.keeps hk (by omega), ⟨hk.os.trans h.k.os, hk.tape.trans h.k.tape, hk.output.trans h.k.output, Nat.le_trans h.k.size hk.size, fun j hj hs => (hk.block j (Nat.lt_of_lt_of_le hj h.k.size) (by omega)).trans (h.k.block j hj hs)⟩, h.r0, h.m0⟩

theorem SmI.added {w : World} {r mb st : Nat} {l l' : List Int} {v v' : Value} {i i' : Nat} {lt : List Int} {it : Nat} {W W' : World} {ob : Obj} (h : SmI w r mb st l v i lt it W) (ho : OwnZ w.heap.size W' v' i' l') (hg : (W.alloc ob).grownBy W' v.ownBlock) : SmI w r mb st l' v' i' lt it W' := by
  have h1 := h.r0
  have h2 := h.m0
  have key : ∀ j, j < W.heap.size → some j ≠ v.ownBlock → W'.heap[j]? = W.heap[j]? := fun j hj hne => (hg.block j (by simp; omega) hne).trans (Below.heap_alloc _ _ _ hj)
  have hsz : W.heap.size ≤ W'.heap.size := by have := hg.size; simp at this; omega
  refine ⟨ho, h.t.kept (key mb h.t.lt (fun e => h.ne e.symm rfl)), h.hr.kept (key r (cell_block_lt h.hr.cell) (fun e => by have := (h.o.lt r e.symm).1; omega)), ⟨hg.os.trans h.k.os, hg.tape.trans h.k.tape, hg.output.trans h.k.output, Nat.le_trans h.k.size hsz, fun j hj hs => (key j (Nat.lt_of_lt_of_le hj h.k.size) (fun e => by have := (h.o.lt j e.symm).1; omega)).trans (h.k.block j hj hs)⟩, h.r0, h.m0⟩

theorem picks_next {s : Nat} {A : Int} {i st : Nat} {l : List Int} (h : picks s A i = (st, l)) {j : Int} (hj : A + i = j) {t : Nat} {x : Int} (hx : belowD st (j + 1) = (t, x)) {y : Int} (hy : (if x ∈ l then j else x) = y) : picks s A (i + 1) = (t, l ++ [y]) := by
  subst hj
  subst hy
  unfold picks pickD
  rw [h]
  dsimp only
  rw [hx]

theorem wf_i64 {x : Int} (h0 : -9223372036854775808 ≤ x) (h1 : x < 9223372036854775808) : (Lit.int .i64 x).wf = true := by
  simp [Lit.wf, IntKind.min, IntKind.max, IntKind.bits, IntKind.signed]
  omega

set_option maxRecDepth 100000 in
set_option maxHeartbeats 1000000 in
theorem some_none (r : Nat) (b m : Int) (w : World) (h : m < 1 ∨ b < 1) :
    Calls Try.prog 29 #[.pointer (some ⟨r, 0, none⟩), .int .i64 b, .int .i64 m] w fun e w' => e = .returned (.slice none 0 0) ∧ w' = w := by
  by_cases hb : b < 1
  · clear h
    go_enter Try.func29, Try.ntmps29
    go_wp2
    go_ret
    exact ⟨rfl, rfl⟩
  · have hm : m < 1 := h.resolve_right hb
    clear h
    by_cases hb2 : b > 16777216
    · go_enter Try.func29, Try.ntmps29
      go_wp2
      go_ret
      exact ⟨rfl, rfl⟩
    · go_enter Try.func29, Try.ntmps29
      go_wp2
      go_ret
      exact ⟨rfl, rfl⟩

set_option maxRecDepth 100000 in
set_option maxHeartbeats 1000000 in
theorem some_some (r s : Nat) (b : Nat) (m : Int) (k : Nat) (w : World) (h : IsRand w r s) (hm : 1 ≤ m) (hb : 1 ≤ b) (hb2 : b ≤ 16777216) (hk : min m (b : Int) = (k : Int)) (t : Nat) (l : List Int) (HT : Hid (picks s ((b : Int) - k) k = (t, l))) :
    Calls Try.prog 29 #[.pointer (some ⟨r, 0, none⟩), .int .i64 b, .int .i64 m] w fun e w' => ∃ a c, e = .returned (.slice a k c) ∧ OwnZ w.heap.size w' (.slice a k c) k (sortI l) ∧ IsRand w' r t ∧ KeepsBut (fun x => x = r) w w' := by
  obtain ⟨i0, hi, hz0, hz1, hz2⟩ := infoZ_parts
  have hkb : k ≤ b := by omega
  have hk1 : 1 ≤ k := by omega
  have hmin := min2Z m b
  rw [hk] at hmin
  clear hk
  have HR : Hid (IsRand w r s) := h
  have hr0 : r < w.heap.size := cell_block_lt h.cell
  clear h
  go_enter Try.func29, Try.ntmps29
  go_upto_region 5 with (at_make; refine wpList_make_own _ rfl _ _ 33 rfl w.heap.size 3 i0 (.int .i64 0) 1 Try.underlying33 hi hz0 hz1 _ _ _ k rfl rfl rfl (by rw [hz2]; omega) (by unfold maxLen; omega) (Nat.le_refl _) ?_; intro w2 ho2 hgrow2)
  have O2 : Hid (OwnZ w.heap.size w2 (.slice (some ⟨w.heap.size, 0, none⟩) 0 k) 0 []) := ho2
  have B2 : Hid (Below w.heap.size w w2) := below_fresh hgrow2
  have R2 : Hid (IsRand w2 r s) := HR.out.below B2.out
  clear ho2 hgrow2 HR
  have I2 : Hid (SmI w r w2.heap.size s [] (.slice (some ⟨w.heap.size, 0, none⟩) 0 k) 0 [] 0 (w2.alloc (.map #[] 0))) :=
    ⟨O2.out.alloc _, TakI.start w2, R2.out.below (below_alloc _ _), KeepsBut.ofBelow (B2.out.alloc B2.out.size _), hr0, B2.out.size⟩
  obtain ⟨A, hA⟩ : ∃ A : Nat, A + k = b := ⟨b - k, by omega⟩
  have HA : Hid ((b : Int) - k = (A : Int)) := by unfold Hid; omega
  have HA2 : Hid (A + k = b) := hA
  rw [HA.out] at HT
  clear O2 B2 R2 hA
  have hsub : (b : Int) - (k : Int) = (A : Int) := HA.out
  clear HA
  have hmm := run_mapHint k
  go_wp2
  clear hmm
  generalize w2.heap.size = mb at *
  clear hmin
  go_loopw [7, 9] (fun sv jv wr => ∃ (i j st c : Nat) (a : Option Addr) (o : List Int), i ≤ k ∧ jv = .int .i64 j ∧ Hid (j = A + i) ∧ sv = .slice a i c ∧ Hid (picks s A i = (st, o)) ∧ Hid (SmI w r mb st o (.slice a i c) i o i wr)) (fun _ jv _ => b - (intOf jv).toNat)
  case atStart => exact ⟨0, A, s, k, _, [], by omega, rfl, rfl, rfl, rfl, I2⟩
  case round =>
    obtain ⟨i, j, st, c, a, o, hik, rfl, HJ, rfl, HP, HI⟩ := hrel
    clear I2
    by_cases hlt : j < b
    · obtain ⟨p, hp⟩ : ∃ p, belowD st ((j : Int) + 1) = p := ⟨_, rfl⟩
      obtain ⟨t1, x⟩ := p
      have hx := belowD_lt (s := st) (n := (j : Int) + 1) (by omega)
      have HB : Hid (∀ W, IsRand W r st → Calls Try.prog 42 #[.pointer (some ⟨r, 0, none⟩), .int .i64 ((j : Int) + 1)] W fun e w' => e = .returned (.int .i64 x) ∧ IsRand w' r t1 ∧ KeepsBut (fun k => k = r) W w' ∧ w'.heap.size = W.heap.size) := by
        intro W hW
        have := rbelow_any r st ((j : Int) + 1) W hW (by omega)
        rw [hp] at this
        exact this
      rw [hp] at hx
      obtain ⟨hx0, hx1⟩ := hx
      dsimp only at hx0 hx1
      have HN : Hid (∀ y, (if x ∈ o then (j : Int) else x) = y → picks s A (i + 1) = (t1, o ++ [y])) := fun y hy => picks_next HP.out (by rw [HJ.out]; simp) hp hy
      have HI1 : Hid (i + 1 ≤ k) := by
        have := HJ.out
        have := HA2.out
        unfold Hid
        omega
      clear hp HP
      go_upto_region 10 with fail
      refine (HB.out _ HI.out.hr).mono ?_
      rintro e w3 ⟨rfl, hr3, hk3, -⟩
      have I3 : Hid (SmI w r mb t1 o (.slice a i c) i o i w3) := HI.out.drawn hr3 hk3
      clear hr3 hk3 HI HB
      have hlook := I3.out.t.look x (wf_i64 (by omega) (by omega))
      by_cases hm : x ∈ o
      · have HN2 := HN.out j (if_pos hm)
        have hd : decide (x ∈ o) = true := by simpa using hm
        rw [hd] at hlook
        obtain ⟨w4, hput, ht4, hg4⟩ := I3.out.t.put j (wf_i64 (by omega) (by omega)) (by omega)
        have I4 : Hid (SmI w r mb t1 o (.slice a i c) i (o ++ [(j : Int)]) (i + 1) w4) := I3.out.took ht4 hg4
        have P4 : Hid (picks s A (i + 1) = (t1, o ++ [(j : Int)])) := HN2
        clear ht4 hg4 HN HN2 hm hd I3
        go_wp2_with (at_builtin; refine wpList_addZ _ rfl (.tmp 50) (.tmp 52) rfl w.heap.size (.slice a i c) i o rfl (I4.out.o.alloc _) _ 1 [(j : Int)] rfl (zs_one _ _ _) (by omega) (by have := I4.out.k.size; simp; omega) ?_; intro a5 c5 w5 ho5 hg5 hat5 hnc5 hcm5)
        have I5 : Hid (SmI w r mb t1 (o ++ [(j : Int)]) (.slice a5 (i + 1) c5) (i + 1) (o ++ [(j : Int)]) (i + 1) w5) := I4.out.added ho5 hg5
        clear ho5 hg5 hat5 I4 hput hlook
        go_roundw
        case rel => exact ⟨i + 1, j + 1, t1, c5, a5, _, HI1.out, by go_num, by unfold Hid; rw [HJ.out]; omega, rfl, P4, I5⟩
        case measure => simp [intOf]; omega
      · have HN2 := HN.out x (if_neg hm)
        have hd : decide (x ∈ o) = false := by simpa using hm
        rw [hd] at hlook
        obtain ⟨w4, hput, ht4, hg4⟩ := I3.out.t.put x (wf_i64 (by omega) (by omega)) (by omega)
        have I4 : Hid (SmI w r mb t1 o (.slice a i c) i (o ++ [x]) (i + 1) w4) := I3.out.took ht4 hg4
        have P4 : Hid (picks s A (i + 1) = (t1, o ++ [x])) := HN2
        clear ht4 hg4 HN HN2 hm hd I3
        go_wp2_with (at_builtin; refine wpList_addZ _ rfl (.tmp 50) (.tmp 52) rfl w.heap.size (.slice a i c) i o rfl (I4.out.o.alloc _) _ 1 [x] rfl (zs_one _ _ _) (by omega) (by have := I4.out.k.size; simp; omega) ?_; intro a5 c5 w5 ho5 hg5 hat5 hnc5 hcm5)
        have I5 : Hid (SmI w r mb t1 (o ++ [x]) (.slice a5 (i + 1) c5) (i + 1) (o ++ [x]) (i + 1) w5) := I4.out.added ho5 hg5
        clear ho5 hg5 hat5 I4 hput hlook
        go_roundw
        case rel => exact ⟨i + 1, j + 1, t1, c5, a5, _, HI1.out, by go_num, by unfold Hid; rw [HJ.out]; omega, rfl, P4, I5⟩
        case measure => simp [intOf]; omega
    · have hi : Hid (i = k) := by
        have := HJ.out
        have := HA2.out
        unfold Hid
        omega
      obtain rfl := hi.out
      have HE : Hid ((st, o) = (t, l)) := HP.out.symm.trans HT.out
      obtain ⟨rfl, rfl⟩ := Prod.mk.inj HE.out
      clear HP HT HE hi
      have HS : Hid (Calls Try.prog 43 #[.slice a i c] wr fun e w' => e = .returned (.tuple #[]) ∧ OwnZ w.heap.size w' (.slice a i c) i (sortI o) ∧ wr.grownBy w' (Value.slice a i c).ownBlock) := sort_own w.heap.size a i c o wr HI.out.o (by omega)
      go_wp2_with fail
      refine HS.out.mono ?_
      rintro e w4 ⟨rfl, ho4, hg4⟩
      have F : Hid (OwnZ w.heap.size w4 (.slice a i c) i (sortI o) ∧ IsRand w4 r st ∧ KeepsBut (fun x => x = r) w w4) := by
        have h0 := HI.out.r0
        refine ⟨ho4, HI.out.hr.kept (hg4.block r (cell_block_lt HI.out.hr.cell) (fun e => by have := (HI.out.o.lt r e.symm).1; omega)), ?_⟩
        exact ⟨hg4.os.trans HI.out.k.os, hg4.tape.trans HI.out.k.tape, hg4.output.trans HI.out.k.output, Nat.le_trans HI.out.k.size hg4.size, fun j hj hs => (hg4.block j (Nat.lt_of_lt_of_le hj HI.out.k.size) (fun e => by have := (HI.out.o.lt j e.symm).1; omega)).trans (HI.out.k.block j hj hs)⟩
      clear ho4 hg4 HS HI
      go_wp2
      go_ret
      exact ⟨a, c, rfl, F.out⟩

/-- SOME: of any numbers. -/
theorem some_any (r s : Nat) (b m : Int) (w : World) (h : IsRand w r s) (hb2 : b ≤ 16777216) (k : Nat) (hk : howMany b m = k) (t : Nat) (l : List Int) (HT : Hid (someD s b m = (t, l))) :
    Calls Try.prog 29 #[.pointer (some ⟨r, 0, none⟩), .int .i64 b, .int .i64 m] w fun e w' => ∃ a c, e = .returned (.slice a k c) ∧ OwnZ w.heap.size w' (.slice a k c) k l ∧ IsRand w' r t ∧ KeepsBut (fun x => x = r) w w' := by
  by_cases h0 : m < 1 ∨ b < 1
  · refine (some_none r b m w h0).mono ?_
    rintro e w' ⟨rfl, rfl⟩
    have e1 := HT.out
    rw [someD_none h0] at e1
    obtain ⟨rfl, rfl⟩ := Prod.mk.inj e1
    rw [howMany_none h0] at hk
    subst hk
    exact ⟨none, 0, rfl, OwnZ.nil _ _, h, KeepsBut.refl _ _⟩
  · have h1 : 1 ≤ m ∧ 1 ≤ b := by omega
    obtain ⟨n, rfl⟩ : ∃ n : Nat, b = n := ⟨b.toNat, by omega⟩
    rw [howMany_some h0] at hk
    have hk' : min m (n : Int) = (k : Int) := by omega
    have e1 := HT.out
    unfold someD at e1
    rw [howMany_some h0, hk] at e1
    obtain ⟨e2, e3⟩ := Prod.mk.inj e1
    rw [← e3]
    exact some_some r s n m k w h h1.1 (by omega) (by omega) hk' t _ (by unfold Hid; rw [← e2])

end Go.Proofs.Ytbnedpjfgadkkaa
