/-
  sample: the document's Has, Insert; Same.
-/
import Derived.Test.YtbnedpjfgadkkaaLInts
import Derived.Test.YtbnedpjfgadkkaaSmpM
namespace Go.Proofs.Ytbnedpjfgadkkaa
open Go.RowKit
set_option linter.unusedVariables false

theorem mem_drop_cons {l : List Int} {k : Nat} (h : k < l.length) (x : Int) : decide (x ∈ l.drop k) = (decide (x = l[k]) || decide (x ∈ l.drop (k + 1))) := by
  rw [Bool.eq_iff_iff]
  simp only [decide_eq_true_eq, Bool.or_eq_true]
  rw [List.drop_eq_getElem_cons h, List.mem_cons]

set_option maxHeartbeats 400000 in
/-- The document's Has. -/
theorem rhas_any (x : Int) (v : Value) (l : List Int) (w : World) (h : Zs w v l) :
    Calls Try.prog 46 #[v, .int .i64 x] w fun e w' => e = .returned (.bool (decide (x ∈ l))) ∧ w' = w := by
  obtain ⟨-, ao, cap, rfl, h2, h3, -, h5⟩ := h
  unfold maxLen at h3
  obtain ⟨m, hm⟩ : ∃ m, l.length = m := ⟨_, rfl⟩
  rw [hm] at h2 h5 ⊢
  have Hm : Hid (l.length = m) := hm
  have HC : Hid (m = 0 ∨ ∃ b off, ao = some ⟨b, off, none⟩ ∧ ∀ j u, (l.map (Value.int .i64))[j]? = some u → w.cell? ⟨b, off + j, none⟩ = some u) := h5
  clear hm h5
  go_enter Try.func46, Try.ntmps46
  go_wp2
  go_loop [5] (fun i => ∃ k : Nat, k ≤ m ∧ i = .int .i64 k ∧ Hid (decide (x ∈ l) = decide (x ∈ l.drop k))) (fun i => m - (intOf i).toNat)
  case atStart => exact ⟨0, by omega, rfl, rfl⟩
  case round =>
    obtain ⟨k, hk, rfl, HE⟩ := hrel
    by_cases hlt : k < m
    · have hkl : k < l.length := by rw [Hm.out]; exact hlt
      obtain ⟨b, off, rfl, hc⟩ : ∃ b off, ao = some ⟨b, off, none⟩ ∧ ∀ j u, (l.map (Value.int .i64))[j]? = some u → w.cell? ⟨b, off + j, none⟩ = some u := by
        rcases HC.out with h | h
        · omega
        · exact h
      have hck := hc k _ (map_z_at l k hkl)
      have HD : Hid (decide (x ∈ l.drop k) = (decide (x = l[k]) || decide (x ∈ l.drop (k + 1)))) := mem_drop_cons hkl x
      clear hc
      generalize l[k] = y at *
      by_cases hy : y = x
      · have hy' : (y == x) = true := by simpa using hy
        have HR : Hid (decide (x ∈ l) = true) := by unfold Hid; rw [HE.out, HD.out, hy]; simp
        clear HE HD
        go_wp2
        go_ret
        exact ⟨ret_bool HR.out.symm, rfl⟩
      · have hy' : (y == x) = false := by simpa using hy
        have HR : Hid (decide (x ∈ l) = decide (x ∈ l.drop (k + 1))) := by unfold Hid; rw [HE.out, HD.out, show decide (x = y) = false from by simpa using (fun e => hy e.symm), Bool.false_or]
        clear HE HD
        go_wp2
        go_round
        case rel => exact ⟨k + 1, by omega, by go_num, HR⟩
        case measure => simp [intOf]; omega
    · have HR : Hid (decide (x ∈ l) = false) := by unfold Hid; rw [HE.out, List.drop_eq_nil_of_le (by rw [Hm.out]; omega)]; simp
      clear HE
      go_wp2
      go_ret
      exact ⟨ret_bool HR.out.symm, rfl⟩

/-- What Insert has put so far. -/
def InsR (n : Int) (l : List Int) (k : Nat) (p : Bool) (o : List Int) : Prop :=
  (p = false ∧ o = l.take k ∧ ∀ x ∈ l.take k, ¬ n < x) ∨ (p = true ∧ o ++ l.drop k = insI n l ∧ o.length = k + 1)

theorem insI_split (n : Int) (a b : List Int) (h : ∀ x ∈ a, ¬ n < x) : insI n (a ++ b) = a ++ insI n b := by
  induction a with
  | nil => rfl
  | cons x a ih =>
    simp only [List.cons_append]
    rw [insI, if_neg (h x (by simp)), ih (fun y hy => h y (by simp [hy]))]

theorem InsR.start (n : Int) (l : List Int) : InsR n l 0 false [] := .inl ⟨rfl, rfl, by simp⟩
theorem InsR.put {n : Int} {l : List Int} {k : Nat} {o : List Int} (h : InsR n l k false o) (hk : k < l.length) (hx : n < l[k]) : InsR n l (k + 1) true (o ++ [n] ++ [l[k]]) := by
  rcases h with ⟨_, rfl, h2⟩ | ⟨h, _⟩
  · refine .inr ⟨rfl, ?_, by simp; omega⟩
    have e := insI_split n (l.take k) (l.drop k) h2
    rw [List.take_append_drop, List.drop_eq_getElem_cons hk, insI, if_pos hx] at e
    rw [e]
    simp
  · cases h
theorem InsR.pass {n : Int} {l : List Int} {k : Nat} {o : List Int} (h : InsR n l k false o) (hk : k < l.length) (hx : ¬ n < l[k]) : InsR n l (k + 1) false (o ++ [l[k]]) := by
  rcases h with ⟨_, rfl, h2⟩ | ⟨h, _⟩
  · refine .inl ⟨rfl, by rw [List.take_succ_eq_append_getElem hk], ?_⟩
    intro x hx'
    rw [List.take_succ_eq_append_getElem hk] at hx'
    rcases List.mem_append.1 hx' with h | h
    · exact h2 x h
    · obtain rfl := List.mem_singleton.1 h
      exact hx
  · cases h
theorem InsR.go {n : Int} {l : List Int} {k : Nat} {o : List Int} (h : InsR n l k true o) (hk : k < l.length) : InsR n l (k + 1) true (o ++ [l[k]]) := by
  rcases h with ⟨h, _⟩ | ⟨_, h2, h3⟩
  · cases h
  · refine .inr ⟨rfl, ?_, by simp [h3]⟩
    rw [List.drop_eq_getElem_cons hk] at h2
    rw [← h2]
    simp
theorem InsR.last {n : Int} {l : List Int} {k : Nat} {o : List Int} (h : InsR n l k false o) (hk : l.length ≤ k) : insI n l = o ++ [n] := by
  rcases h with ⟨_, rfl, h2⟩ | ⟨h, _⟩
  · have e := insI_split n (l.take k) (l.drop k) h2
    rw [List.take_append_drop, List.drop_eq_nil_of_le hk] at e
    exact e
  · cases h
theorem InsR.done {n : Int} {l : List Int} {k : Nat} {o : List Int} (h : InsR n l k true o) (hk : l.length ≤ k) : insI n l = o := by
  rcases h with ⟨h, _⟩ | ⟨_, h2, _⟩
  · cases h
  · rw [List.drop_eq_nil_of_le hk, List.append_nil] at h2
    exact h2.symm
theorem InsR.len0 {n : Int} {l : List Int} {k : Nat} {o : List Int} (h : InsR n l k false o) : o.length ≤ k := by
  rcases h with ⟨_, rfl, _⟩ | ⟨h, _⟩
  · simp; omega
  · cases h
theorem InsR.len {n : Int} {l : List Int} {k : Nat} {p : Bool} {o : List Int} (h : InsR n l k p o) (hk : k ≤ l.length) : o.length ≤ k + 1 := by
  rcases h with ⟨_, rfl, _⟩ | ⟨_, _, h⟩
  · simp; omega
  · omega

set_option maxRecDepth 100000 in
set_option maxHeartbeats 1000000 in
/-- The document's Insert. -/
theorem rins_any (x : Int) (v : Value) (l : List Int) (m : Nat) (w : World) (h : Zs w v l) (hlm : l.length = m) (hl : m ≤ 1000000) :
    Calls Try.prog 47 #[v, .int .i64 x] w fun e w' => ∃ a c, e = .returned (.slice a (m + 1) c) ∧ OwnZ w.heap.size w' (.slice a (m + 1) c) (m + 1) (insI x l) ∧ Below w.heap.size w w' := by
  obtain ⟨-, ao, cap, rfl, h2, h3, -, h5⟩ := h
  unfold maxLen at h3
  rw [hlm] at h2 h5 ⊢
  have Hm : Hid (l.length = m) := hlm
  have HC : Hid (m = 0 ∨ ∃ b off, ao = some ⟨b, off, none⟩ ∧ ∀ j u, (l.map (Value.int .i64))[j]? = some u → w.cell? ⟨b, off + j, none⟩ = some u) := h5
  clear hlm h5
  go_enter Try.func47, Try.ntmps47
  go_wp2
  go_loopw [5, 6, 7] (fun ov pv i wr => ∃ (k n c : Nat) (a : Option Addr) (p : Bool) (o : List Int), k ≤ m ∧ i = .int .i64 k ∧ pv = .bool p ∧ ov = .slice a n c ∧ n ≤ k + 1 ∧ Hid (InsR x l k p o) ∧ Hid (OwnZ w.heap.size wr (.slice a n c) n o) ∧ Hid (Below w.heap.size w wr)) (fun _ _ i _ => m - (intOf i).toNat)
  case atStart => exact ⟨0, 0, 0, _, false, [], by omega, rfl, rfl, rfl, by omega, InsR.start x l, OwnZ.new w, below_alloc _ _⟩
  case round =>
    obtain ⟨k, n, c, a, p, o, hk, rfl, rfl, rfl, hn, HI, HO, HB⟩ := hrel
    by_cases hlt : k < m
    · have hkl : k < l.length := by rw [Hm.out]; exact hlt
      obtain ⟨b, off, rfl, hc⟩ : ∃ b off, ao = some ⟨b, off, none⟩ ∧ ∀ j u, (l.map (Value.int .i64))[j]? = some u → w.cell? ⟨b, off + j, none⟩ = some u := by
        rcases HC.out with h | h
        · omega
        · exact h
      have hck0 := hc k _ (map_z_at l k hkl)
      have hck := (HB.out.cell (cell_block_lt hck0)).trans hck0
      cases p with
      | false =>
        by_cases hx : x < l[k]
        · have HI2 : Hid (InsR x l (k + 1) true (o ++ [x] ++ [l[k]])) := HI.out.put hkl hx
          have HCk : Hid (∀ W, Below w.heap.size w W → W.cell? ⟨b, off + k, none⟩ = some (.int .i64 l[k])) := fun W hW => (hW.cell (cell_block_lt hck0)).trans hck0
          have HL2 : Hid (n + 1 + 1 ≤ k + 1 + 1) := by have h1 := HI.out.len0; have h2 := HO.out.len; unfold Hid; omega
          clear hc HC HI hck0
          generalize l[k] = y at *
          go_wp2_with (first
            | (at_builtin; refine wpList_addZ _ rfl (.tmp 25) (.tmp 27) rfl w.heap.size (.slice a n c) n o rfl (HO.out.alloc _) _ 1 [x] rfl (zs_one _ _ _) (by omega) (by have := HB.out.size; simp; omega) ?_; intro a1 c1 w1 ho1 hg1 hat1 hnc1 hcm1; have O1 : Hid (OwnZ w.heap.size w1 (.slice a1 (n + 1) c1) (n + 1) (o ++ [x])) := ho1; have B1 : Hid (Below w.heap.size w w1) := below_added (HB.out.alloc HB.out.size _) (HO.out.alloc _) (Nat.le_refl _) (by have := HB.out.size; simp; omega) hg1; have hc1 := HCk.out w1 B1.out; clear ho1 hg1 hat1)
            | (at_builtin; refine wpList_addZ _ rfl (.tmp 29) (.tmp 34) rfl w.heap.size (.slice a1 (n + 1) c1) (n + 1) (o ++ [x]) rfl (O1.out.alloc _) _ 1 [y] rfl (zs_one _ _ _) (by omega) (by have := B1.out.size; simp; omega) ?_; intro a2 c2 w2 ho2 hg2 hat2 hnc2 hcm2))
          have O2 : Hid (OwnZ w.heap.size w2 (.slice a2 (n + 1 + 1) c2) (n + 1 + 1) (o ++ [x] ++ [y])) := ho2
          have B2 : Hid (Below w.heap.size w w2) := below_added (B1.out.alloc B1.out.size _) (O1.out.alloc _) (Nat.le_refl _) (by have := B1.out.size; simp; omega) hg2
          clear ho2 hg2 hat2
          go_roundw
          case rel => exact ⟨k + 1, n + 1 + 1, c2, a2, true, _, by omega, by go_num, rfl, rfl, HL2.out, HI2, O2, B2⟩
          case measure => simp [intOf]; omega
        · have HI2 : Hid (InsR x l (k + 1) false (o ++ [l[k]])) := HI.out.pass hkl hx
          have HL2 : Hid (n + 1 ≤ k + 1 + 1) := by have h1 := HI.out.len0; have h2 := HO.out.len; unfold Hid; omega
          clear hc HC HI hck0
          generalize l[k] = y at *
          go_wp2_with (at_builtin; refine wpList_addZ _ rfl (.tmp 29) (.tmp 34) rfl w.heap.size (.slice a n c) n o rfl (HO.out.alloc _) _ 1 [y] rfl (zs_one _ _ _) (by omega) (by have := HB.out.size; simp; omega) ?_; intro a2 c2 w2 ho2 hg2 hat2 hnc2 hcm2)
          have O2 : Hid (OwnZ w.heap.size w2 (.slice a2 (n + 1) c2) (n + 1) (o ++ [y])) := ho2
          have B2 : Hid (Below w.heap.size w w2) := below_added (HB.out.alloc HB.out.size _) (HO.out.alloc _) (Nat.le_refl _) (by have := HB.out.size; simp; omega) hg2
          clear ho2 hg2 hat2
          go_roundw
          case rel => exact ⟨k + 1, n + 1, c2, a2, false, _, by omega, by go_num, rfl, rfl, by omega, HI2, O2, B2⟩
          case measure => simp [intOf]; omega
      | true =>
        have HI2 : Hid (InsR x l (k + 1) true (o ++ [l[k]])) := HI.out.go hkl
        clear hc HC HI hck0
        generalize l[k] = y at *
        go_wp2_with (at_builtin; refine wpList_addZ _ rfl (.tmp 29) (.tmp 34) rfl w.heap.size (.slice a n c) n o rfl (HO.out.alloc _) _ 1 [y] rfl (zs_one _ _ _) (by omega) (by have := HB.out.size; simp; omega) ?_; intro a2 c2 w2 ho2 hg2 hat2 hnc2 hcm2)
        have O2 : Hid (OwnZ w.heap.size w2 (.slice a2 (n + 1) c2) (n + 1) (o ++ [y])) := ho2
        have B2 : Hid (Below w.heap.size w w2) := below_added (HB.out.alloc HB.out.size _) (HO.out.alloc _) (Nat.le_refl _) (by have := HB.out.size; simp; omega) hg2
        clear ho2 hg2 hat2
        go_roundw
        case rel => exact ⟨k + 1, n + 1, c2, a2, true, _, by omega, by go_num, rfl, rfl, by omega, HI2, O2, B2⟩
        case measure => simp [intOf]; omega
    · cases p with
      | false =>
        have HE : Hid (insI x l = o ++ [x]) := HI.out.last (by rw [Hm.out]; omega)
        have HN : Hid (n = m) := by
          have e1 := HO.out.len
          have e2 := insI_length x l
          rw [HE.out, Hm.out] at e2
          simp at e2
          unfold Hid
          omega
        obtain rfl := HN.out
        clear HI HC HN
        go_wp2_with (at_builtin; refine wpList_addZ _ rfl (.tmp 38) (.tmp 40) rfl w.heap.size (.slice a n c) n o rfl (HO.out.alloc _) _ 1 [x] rfl (zs_one _ _ _) (by omega) (by have := HB.out.size; simp; omega) ?_; intro a2 c2 w2 ho2 hg2 hat2 hnc2 hcm2)
        have B2 : Hid (Below w.heap.size w w2) := below_added (HB.out.alloc HB.out.size _) (HO.out.alloc _) (Nat.le_refl _) (by have := HB.out.size; simp; omega) hg2
        go_ret
        exact ⟨a2, c2, rfl, by rw [HE.out]; exact ho2, B2.out⟩
      | true =>
        have HE : Hid (insI x l = o) := HI.out.done (by rw [Hm.out]; omega)
        have HN : Hid (n = m + 1) := by
          have e1 := HO.out.len
          have e2 := insI_length x l
          rw [HE.out, Hm.out] at e2
          unfold Hid
          omega
        obtain rfl := HN.out
        clear HI HC HN
        go_wp2
        go_ret
        exact ⟨a, c, rfl, by rw [HE.out]; exact HO.out, HB.out⟩

end Go.Proofs.Ytbnedpjfgadkkaa
